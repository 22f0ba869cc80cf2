import PyProof.Rows.All
import KE.IntBitsLaws
import KE.KBytesUnr
import KE.KDictSum
import KE.KOf
import KE.KPairRows
import KE.KPar
import KE.KRevIter
import KE.KSearch
import KE.KSortTup
import KE.KSplitRange
import KE.KTryMore
import KE.KxText
import OpenK.KSplit
import Wide.Meth
import Wide.FinOn
import KE.RegKIsAll
import PyProof.EqAt
import PyProof.EqKinds
import PyProof.TupleCall
import KE.KIntText
import PyProof.FString
import PyProof.Rows.SetFrom
import PySem.Challenge.RW_doletaper_k37_rows_refused
set_option Elab.async false
set_option compiler.extract_closed false
set_option linter.all false
set_option maxRecDepth 100000
set_option maxHeartbeats 4000000
open PySem
variable {f a p it e l r C dx d ea L a1 a2 a3:Addr}{s:Shared}{w:World}{M:Model}{pos pos' px py:Pos}{n t' i j m:Nat}{q:Nat->Addr}{loose ns ps zs as:List Str}{α:Type}{N N':Addr->Prop}{us its:List Value}{u cd doc pm cdv ct oc acc cls cx:Value}{P prog:Program}{h base h':Heap}{ch fp ex:List Addr}{A:Around}{E:Value->Shared->Prop}{pins:List (Addr×Obj)}{op:CmpOp}{y qual z:Str}{K:W.Frag}{st:Stmt}{es ifs:List Expr}{tg iter elt e0 e1 e2:Expr}{body:List Stmt}{lo:Int}{pl:Sem Bool}{mA mg:Str->Option Value}{kw:List (Str×Value)}{env:Env}{fd:FuncData}{outer:List Env}{sc scope:Scope}{an od co:Option Addr}{T:String}{XP:(Str->Option Value)->Heap->Prop}{YP:World->Heap->Prop}{caps:List (Option Nat)}{use:Option (Value->Sem Unit)}{ow:Addr->Nat}{qs:Nat->Nat->Addr}
def AL:=@Nat.le_of_ble_eq_true
def AM:=@PySem.F.excBase_ValueError
def AN:=@PySem.F.plainAttrs_str
def AO:=@List.eq_nil_of_length_eq_zero
def AQ:=@Array.length_toList
def AR:=@Array.toList_append
def AS:=@False.elim
def AU:=@PySem.F.slot_str_split
def AV:=@PySem.F.type_str_split
def DX:=@wpAny_bind
def DY:=@if_neg
def DZ:=@if_pos
def D0:=@List.length_append
def D1:=@List.length_map
def D2:=@Nat.le_refl
def D3:=@wpAny_pure
def D4:=@List.getElem?_eq_getElem
def D5:=@Heap.lt_size
def D6:=@List.length_singleton
def D7:=@List.mem_singleton
def D8:=@Heap.get?_push_of_some
def D9:=@List.map_append
def Ca:=@List.mem_cons
def Cb:=@sizeLine_eq
def Cc:=@Bool.eq_false_iff
def Cd:=@Nat.ne_of_lt
def Ce:=@decide_eq_false
def Cf:=@wpAny_mono
def Cg:=@List.getElem?_eq_some_iff
def Ci:=@Int.emod_nonneg
def Ck:=@decide_eq_true
def Cm:=@List.length_cons
def Cn:=@Nat.lt_of_lt_of_le
def Co:=@Nat.le_trans
def Cq:=@Int.emod_lt_of_pos
def Cr:=@List.mem_append
def Cs:=@List.append_nil
def Ct:=@List.getElem?_map
def Cu:=@List.mem_cons_of_mem
def Cv:=@Option.map_eq_some_iff
def Cw:=@List.mem_cons_self
def Cy:=@Bool.false_ne_true
def Cz:=@Heap.get?_push_size
def CA:=@List.size_toArray
def CB:=@Nat.lt_irrefl
def CC:=@List.length_take
def CD:=@Option.some.inj
def CF:=@Nat.zero_le
def CG:=@List.getElem?_append_right
def CH:=@List.take_of_length_le
def CI:=@List.getElem?_append_left
def CJ:=@PySem.F.plainAttrs_list
def CK:=@Nat.sub_self
def CM:=@PySem.F.slot_list_append
def CO:=@PySem.F.type_list_append
def CP:=@Ne.symm
def CQ:=@List.map_cons
def CS:=@List.take_add_one
def CT:=@Int.eq_ofNat_of_zero_le
def CU:=@List.mem_append_right
def CV:=@Bool.and_eq_true
def CW:=@Heap.get?_update_of_ne
def CY:=@Nat.le_succ
def CZ:=@List.nodup_cons
def C0:=@List.mem_append_left
def C1:=@List.all_eq_true
def C3:=@of_decide_eq_true
def C4:=@List.mem_filter
def C5:=@codeAny_mono
def C6:=@List.mem_of_getElem?
def C7:=@List.nodup_append
def C8:=@List.mem_map
def C9:=@Bool.eq_iff_iff
def Aa:=@Bool.and_false
def Ab:=@Heap.get?_update_self
def Ac:=@PyProof.Rows.boot_list
def Ad:=@List.getElem?_eq_none
def Ae:=@wpAny_Call_Name_kw
def Af:=@PySem.mem_of_lookup
def Ag:=@List.length_drop
def Ah:=@List.map_map
def Ai:=@decide_eq_true_eq
def Aj:=@List.take_append_drop
def Ak:=@Nat.le_of_lt
def Al:=@wpAny_execs_nil
def Am:=@wpAny_truthy_bool
def An:=@wpAny_passesOwn
def Ao:=@Nat.lt_succ_self
def Ap:=@List.flatten_append
def Aq:=@Nat.lt_of_le_of_lt
def As:=@Bool.not_eq_true'
def Au:=@List.find?_cons
def Av:=@List.filter_append
def Aw:=@Int.natAbs_mul
def Ax:=@Classical.choose_spec
def Ay:=@Nat.not_lt
def Az:=@List.length_filter_le
def AA:=@List.getElem?_cons_succ
def AB:=@List.ext_getElem?
def AC:=@Nat.ne_of_gt
def AD:=@PyProof.Rows.callWith_type1
def AE:=@List.getD_eq_getElem?_getD
def AF:=@PassesOwn.never
def AG:=@List.nodup_nil
def AH:=@plainObj_wpAny_Assign_Attribute
noncomputable section
section
open W
theorem wsa:looksOpen PySem.Challenge.rw_doletaper_k37_rows_refused.row.prog=true:=by kernel_rfl
theorem wsb:PySem.Challenge.rw_doletaper_k37_rows_refused.row.partSaid=true:=by unfold OpenRow.partSaid;rw[wsa];kernel_rfl
theorem wsc:PySem.Challenge.rw_doletaper_k37_rows_refused.row.wellSaid=true:=by unfold OpenRow.wellSaid;rw[wsb];kernel_rfl
theorem wsd:PySem.Challenge.rw_doletaper_k37_rows_refused.wellSaid=true:=by unfold OpenLaw.wellSaid;rw[wsc];kernel_rfl
end
namespace Hd
open W Calls PyProof.Rows
section
variable {α β:Type}
def ap (k:α->β)(x:α):β:=k x
def fB (b:Bool)(k:Bool->β):β:=@Bool.rec (λ_=>β) (ap k false) (ap k true) b
theorem Tq (b)(k:Bool->β):fB b k=k b:=by cases b<;>rfl
def fN (n:Nat)(k:Nat->β):β:=@Nat.rec (λ_=>β) (ap k 0) (λm _=>ap k (Nat.succ m)) n
theorem X8 (n:Nat)(k:Nat->β):fN n k=k n:=by cases n<;>rfl
def fL (f:α->(α->β)->β)(l:List α):(List α->β)->β:=
 @List.rec α (λ_=>(List α->β)->β) (λk=>ap k []) (λa _ ih k=>f a λa'=>ih λl'=>ap k (a' :: l')) l
theorem Np {f}(hf:∀a k,f a k=k a):∀(l) (k:List α->β),fL f l k=k l
 | [],_=>rfl
 | a::l,k=>by show f a (λU=>fL f l λJ=>ap k (U :: J))=_;rw[hf,Np hf l];rfl
def fA (f:α->(α->β)->β)(x:Array α)(k:Array α->β):β:=@Array.rec α (λ_=>β) (λl=>fL f l λl'=>ap k ⟨l'⟩) x
theorem Uk {f}(hf:∀a k,f a k=k a)(x)(k:Array α->β):fA f x k=k x:=by
 cases x with|mk l=>exact Np hf l _
def fO (f:α->(α->β)->β)(x:Option α)(k:Option α->β):β:=@Option.rec α (λ_=>β) (ap k none) (λa=>f a λa'=>ap k (some a')) x
theorem Nn {f}(hf:∀a k,f a k=k a)(x)(k:Option α->β):fO f x k=k x:=by
 cases x with
 | none=>rfl
 | some a=>exact hf a _
def fV (v:Value)(k:Value->β):β:=@Value.rec (λ_=>β) (ap k .none) (ap k .ellipsis) (ap k .notImplemented) (λb=>fB b λb=>ap k (.bool b)) (λi t=>fN t λt=>ap k (.int i t)) (λi t=>ap k (.float i t))
 (λs t=>fN t λt=>ap k (.str s t)) (λb t=>ap k (.bytes b t)) (λs=>ap k (.type s)) (λs=>ap k (.builtin s)) (λa=>fN a λa=>ap k (.ref a)) v
theorem Yv (v)(k:Value->β):fV v k=k v:=by
 cases v<;>first|rfl|exact Tq _ _|exact X8 _ _
def fE (e:DictEntry)(k:DictEntry->β):β:=@DictEntry.rec (λ_=>β) (λh a b=>fV a λa=>fV b λb=>ap k ⟨h,a,b⟩) e
theorem EX (e)(k:DictEntry->β):fE e k=k e:=by
 cases e with|mk h a b=>show fV a _=_;rw[Yv,Yv];rfl
def fF (f:FuncData)(k:FuncData->β):β:=@FuncData.rec (λ_=>β) (λnm qn pa bo sc U cl J kw doc pm an cd ct bu=>fN U λU=>fV J λJ=>fV kw λkw=>fV doc λdoc=>fV pm λpm=>fO fN an λan=>fV cd λcd=>fV ct λct=>fN bu λbu=>ap k ⟨nm,qn,pa,bo,sc,U,cl,J,kw,doc,pm,an,cd,ct,bu⟩) f
theorem EW (f)(k:FuncData->β):fF f k=k f:=by
 cases f;show fN _ _=_;simp only[X8,Yv,Nn X8];rfl
def fC (c:ClassData)(k:ClassData->β):β:=@ClassData.rec (λ_=>β) (λnm ba mr ns qn U sl su ab co J=>fL fV ba λba=>fL fV mr λmr=>fN ns λns=>fB U λU=>fL fV su λsu=>fB ab λab=>fB J λJ=>ap k ⟨nm,ba,mr,ns,qn,U,sl,su,ab,co,J⟩) c
theorem EZ (c)(k:ClassData->β):fC c k=k c:=by
 cases c;show fL _ _ _=_;simp only[X8,Tq,Np Yv];rfl
def fD (d:Data)(k:Data->β):β:=@Data.rec (λ_=>β) (ap k .plain) (λv=>fV v λv=>ap k (.prim v)) (λx n=>fA fV x λx=>fN n λn=>ap k (.seq x n)) (λx n=>fA fE x λx=>fN n λn=>ap k (.dict x n))
 (λx n t=>ap k (.set x n t)) (λb n=>ap k (.bytearray b n)) (λv=>fO fV v λv=>ap k (.cell v)) (λf=>fF f λf=>ap k (.func f)) (λc=>fC c λc=>ap k (.cls c)) (λx=>fA fV x λx=>ap k (.fields x)) (ap k .freed) d
theorem EY (d)(k:Data->β):fD d k=k d:=by
 cases d with
 | plain|set|bytearray|freed=>rfl
 | prim v=>exact Yv _ _
 | seq x n=>show fA fV _ _=_;rw[Uk Yv,X8];rfl
 | dict x n=>show fA fE _ _=_;rw[Uk EX,X8];rfl
 | cell v=>exact Nn Yv _ _
 | func f=>exact EW _ _
 | cls f=>exact EZ _ _
 | fields f=>exact Uk Yv _ _
def gp (o:Obj)(k:Obj->β):β:=@Obj.rec (λ_=>β) (λc d x s=>fV c λc=>fO fN d λd=>fD x λx=>fA (fO fV) s λs=>ap k ⟨c,d,x,s⟩) o
theorem Vq (o)(k:Obj->β):gp o k=k o:=by
 cases o;show fV _ _=_;rw[Yv,Nn X8,EY,Uk (Nn Yv)];rfl
def fT (t:BT):(BT->β)->β:=@BT.rec (λ_=>(BT->β)->β) (λk=>ap k .nil) (λv _ _ l r k=>gp v λv=>l λl=>r λr=>ap k (.node v l r)) t
theorem L7:∀(t) (k:BT->β),fT t k=k t
 | .nil,_=>rfl
 | .node v l r,k=>by show gp v (λv=>fT l λl=>fT r λr=>ap k (.node v l r))=_;rw[Vq,L7 l,L7 r];rfl
def fP (p:Pos)(k:Pos->β):β:=@Pos.rec (λ_=>β) (λa b c d=>fN a λa=>fN b λb=>fN c λc=>fN d λd=>ap k ⟨a,b,c,d⟩) p
theorem EV (p)(k:Pos->β):fP p k=k p:=by
 cases p;show fN _ _=_;simp only[X8];rfl
def fS (s:SharedT)(k:SharedT->β):β:=@SharedT.rec (λ_=>β) (λt n li g d tk os=>fT t λt=>fN n λn=>fN tk λtk=>ap k ⟨t,n,li,g,d,tk,os⟩) s
theorem To (s)(k:SharedT->β):fS s k=k s:=by
 cases s;show fT _ _=_;rw[L7,X8,X8];rfl
def fH (s:Shared)(k:Shared->β):β:=@Shared.rec (λ_=>β) (λh g d tk os=>@Heap.rec (λ_=>β) (λx li=>fA gp x λx=>fN tk λtk=>ap k ⟨⟨x,li⟩,g,d,tk,os⟩) h) s
theorem Tp (s)(k:Shared->β):fH s k=k s:=by
 cases s with|mk h=>cases h;show fA _ _ _=_;rw[Uk Vq,X8];rfl
end
def sp {α:Type}:List α->List α×List α
 | []=>([],[])
 | x::xs=>(x::(sp xs).2,(sp xs).1)
theorem GV {α}:∀(l:List α) (i:Nat),(sp l).1[i]?=l[2*i]?/\(sp l).2[i]?=l[2*i+1]?
 | [],i=>by simp[sp]
 | x::xs,i=>by
  obtain⟨a,b⟩:=GV xs i;constructor
  ·cases i with
   | zero=>rfl
   | succ j=>show(sp xs).2[j]?=_;rw[(GV xs j).2,show 2*(j+1)=2*j+1+1 by omega,AA]
  ·show(sp xs).1[i]?=_;rw[a,AA]
theorem P6 {α}:∀(l:List α),(sp l).1.length<=l.length/\(sp l).2.length<=l.length
 | []=>by simp[sp]
 | x::xs=>by
  obtain⟨a,b⟩:=P6 xs;constructor<;>simp[sp]<;>omega
def JF:Nat->List Obj->BT
 | 0,_=>.nil
 | _+1,[]=>.nil
 | n+1,x::xs=>.node x (JF n (sp xs).1) (JF n (sp xs).2)
theorem Wq:∀(n:Nat) (l),l.length<=n->∀i,(JF n l).get i=l[i]?
 | 0,l,h,i=>by
  have:l=[]:=AO (by omega);subst this;simp[JF,BT.get]
 | n+1,[],h,i=>by simp[JF,BT.get]
 | n+1,x::xs,h,i=>by
  have U:=P6 xs;have h':xs.length<=n:=by simpa using h
  rw[JF,BT.get_node,Wq n _ (by omega),Wq n _ (by omega),(GV xs _).1,(GV xs _).2];by_cases J:i=0
  ·subst J;rfl
  ·rw[DY J];obtain⟨j,rfl⟩:∃j,i=j+1:=⟨i-1,by omega⟩
   rw[AA];by_cases h1:(j+1) % 2=1
   ·rw[DZ h1,show 2*((j+1) / 2)=j by omega]
   ·rw[DY h1,show 2*((j+1) / 2-1)+1=j by omega]
theorem RR (l)(t:BT)(h:∀i,t.get i=l[i]?):t.list l.length=l:=by
 unfold BT.list;apply AB;intro i;rw[Ct];by_cases hi:i<l.length
 ·rw[List.getElem?_range hi,Option.map_some,h,D4 hi];rfl
 ·rw[Ad (by simpa using hi),Ad (by omega)];rfl
def mI (s:Shared):SharedT:=⟨JF s.heap.objs.toList.length s.heap.objs.toList,s.heap.objs.toList.length,s.heap.life,s.gens,s.drawn,s.toks,s.os⟩
theorem BX (s):(mI s).abs=s:=by
 obtain⟨⟨⟨l⟩,J⟩,g,d,U,os⟩:=s;show(⟨absHeap _ _ _,_,_,_,_⟩:Shared)=_;simp only[mI,absHeap];rw[RR l _ (Wq _ l (D2 _))]
section
variable {β:Type}
def lN (x:Option (Flow×SharedT×Code×Pos))(k:SharedT->Code->Pos->Option β):Option β:=match x with
 | some (.next,s,c,p)=>k s c p
 | _=>none
def go (seg:List Stmt->SharedT->Pos->Option (Flow×SharedT×Code×Pos))(gs:List (List Stmt)):List Code->SharedT->Pos->(List Code->SharedT->Pos->Option β)->Option β:=
 @List.rec (List Stmt) (λ_=>List Code->SharedT->Pos->(List Code->SharedT->Pos->Option β)->Option β) (λcs s p k=>k cs s p)
  (λg _ J cs s p k=>lN (seg g s p) λs c p=>fS s λs=>fP p λp=>J (c::cs) s p k) gs
theorem VR {x:Option (Flow×SharedT×Code×Pos)}{k:SharedT->Code->Pos->Option β}{a:β}(h:lN x k=some a):∃s c p,x=some (.next,s,c,p)/\k s c p=some a:=by
 unfold lN at h;split at h
 ·exact⟨_,_,_,rfl,h⟩
 ·cases h
theorem Ng {cs:List Code}{s:SharedT}{p:Pos}{k:List Code->SharedT->Pos->Option β} :
  go seg (g::gs) cs s p k=lN (seg g s p) λs c p=>go seg gs (c::cs) s p k:=by
 show lN (seg g s p) (λs c p=>fS s λs=>fP p λp=>go seg gs (c::cs) s p k)=_
 congr 1;funext s c p;rw[To,EV]
theorem LV {a:List Code×β}(hk:∀cs s p,k cs s p=some a->a.1=cs) :
  ∀(gs:List (List Stmt)) (cs:List Code) (s:SharedT) (p:Pos),go seg gs cs s p k=some a->∀d∈cs,d∈a.1
 | [],cs,s,p,h,d,hd=>by rw[hk cs s p h];exact hd
 | g::gs,cs,s,p,h,d,hd=>by
  rw[Ng] at h;obtain⟨s',U,J,_,h2⟩:=VR h;exact LV hk gs _ s' J h2 d (Cu _ hd)
variable {tb:String->Option Builtin} {p:Program} {w:World} {n₀:Nat} {ann:Option Value} {env:Env} {q:Pos}
theorem Tn {F M:Nat}{Z:Shared->Prop}{k:List Code->SharedT->Pos->Option (List Code×β)}{a:List Code×β}(hk:∀cs s p,k cs s p=some a->a.1=cs)(hc:∀d∈a.1,d=c)
  (fin:∀cs s pos,k cs s pos=some a->∃r,topRun tb p w n₀ ann M s.abs (restOf [] env c pos [topFrame q])=some r/\Z r) :
  ∀(gs:List (List Stmt)) (cs:List Code) (s:SharedT) (pos:Pos),go (λg s pos=>segRunT tb p w n₀ ann 1 F s (piecesOf g env c pos [topFrame q])) gs cs s pos k=some a ->
   ∃r,topRun tb p w n₀ ann (gs.length*F+M) s.abs (restOf gs.flatten env c pos [topFrame q])=some r/\Z r
 | [],cs,s,pos,h=>by
  obtain⟨r,h1,h2⟩:=fin cs s pos h;exact⟨r,by simpa using h1,h2⟩
 | g::gs,cs,s,pos,h=>by
  rw[Ng] at h;obtain⟨s',U,p',h1,h2⟩:=VR h;have J:U=c:=hc _ (LV hk gs _ s' p' h2 U (.head _));subst J;obtain⟨r,h3,h4⟩:=Tn hk hc fin gs _ s' p' h2;refine⟨r,?_,h4⟩;have:=piece_app (rest:=gs.flatten) (segRun_of h1) h3;rw[List.flatten_cons,show(g::gs).length*F+M=F+(gs.length*F+M) by rw[Cm,Nat.add_mul];omega];exact this
end
def WB {α:Type}(c:Nat):Nat->List α->List (List α)
 | 0,l=>[l]
 | _+1,[]=>[]
 | n+1,x::xs=>(x::xs.take c)::WB c n (xs.drop c)
theorem JC {α}(c:Nat):∀(n:Nat) (l:List α),(WB c n l).flatten=l
 | 0,l=>by simp[WB]
 | n+1,[]=>rfl
 | n+1,x::xs=>by rw[WB,List.flatten_cons,JC c n];simp
def env0 (p:Program):Env:={ scope:=p.main.scope,locals:=mainNs,globals:=mainNs,cells:=[],code:=.ref 13,frame:=some 14 }
def Y3 (p:Program):Code:=.body (behindTheImports p) (env0 p)
abbrev Vd:Pos:=⟨0,0,0,0⟩
noncomputable abbrev fj (P:Params) (os:OsState):Shared:=⟨boot_heap P,Array.mk [],boot_drawn,boot_toks,os⟩
section
variable {β:Type}
def jo (p:Program)(w:World)(M:Nat)(look:Shared->β)(cs:List Code)(s:SharedT)(pos:Pos):Option (List Code×β):=
 fL gp (s.tree.list s.n) λl=>match topRun treeTable p w 11 (some (.ref 6)) M ⟨⟨⟨l⟩,s.life⟩,s.gens,s.drawn,s.toks,s.os⟩ (restOf [] (env0 p) (Y3 p) pos [topFrame Vd]) with
 | some r=>fH r λr=>some (cs,look r)
 | none=>none
theorem Nk {p:Program}{M:Nat}{cs:List Code}{s:SharedT}{a:List Code×β}(h:jo p w M look cs s pos=some a) :
  a.1=cs/\∃r,topRun treeTable p w 11 (some (.ref 6)) M s.abs (restOf [] (env0 p) (Y3 p) pos [topFrame Vd])=some r/\look r=a.2:=by
 unfold jo at h;rw[Np Vq] at h;have e:(⟨⟨⟨s.tree.list s.n⟩,s.life⟩,s.gens,s.drawn,s.toks,s.os⟩:Shared)=s.abs:=rfl;rw[e] at h;split at h
 ·rename_i r J;rw[Tp] at h;cases h;exact⟨rfl,r,J,rfl⟩
 ·cases h
def answer (p:Program)(c F M:Nat)(look:Shared->β)(w:World)(os:OsState):Option (Thread×Code×Pos×List Code×β):=
 match topGo treeTable p w 11 (some (.ref 6)) 12 (fj w.params os) (topStub p) with
 | some (sa,ta)=>match segRun treeTable p w 11 (some (.ref 6)) 1 1 sa (blockOf (behindTheImports p) (env0 p) (Y3 p) Vd [topFrame Vd]) with
  | some (.next,sb,cb,pb)=>(fS (mI sb) λst=>go (λg s pos=>segRunT treeTable p w 11 (some (.ref 6)) 1 F s (piecesOf g (env0 p) (Y3 p) pos [topFrame Vd])) (WB c 200 (behindTheImports p)) [] st pb (jo p w M look)).map λa=>(ta,cb,pb,a)
  | _=>none
 | none=>none
def answer0 (p:Program)(n:Nat)(b:β):Option (Thread×Code×Pos×List Code×β):=some (⟨denote treeTable (Y3 p),Y3 p,Vd,[topFrame Vd]⟩,Y3 p,Vd,List.replicate n (Y3 p),b)
theorem Mt {p:Program}{c F M:Nat}{os:OsState}{b:β}(h:answer p c F M look w os=answer0 p n b) :
  ∃r,topRun treeTable p w 11 (some (.ref 6)) (12+(1+((WB c 200 (behindTheImports p)).length*F+M))) (fj w.params os) (topStub p)=some r/\look r=b:=by
 unfold answer answer0 at h;split at h
 ·rename_i sa ta U;split at h
  ·rename_i sb cb pb hs;rw[To] at h;obtain⟨a,h1,h2⟩:=Cv.mp h;simp only[Prod.mk.injEq] at h2;obtain⟨rfl,rfl,rfl,h3,h4⟩:ta=_/\cb=_/\pb=_/\a.1=_/\a.2=_:=by
    obtain⟨x1,x2,x3,J⟩:=h2;exact⟨x1,x2,x3,congrArg Prod.fst J,congrArg Prod.snd J⟩
   obtain⟨r,k1,k2⟩:=Tn (Z:=λr=>look r=a.2) (c:=Y3 p) (q:=Vd) (env:=env0 p) (λcs s p e=>(Nk e).1) (λd hd=>List.eq_of_mem_replicate (h3▸hd)) (λcs s pos e=>(Nk e).2) _ _ _ _ h1;rw[BX,JC] at k1;exact⟨r,go_top U (piece_block hs k1),k2.trans h4⟩
  ·cases h
 ·cases h
end
theorem left_okF {p q:Program}{Ya:World->α}{N c F M:Nat}{fin:World->OsState->Shared}(e:opening p=plainProg p.main.scope.names)(hN:Nat.ble 600 N=true)(f:∀s,fenceModules? p s=some s)
  (size:∀w:World,((boot_heap w.params).isNs mainGlobals&&(Array.mk []:Array GenState).size==0,(boot_heap w.params).objs.size,(boot_heap w.params).nsMap mainGlobals "__annotations__")=(true,11,some (Value.ref 6)))
  (ans:∀(w:World) (os:OsState),answer p c F M (λs=>s) w os=answer0 p n (fin w os))
  (a1:∀(w:World) (os:OsState),fH (fin w os) (λs=>((staticsOk (importedModules p.main.body) (boot_heap w.params) s.heap&&namesBound p s.heap&&gensDone s&&laidKept (boot_heap w.params) s.heap),Yf s))=(true,Ya w))
  (a2:∀(w:World) (os:OsState),fH (fin w os) (λs=>(openSeen q loose (importedModules p.main.body) Xt true s).1)=(openGood q loose).1)
  (a3:∀(w:World) (os:OsState),fH (fin w os) (λs=>(openSeen q loose (importedModules p.main.body) Xt true s).2.1)=(openGood q loose).2.1)
  (a4:∀(w:World) (os:OsState),fH (fin w os) (λs=>(openSeen q loose (importedModules p.main.body) Xt true s).2.2.1)=(openGood q loose).2.2.1)
  (a5:∀(w:World) (os:OsState),fH (fin w os) (λs=>(openSeen q loose (importedModules p.main.body) Xt true s).2.2.2.1)=(openGood q loose).2.2.2.1)
  (a6:∀(w:World) (os:OsState),fH (fin w os) (λs=>(openSeen q loose (importedModules p.main.body) Xt true s).2.2.2.2)=(openGood q loose).2.2.2.2) (le:Nat.ble (12+(1+((WB c 200 (behindTheImports p)).length*F+M))) N=true):LeftO p q loose Xt Yf Ya N:=λw=>by
 obtain⟨⟨h,gs,d,k,os⟩,e1,e2⟩:=Cv.mp (boot_open e hN f w);obtain⟨rfl,rfl,rfl,rfl⟩:h=boot_heap w.params/\gs=Array.mk []/\d=boot_drawn/\k=boot_toks:=by simpa using e2
 obtain⟨z1,z2,z3⟩:_/\_/\_:=by simpa only[Prod.mk.injEq] using size w
 obtain⟨r,h1,h2⟩:=Mt (ans w os);have J:=a1 w os;have U:=a2 w os;have b3:=a3 w os;have b4:=a4 w os;have b5:=a5 w os;have b6:=a6 w os;rw[Tp,<-h2] at J U b3 b4 b5 b6;simp only[Prod.mk.injEq] at J;obtain⟨l1,l3⟩:=J;have l2:openSeen q loose (importedModules p.main.body) Xt true r=openGood q loose:=Prod.ext U (Prod.ext b3 (Prod.ext b4 (Prod.ext b5 b6)));have r1:=topRun_mono (N-(12+(1+((WB c 200 (behindTheImports p)).length*F+M)))) _ _ _ _ h1;rw[Nat.add_sub_cancel' (AL le)] at r1;have t:topFrom treeTable p w N ⟨boot_heap w.params,Array.mk [],boot_drawn,boot_toks,os⟩=some r:=by
  unfold topFrom;rw[z1];simp only;rw[z2,z3,r1];simp only[Option.bind_some];rw[l1]
 unfold openEnds;rw[e1];simp only[Option.bind_some];rw[t];simp only[Option.map_some,l2,l3]
end Hd
namespace Hd
open W
theorem size (w:World):((boot_heap w.params).isNs mainGlobals&&(Array.mk []:Array GenState).size==0,(boot_heap w.params).objs.size,(boot_heap w.params).nsMap mainGlobals "__annotations__")=(true,11,some (Value.ref 6)):=by
 kernel_rfl
end Hd
namespace Hd
theorem len1 {P:List α->Prop}(h:∀a0,P [a0]):∀us,us.length=1->P us
 | [a0],_=>h a0
theorem len2 {P:List α->Prop}(h:∀a0 a1,P [a0,a1]):∀us,us.length=2->P us
 | [a0,a1],_=>h a0 a1
theorem len3 {P:List α->Prop}(h:∀a0 a1 a2,P [a0,a1,a2]):∀us,us.length=3->P us
 | [a0,a1,a2],_=>h a0 a1 a2
theorem len4 {P:List α->Prop}(h:∀a0 a1 a2 a3,P [a0,a1,a2,a3]):∀us,us.length=4->P us
 | [a0,a1,a2,a3],_=>h a0 a1 a2 a3
theorem len10 {P:List α->Prop}(h:∀a0 a1 a2 a3 a4 a5 a6 a7 a8 a9,P [a0,a1,a2,a3,a4,a5,a6,a7,a8,a9]):∀us,us.length=10->P us
 | [a0,a1,a2,a3,a4,a5,a6,a7,a8,a9],_=>h a0 a1 a2 a3 a4 a5 a6 a7 a8 a9
end Hd
namespace L2
def QD (s:Stmt)(j:Nat):Stmt:=match s with
 | .ClassDef _ _ _ body _ _ _ _ _ _ _=>body.getD j (.Pass ⟨0,0,0,0⟩)
 | _=>.Pass ⟨0,0,0,0⟩
def Zp (s:Stmt):Arguments:=match s with
 | .FunctionDef _ a _ _ _ _ _ _ _ _=>a
 | _=>{ posonlyargs:=[],args:=[],vararg:=none,kwonlyargs:=[],kw_defaults:=[],kwarg:=none,defaults:=[] }
def QN (s:Stmt):List Stmt:=match s with
 | .FunctionDef _ _ b _ _ _ _ _ _ _=>b
 | _=>[]
def Qm (s:Stmt):Scope:=match s with
 | .FunctionDef _ _ _ _ _ _ sc _ _ _=>sc
 | _=>{ kind:=.function,names:=[],isGenerator:=false,isCoroutine:=false }
end L2
namespace My
open PyProof.Rows L2
abbrev AW:=PySem.Challenge.pw_doletaper_k37_rows_refused
abbrev AX:=PySem.Challenge.rw_doletaper_k37_rows_refused.row
noncomputable def top (i:Nat):Stmt:=AW.main.body.getD i (.Pass ⟨0,0,0,0⟩)
def mS (k:Nat):Stmt:=QD (top (k / 100)) (k % 100)
noncomputable abbrev Ek (P:Params)(x:Str)(t:Tok)(v:Value):DictEntry:=⟨PyData.keyHash P x,.str x t,v⟩
abbrev fO (m:Str)(t:Tok)(n q:Str)(s:Stmt)(d:Value)(c:Nat):Obj:=⟨.type "function",none,.func (W.fnOf n q (Zp s) (QN s) (Qm s) d .none .none (.str m t) none (.ref c) .none),#[]⟩
abbrev cO (n q:Str)(t:Nat)(l k:Int)(a b:Nat)(x y z:Value)(c u:Nat):Obj:=⟨.type "code",none,.fields #[.str n t,.str q (t+1),.str "/claim/cut.py" (t+2),.int l 0,.int k 0,.int 0 0,.int 0 0,.int 3 0,.ref a,.bool true,.int 181 0,.ref b,x,y,z,.ref c,.int u 0,.int l 0,.str "/claim/cut.py" (u+1)],#[]⟩
abbrev O4 (n:Str)(b a s r t u:Nat):Obj:=⟨.type "type",none,.cls ⟨n,[.ref b],[.ref a,.ref b,.type "ValueError",.type "Exception",.type "BaseException",.type "object"],s,n,true,[],[],false,none,false⟩,#[some (.ref r),none,some (.str n t),some (.str n u),some (.builtin "ValueError.__new__"),some (.bool true)]⟩
abbrev IH (a:Nat):Obj:=⟨.type "builtin_function_or_method",none,.fields #[.builtin "object.__init_subclass__",.ref a],#[]⟩
abbrev IG:Obj:=⟨.type "builtin_function_or_method",none,.fields #[.builtin "type.__prepare__",.type "type"],#[]⟩
abbrev IF (a:Nat):Obj:=⟨.type "super",none,.fields #[.ref a,.ref a,.ref a],#[]⟩
abbrev Ic (a:Nat):Obj:=⟨.type "tuple",none,.seq #[.ref a] 0,#[]⟩
abbrev O1 (n:Str)(t a:Nat)(x y:Value):Obj:=⟨.type "getset_descriptor",none,.fields #[.str n t,.ref a,x,y],#[]⟩
abbrev BO (l:List DictEntry)(n:Nat):Obj:=⟨.type "dict",none,.dict ⟨l⟩ n,#[]⟩
def je (P:Params):Obj:=⟨.none,none,(.dict #[] 0),#[]⟩
def iy (P:Params):List DictEntry:=[Ek P "__name__" 165 (.str "law_doletaper_k37_rows_refused" 1284),Ek P "__doc__" 166 .none,Ek P "__package__" 167 .none,Ek P "__loader__" 168 (.builtin "__main__.__loader__#opaque"),Ek P "__spec__" 169 .none,Ek P "__annotations__" 170 (.ref 6),Ek P "__builtins__" 171 (.ref 4),Ek P "__file__" 173 (.str "/claim/cut.py" 172)]
def ix (P:Params):List DictEntry:=[Ek P "__cached__" 174 .none,Ek P "_wall" 193 (.ref 21),Ek P "HelpError" 213 (.ref 31),Ek P "NoAmount" 229 (.ref 44),Ek P "NoBend" 245 (.ref 56),Ek P "NoPerson" 261 (.ref 68),Ek P "Unknown" 286 (.ref 87),Ek P "Twice" 311 (.ref 106)]
def iw (P:Params):List DictEntry:=[Ek P "NoWord" 327 (.ref 118),Ek P "NoRow" 352 (.ref 137),Ek P "Tangled" 377 (.ref 156),Ek P "Jumps" 402 (.ref 175),Ek P "Widens" 429 (.ref 194),Ek P "TooMany" 445 (.ref 206),Ek P "NoNews" 461 (.ref 218),Ek P "LETTERS" 465 (.str "abcdefghijklmnopqrstuvwxyz" 464)]
def iu (P:Params):List DictEntry:=[Ek P "LONGEST_NAME" 467 (.int 8 466),Ek P "OLDEST" 469 (.int 150 468),Ek P "MOST_COINS" 471 (.int 1000000000 470),Ek P "is_name" 477 (.ref 225),Ek P "common_divisor" 488 (.ref 232),Ek P "FIGURES" 492 (.str "0123456789" 491),Ek P "MOST_FIGURES" 494 (.int 10 493),Ek P "MOST_OF_RATES" 496 (.int 9999 495)]
def ir (P:Params):List DictEntry:=[Ek P "is_written_whole" 502 (.ref 237),Ek P "whole_read" 511 (.ref 244),Ek P "rate_read" 521 (.ref 251),Ek P "rate_shown" 530 (.ref 258),Ek P "name_read" 537 (.ref 265),Ek P "AGES" 542 (.ref 266),Ek P "MOST_HEADS" 544 (.int 60 543),Ek P "WAYS" 548 (.ref 267)]
def iq (P:Params):List DictEntry:=[Ek P "most_of" 555 (.ref 274),Ek P "unit_read" 563 (.ref 281),Ek P "way_read" 570 (.ref 288),Ek P "word_read" 578 (.ref 295),Ek P "words_read" 584 (.ref 300),Ek P "Kind" 678 (.ref 360),Ek P "Cap" 719 (.ref 388),Ek P "Office" 766 (.ref 423)]
def ip (P:Params):List DictEntry:=[Ek P "row_of" 774 (.ref 432),Ek P "Part" 809 (.ref 456),Ek P "Base" 849 (.ref 491),Ek P "Each" 893 (.ref 524),Ek P "Rent" 935 (.ref 557),Ek P "Term" 970 (.ref 583),Ek P "From" 1014 (.ref 618),Ek P "Upto" 1058 (.ref 651)]
def il (P:Params):List DictEntry:=[Ek P "FORMS" 1097 (.ref 654),Ek P "LISTS" 1128 (.ref 655),Ek P "LONGEST" 1147 (.ref 656),Ek P "MOST_KINDS" 1149 (.int 8 1148),Ek P "MOST_CAPS" 1151 (.int 4 1150),Ek P "form_of" 1160 (.ref 663),Ek P "values_of" 1169 (.ref 670),Ek P "thing_of" 1177 (.ref 677)]
def ik (P:Params):List DictEntry:=[Ek P "new_draft" 1186 (.ref 684),Ek P "fits_in" 1192 (.ref 689),Ek P "kind_of" 1201 (.ref 696),Ek P "Reader" 1271 (.ref 744),Ek P "read" 1283 (.ref 755),Ek P "_law_cell" 1293 (.ref 762),Ek P "_law_whole" 1300 (.ref 769),Ek P "_law_mixed" 1309 (.ref 776)]
def ij (P:Params):List DictEntry:=[Ek P "_law_common" 1317 (.ref 783),Ek P "_law_made" 1326 (.ref 790),Ek P "_law_name" 1338 (.ref 797),Ek P "_law_rate" 1347 (.ref 804),Ek P "_law_shown" 1354 (.ref 811),Ek P "_law_ages" 1362 (.ref 818),Ek P "_law_pool" 1373 (.ref 825),Ek P "_law_part" 1384 (.ref 832)]
def gk (P:Params):List DictEntry:=[Ek P "_law_term" 1393 (.ref 839),Ek P "_law_words" 1402 (.ref 846),Ek P "_law_limit" 1411 (.ref 853),Ek P "_law_put" 1417 (.ref 858),Ek P "_law_cap" 1423 (.ref 863),Ek P "_law_kind" 1429 (.ref 868),Ek P "_law_rows" 1442 (.ref 875),Ek P "_law_names" 1452 (.ref 882)]
def gj (P:Params):List DictEntry:=[Ek P "_law_odd" 1460 (.ref 889),Ek P "_law_offs" 1470 (.ref 896),Ek P "_law_under" 1476 (.ref 901),Ek P "_law_bare" 1482 (.ref 906),Ek P "_law_places" 1491 (.ref 913),Ek P "_law_sorts" 1497 (.ref 918),Ek P "_law_by_base" 1505 (.ref 925),Ek P "_law_made_bad" 1520 (.ref 932)]
def gi (P:Params):List DictEntry:=[Ek P "_law_behind" 1528 (.ref 939),Ek P "_law_ghost" 1534 (.ref 944),Ek P "_law_unknown" 1544 (.ref 951),Ek P "law" 1558 (.ref 958)]
def jd (P:Params):Obj:=⟨(.type "dict"),none,(.dict (iy P++ix P++iw P++iu P++ir P++iq P++ip P++il P++ik P++ij P++gk P++gj P++gi P).toArray 100),#[]⟩
def gn (P:Params):Obj:=BO [Ek P "__module__" 203 (.str "doletaper.errors" 194),Ek P "__firstlineno__" 207 (.int 5 206),Ek P "__static_attributes__" 208 (.ref 29),Ek P "__weakref__" 210 (.ref 32),Ek P "__doc__" 211 .none] 3
def gm (P:Params):Obj:=⟨(.type "type"),none,(.cls ⟨"HelpError",[(.type "ValueError")],[(.ref 31),(.type "ValueError"),(.type "Exception"),(.type "BaseException"),(.type "object")],30,"HelpError",true,[],[(.ref 44),(.ref 56),(.ref 68),(.ref 87),(.ref 106),(.ref 118),(.ref 137),(.ref 156),(.ref 175),(.ref 194),(.ref 206),(.ref 218)],false,none,false⟩),#[(some (.ref 22)),none,(some (.str "HelpError" 196)),(some (.str "HelpError" 204)),(some (.builtin "ValueError.__new__")),(some (.bool true))]⟩
def gh (P:Params):Obj:=BO [Ek P "__module__" 221 (.str "doletaper.errors" 194),Ek P "__firstlineno__" 225 (.int 7 224),Ek P "__static_attributes__" 226 (.ref 42),Ek P "__doc__" 227 .none] 2
def fz (P:Params):Obj:=O4 "NoAmount" 31 44 43 35 214 222
def fw (P:Params):Obj:=BO [Ek P "__module__" 237 (.str "doletaper.errors" 194),Ek P "__firstlineno__" 241 (.int 9 240),Ek P "__static_attributes__" 242 (.ref 54),Ek P "__doc__" 243 .none] 2
def fv (P:Params):Obj:=O4 "NoBend" 31 56 55 47 230 238
def fu (P:Params):Obj:=BO [Ek P "__module__" 253 (.str "doletaper.errors" 194),Ek P "__firstlineno__" 257 (.int 11 256),Ek P "__static_attributes__" 258 (.ref 66),Ek P "__doc__" 259 .none] 2
def ft (P:Params):Obj:=O4 "NoPerson" 31 68 67 59 246 254
def fq (P:Params):Obj:=BO [Ek P "__module__" 269 (.str "doletaper.errors" 194),Ek P "__firstlineno__" 273 (.int 13 272),Ek P "__init__" 281 (.ref 84),Ek P "__static_attributes__" 283 (.ref 85),Ek P "__doc__" 284 .none] 2
def fm (P:Params):Obj:=O4 "Unknown" 31 87 86 71 262 270
def OX (P:Params):Obj:=BO [Ek P "__module__" 294 (.str "doletaper.errors" 194),Ek P "__firstlineno__" 298 (.int 17 297),Ek P "__init__" 306 (.ref 103),Ek P "__static_attributes__" 308 (.ref 104),Ek P "__doc__" 309 .none] 2
def OW (P:Params):Obj:=O4 "Twice" 31 106 105 90 287 295
def OV (P:Params):Obj:=BO [Ek P "__module__" 319 (.str "doletaper.errors" 194),Ek P "__firstlineno__" 323 (.int 21 322),Ek P "__static_attributes__" 324 (.ref 116),Ek P "__doc__" 325 .none] 2
def OU (P:Params):Obj:=O4 "NoWord" 31 118 117 109 312 320
def OT (P:Params):Obj:=BO [Ek P "__module__" 335 (.str "doletaper.errors" 194),Ek P "__firstlineno__" 339 (.int 23 338),Ek P "__init__" 347 (.ref 134),Ek P "__static_attributes__" 349 (.ref 135),Ek P "__doc__" 350 .none] 2
def OS (P:Params):Obj:=O4 "NoRow" 31 137 136 121 328 336
def OR (P:Params):Obj:=BO [Ek P "__module__" 360 (.str "doletaper.errors" 194),Ek P "__firstlineno__" 364 (.int 27 363),Ek P "__init__" 372 (.ref 153),Ek P "__static_attributes__" 374 (.ref 154),Ek P "__doc__" 375 .none] 2
def OQ (P:Params):Obj:=O4 "Tangled" 31 156 155 140 353 361
def OP (P:Params):Obj:=BO [Ek P "__module__" 385 (.str "doletaper.errors" 194),Ek P "__firstlineno__" 389 (.int 31 388),Ek P "__init__" 397 (.ref 172),Ek P "__static_attributes__" 399 (.ref 173),Ek P "__doc__" 400 .none] 2
def OO (P:Params):Obj:=O4 "Jumps" 31 175 174 159 378 386
def ON (P:Params):Obj:=BO [Ek P "__module__" 410 (.str "doletaper.errors" 194),Ek P "__firstlineno__" 414 (.int 35 413),Ek P "__init__" 423 (.ref 191),Ek P "__static_attributes__" 426 (.ref 192),Ek P "__doc__" 427 .none] 2
def OM (P:Params):Obj:=O4 "Widens" 31 194 193 178 403 411
def OL (P:Params):Obj:=BO [Ek P "__module__" 437 (.str "doletaper.errors" 194),Ek P "__firstlineno__" 441 (.int 40 440),Ek P "__static_attributes__" 442 (.ref 204),Ek P "__doc__" 443 .none] 2
def OK (P:Params):Obj:=O4 "TooMany" 31 206 205 197 430 438
def OJ (P:Params):Obj:=BO [Ek P "__module__" 453 (.str "doletaper.errors" 194),Ek P "__firstlineno__" 457 (.int 42 456),Ek P "__static_attributes__" 458 (.ref 216),Ek P "__doc__" 459 .none] 2
def OI (P:Params):Obj:=O4 "NoNews" 31 218 217 209 446 454
def OH (P:Params):Obj:=⟨(.type "tuple"),none,(.seq #[(.str "LOW" 540),(.str "HIGH" 541)] 0),#[]⟩
def OG (P:Params):Obj:=⟨(.type "tuple"),none,(.seq #[(.str "down" 545),(.str "up" 546),(.str "near" 547)] 0),#[]⟩
def OF (P:Params):Obj:=⟨(.type "tuple"),none,(.seq #[.none,.none,(.str "down" 599)] 0),#[]⟩
def O0 (P:Params):List DictEntry:=[Ek P "__module__" 594 (.str "doletaper.kinds" 585),Ek P "__firstlineno__" 598 (.int 129 597),Ek P "__init__" 615 (.ref 315),Ek P "full_of" 623 (.ref 322),Ek P "may_have" 631 (.ref 329),Ek P "owns" 639 (.ref 336),Ek P "taken_off" 646 (.ref 343),Ek P "greatest_rate" 653 (.ref 350)]
def OZ (P:Params):List DictEntry:=[Ek P "amount_from" 661 (.ref 357),Ek P "__static_attributes__" 671 (.ref 358),Ek P "__dict__" 673 (.ref 361),Ek P "__weakref__" 675 (.ref 362),Ek P "__doc__" 676 .none]
def OE (P:Params):Obj:=⟨(.type "dict"),none,(.dict (O0 P++OZ P).toArray 4),#[]⟩
def OD (P:Params):Obj:=⟨(.type "type"),none,(.cls ⟨"Kind",[(.type "object")],[(.ref 360),(.type "object")],359,"Kind",true,[],[],false,none,false⟩),#[none,none,(some (.str "Kind" 587)),(some (.str "Kind" 595)),(some (.builtin "object.__new__")),(some (.bool true))]⟩
def OC (P:Params):Obj:=BO [Ek P "__module__" 686 (.str "doletaper.kinds" 585),Ek P "__firstlineno__" 690 (.int 159 689),Ek P "__init__" 700 (.ref 378),Ek P "room_for" 708 (.ref 385),Ek P "__static_attributes__" 712 (.ref 386),Ek P "__dict__" 714 (.ref 389),Ek P "__weakref__" 716 (.ref 390),Ek P "__doc__" 717 .none] 4
def OB (P:Params):Obj:=⟨(.type "type"),none,(.cls ⟨"Cap",[(.type "object")],[(.ref 388),(.type "object")],387,"Cap",true,[],[],false,none,false⟩),#[none,none,(some (.str "Cap" 679)),(some (.str "Cap" 687)),(some (.builtin "object.__new__")),(some (.bool true))]⟩
def OA (P:Params):Obj:=BO [Ek P "__module__" 727 (.str "doletaper.kinds" 585),Ek P "__firstlineno__" 731 (.int 168 730),Ek P "__init__" 740 (.ref 406),Ek P "kind" 749 (.ref 413),Ek P "named" 756 (.ref 420),Ek P "__static_attributes__" 759 (.ref 421),Ek P "__dict__" 761 (.ref 424),Ek P "__weakref__" 763 (.ref 425),Ek P "__doc__" 764 .none] 4
def NC (P:Params):Obj:=⟨(.type "type"),none,(.cls ⟨"Office",[(.type "object")],[(.ref 423),(.type "object")],422,"Office",true,[],[],false,none,false⟩),#[none,none,(some (.str "Office" 720)),(some (.str "Office" 728)),(some (.builtin "object.__new__")),(some (.bool true))]⟩
def Mz (P:Params):Obj:=BO [Ek P "__module__" 782 (.str "doletaper.parts" 767),Ek P "__firstlineno__" 786 (.int 185 785),Ek P "worth" 794 (.ref 446),Ek P "row" 801 (.ref 453),Ek P "__static_attributes__" 802 (.ref 454),Ek P "__dict__" 804 (.ref 457),Ek P "__weakref__" 806 (.ref 458),Ek P "__doc__" 807 .none] 4
def Mx (P:Params):Obj:=⟨(.type "type"),none,(.cls ⟨"Part",[(.type "object")],[(.ref 456),(.type "object")],455,"Part",true,[],[(.ref 491),(.ref 524),(.ref 557)],false,none,false⟩),#[none,none,(some (.str "Part" 775)),(some (.str "Part" 783)),(some (.builtin "object.__new__")),(some (.bool true))]⟩
def Mw (P:Params):Obj:=BO [Ek P "__module__" 817 (.str "doletaper.parts" 767),Ek P "__firstlineno__" 821 (.int 192 820),Ek P "__init__" 829 (.ref 474),Ek P "worth" 837 (.ref 481),Ek P "row" 844 (.ref 488),Ek P "__static_attributes__" 846 (.ref 489),Ek P "__doc__" 847 .none] 2
def Mv (P:Params):Obj:=⟨(.type "type"),none,(.cls ⟨"Base",[(.ref 456)],[(.ref 491),(.ref 456),(.type "object")],490,"Base",true,[],[],false,none,false⟩),#[(some (.ref 461)),none,(some (.str "Base" 810)),(some (.str "Base" 818)),(some (.builtin "object.__new__")),(some (.bool true))]⟩
def MG (P:Params):Obj:=BO [Ek P "__module__" 857 (.str "doletaper.parts" 767),Ek P "__firstlineno__" 861 (.int 202 860),Ek P "__init__" 871 (.ref 507),Ek P "worth" 879 (.ref 514),Ek P "row" 886 (.ref 521),Ek P "__static_attributes__" 890 (.ref 522),Ek P "__doc__" 891 .none] 2
def MF (P:Params):Obj:=⟨(.type "type"),none,(.cls ⟨"Each",[(.ref 456)],[(.ref 524),(.ref 456),(.type "object")],523,"Each",true,[],[],false,none,false⟩),#[(some (.ref 494)),none,(some (.str "Each" 850)),(some (.str "Each" 858)),(some (.builtin "object.__new__")),(some (.bool true))]⟩
def ME (P:Params):Obj:=BO [Ek P "__module__" 901 (.str "doletaper.parts" 767),Ek P "__firstlineno__" 905 (.int 214 904),Ek P "__init__" 914 (.ref 540),Ek P "worth" 922 (.ref 547),Ek P "row" 929 (.ref 554),Ek P "__static_attributes__" 932 (.ref 555),Ek P "__doc__" 933 .none] 2
def MD (P:Params):Obj:=⟨(.type "type"),none,(.cls ⟨"Rent",[(.ref 456)],[(.ref 557),(.ref 456),(.type "object")],556,"Rent",true,[],[],false,none,false⟩),#[(some (.ref 527)),none,(some (.str "Rent" 894)),(some (.str "Rent" 902)),(some (.builtin "object.__new__")),(some (.bool true))]⟩
def MC (P:Params):Obj:=BO [Ek P "__module__" 943 (.str "doletaper.parts" 767),Ek P "__firstlineno__" 947 (.int 225 946),Ek P "met" 955 (.ref 573),Ek P "row" 962 (.ref 580),Ek P "__static_attributes__" 963 (.ref 581),Ek P "__dict__" 965 (.ref 584),Ek P "__weakref__" 967 (.ref 585),Ek P "__doc__" 968 .none] 4
def MB (P:Params):Obj:=⟨(.type "type"),none,(.cls ⟨"Term",[(.type "object")],[(.ref 583),(.type "object")],582,"Term",true,[],[(.ref 618),(.ref 651)],false,none,false⟩),#[none,none,(some (.str "Term" 936)),(some (.str "Term" 944)),(some (.builtin "object.__new__")),(some (.bool true))]⟩
def MA (P:Params):Obj:=BO [Ek P "__module__" 978 (.str "doletaper.parts" 767),Ek P "__firstlineno__" 982 (.int 232 981),Ek P "__init__" 992 (.ref 601),Ek P "met" 1000 (.ref 608),Ek P "row" 1007 (.ref 615),Ek P "__static_attributes__" 1011 (.ref 616),Ek P "__doc__" 1012 .none] 2
def KO (P:Params):Obj:=⟨(.type "type"),none,(.cls ⟨"From",[(.ref 583)],[(.ref 618),(.ref 583),(.type "object")],617,"From",true,[],[],false,none,false⟩),#[(some (.ref 588)),none,(some (.str "From" 971)),(some (.str "From" 979)),(some (.builtin "object.__new__")),(some (.bool true))]⟩
def JW (P:Params):Obj:=BO [Ek P "__module__" 1022 (.str "doletaper.parts" 767),Ek P "__firstlineno__" 1026 (.int 244 1025),Ek P "__init__" 1036 (.ref 634),Ek P "met" 1044 (.ref 641),Ek P "row" 1051 (.ref 648),Ek P "__static_attributes__" 1055 (.ref 649),Ek P "__doc__" 1056 .none] 2
def JV (P:Params):Obj:=⟨(.type "type"),none,(.cls ⟨"Upto",[(.ref 583)],[(.ref 651),(.ref 583),(.type "object")],650,"Upto",true,[],[],false,none,false⟩),#[(some (.ref 621)),none,(some (.str "Upto" 1015)),(some (.str "Upto" 1023)),(some (.builtin "object.__new__")),(some (.bool true))]⟩
def JM (P:Params):Obj:=BO [Ek P "kind" 1061 (.str "NAME" 1062),Ek P "base" 1063 (.str "AMOUNT" 1064),Ek P "each" 1065 (.str "AMOUNT LOW HIGH" 1066),Ek P "rent" 1067 (.str "RATE MOST" 1068),Ek P "from" 1069 (.str "MANY LOW HIGH" 1070),Ek P "upto" 1071 (.str "MANY LOW HIGH" 1072),Ek P "pay" 1073 (.str "RATE LOW HIGH" 1074),Ek P "counts" 1075 (.str "NAME RATE" 1076),Ek P "off" 1077 (.str "LIMIT RATE" 1078),Ek P "until" 1079 (.str "LIMIT" 1080),Ek P "round" 1081 (.str "UNIT WAY" 1082),Ek P "cap" 1083 (.str "LIMIT EACH NAME" 1084)] 12
def JL (P:Params):Obj:=BO [Ek P "base" 1098 (.str "parts" 1099),Ek P "each" 1100 (.str "parts" 1101),Ek P "rent" 1102 (.str "parts" 1103),Ek P "from" 1104 (.str "terms" 1105),Ek P "upto" 1106 (.str "terms" 1107),Ek P "pay" 1108 (.str "pays" 1109),Ek P "counts" 1110 (.str "counts" 1111),Ek P "off" 1112 (.str "offs" 1113),Ek P "until" 1114 (.str "untils" 1115),Ek P "round" 1116 (.str "rounds" 1117)] 10
def Iz (P:Params):Obj:=BO [Ek P "parts" 1129 (.int 6 1130),Ek P "terms" 1131 (.int 6 1132),Ek P "pays" 1133 (.int 4 1134),Ek P "offs" 1135 (.int 6 1136),Ek P "untils" 1137 (.int 1 1138),Ek P "rounds" 1139 (.int 1 1140)] 6
def Iy (P:Params):Obj:=BO [Ek P "__module__" 1209 (.str "doletaper.reading" 1059),Ek P "__firstlineno__" 1213 (.int 305 1212),Ek P "__init__" 1220 (.ref 710),Ek P "titles_told" 1226 (.ref 715),Ek P "fits" 1235 (.ref 722),Ek P "caps_none_twice" 1245 (.ref 729),Ek P "take" 1254 (.ref 736),Ek P "office_told" 1260 (.ref 741),Ek P "__static_attributes__" 1264 (.ref 742),Ek P "__dict__" 1266 (.ref 745),Ek P "__weakref__" 1268 (.ref 746),Ek P "__doc__" 1269 .none] 4
def Iw (P:Params):Obj:=⟨(.type "type"),none,(.cls ⟨"Reader",[(.type "object")],[(.ref 744),(.type "object")],743,"Reader",true,[],[],false,none,false⟩),#[none,none,(some (.str "Reader" 1202)),(some (.str "Reader" 1210)),(some (.builtin "object.__new__")),(some (.bool true))]⟩
structure DR where
 s:Stmt
 n:Str
 q:Str
 d:Value
 l:Int
 k:Int
 a:Nat
 t:Nat
 c:List (Int×Int×Nat)
 v:List Str
 w:List Str
abbrev GD:Obj:=⟨.type "tuple",none,.seq #[] 0,#[]⟩
abbrev jg:Obj:=⟨.none,none,.fields #[],#[]⟩
def my:Nat->List Str->List Value
 | _,[]=>[]
 | t,x::l=>.str x t::my (t+1) l
abbrev Ib (l:List Str)(t:Nat):Obj:=⟨.type "tuple",none,.seq ⟨my t l⟩ 0,#[]⟩
def nM:List (Int×Int×Nat)->List Value
 | []=>[]
 | (a,b,c)::l=>.int a 0::.int b 0::.ref c::nM l
abbrev IW (l:List (Int×Int×Nat)):Obj:=⟨.none,none,.fields ⟨nM l⟩,#[]⟩
abbrev gO (n q:Str)(s:Stmt):Obj:=⟨.none,none,.func ⟨n,q,Zp s,.stmts (QN s),Qm s,0,[],.none,.none,.none,.none,none,.none,.none,0⟩,#[]⟩
abbrev dC (x:DR):Obj:=cO x.n x.q x.t x.l x.k x.a (x.a+1) .none (.ref (x.a+2)) (.ref (x.a+3)) (x.a+4) (x.t+3+(x.v.length+x.w.length))
abbrev dD (x:DR):Obj:=cO x.n x.q x.t x.l x.k x.a (x.a+1) .none .none .none (x.a+2) (x.t+3)
abbrev dF (m:Str)(t:Tok)(x:DR):Obj:=fO m t x.n x.q x.s x.d (x.a+5)
abbrev dE (m:Str)(t:Tok)(x:DR):Obj:=fO m t x.n x.q x.s x.d (x.a+3)
abbrev dG (m:Str)(t:Tok)(x:DR):List Obj:=[GD,IW x.c,Ib x.v (x.t+3),Ib x.w (x.t+3+x.v.length),gO x.n x.q x.s,dC x,dF m t x]
abbrev dH (m:Str)(t:Tok)(x:DR):List Obj:=[GD,IW x.c,gO x.n x.q x.s,dD x,dE m t x]
abbrev oK:=dG "__main__" 164
abbrev nN:=dF "doletaper.errors" 194
abbrev jz:=dG "doletaper.errors" 194
abbrev oP:=dE "doletaper.people" 462
abbrev oI:=dH "doletaper.people" 462
abbrev oM:=dF "doletaper.ratios" 478
abbrev oJ:=dG "doletaper.ratios" 478
abbrev md:=dF "doletaper.words" 489
abbrev oO:=dE "doletaper.words" 489
abbrev lh:=dG "doletaper.words" 489
abbrev oH:=dH "doletaper.words" 489
abbrev lj:=dF "doletaper.forms" 538
abbrev oN:=dE "doletaper.forms" 538
abbrev lg:=dG "doletaper.forms" 538
abbrev oG:=dH "doletaper.forms" 538
abbrev m9:=dF "doletaper.kinds" 585
abbrev O5:=dG "doletaper.kinds" 585
abbrev lQ:=dF "doletaper.parts" 767
abbrev IY:=dG "doletaper.parts" 767
abbrev oE:=dH "doletaper.parts" 767
abbrev hW:=dF "doletaper.reading" 1059
abbrev me:=dE "doletaper.reading" 1059
abbrev gy:=dG "doletaper.reading" 1059
abbrev m8:=dH "doletaper.reading" 1059
abbrev IK:=dF "law_doletaper_k37_rows_refused" 1284
abbrev jr:=dE "law_doletaper_k37_rows_refused" 1284
abbrev II:=dG "law_doletaper_k37_rows_refused" 1284
abbrev jq:=dH "law_doletaper_k37_rows_refused" 1284
def AY (i:Nat)(n:Str)(l k:Int)(a t:Nat)(x:List (Int×Int×Nat):=[])(y z:List Str:=[]):DR:=⟨top i,n,n,.none,l,k,a,t,x,y,z⟩
def AZ (i:Nat)(n q:Str)(l k:Int)(a t:Nat)(x:List (Int×Int×Nat):=[])(y z:List Str:=[]):DR:=⟨mS i,n,q,.none,l,k,a,t,x,y,z⟩
def mF:=AY 0 "_wall" 1 1 15 187 [] ["k"]
def jk:=AZ 600 "__init__" "Unknown.__init__" 15 2 78 274 [] ["self","title"]
def lL:DR:=⟨(QD (top 7) 0),"__init__","Twice.__init__",.none,19,2,97,299,[],["self","title"],[]⟩
def fg:=AZ 900 "__init__" "NoRow.__init__" 25 2 128 340 [] ["self","place"]
def lK:DR:=⟨(QD (top 10) 0),"__init__","Tangled.__init__",.none,29,2,147,365,[],["self","titles"],[]⟩
def lJ:DR:=⟨(QD (top 11) 0),"__init__","Jumps.__init__",.none,33,2,166,390,[],["self","titles"],[]⟩
def lI:DR:=⟨(QD (top 12) 0),"__init__","Widens.__init__",.none,37,3,185,415,[],["self","titles","pull"],[]⟩
def fc:=AY 20 "is_name" 49 1 221 472
def f7:=AY 22 "common_divisor" 54 2 226 480 [] ["one","other","rest"]
def ej:=AY 27 "is_written_whole" 64 1 233 497
def eh:=AY 28 "whole_read" 70 2 238 503 [] ["text","most","number"]
def ee:=AY 29 "rate_read" 77 1 245 512 [] ["text","written","top","bottom"]
def lH:=AY 30 "rate_shown" 86 1 252 522 [] ["one","top","bottom"]
def dz:=AY 31 "name_read" 92 1 259 531 [] ["text"]
def dy:=AY 36 "most_of" 100 1 268 549 [] ["sort"]
def dw:=AY 37 "unit_read" 104 1 275 556 [] ["word","unit"]
def dv:=AY 38 "way_read" 109 1 282 564 [] ["word"]
def du:=AY 39 "word_read" 113 2 289 571 [] ["sort","word"]
def dq:=AY 40 "words_read" 123 2 296 579
def dm:DR:=⟨(mS 4200),"__init__","Kind.__init__",(.ref 308),131,10,309,600,[],["self","title","parts","terms","pays","counts","offs","limit","unit","way"],[]⟩
def lG:DR:=⟨(QD (top 42) 1),"full_of","Kind.full_of",.none,142,2,316,616,[],["self","home"],[]⟩
def lF:DR:=⟨(QD (top 42) 2),"may_have","Kind.may_have",.none,145,2,323,624,[],["self","home"],[]⟩
def lE:DR:=⟨(QD (top 42) 3),"owns","Kind.owns",.none,148,2,330,632,[],["self","home"],[]⟩
def lD:DR:=⟨(QD (top 42) 4),"taken_off","Kind.taken_off",.none,151,1,337,640,[],["self"],[]⟩
def lC:DR:=⟨(QD (top 42) 5),"greatest_rate","Kind.greatest_rate",.none,154,1,344,647,[],["self"],[]⟩
def lB:DR:=⟨(QD (top 42) 6),"amount_from","Kind.amount_from",.none,157,2,351,654,[],["self","left"],[]⟩
def dk:=AZ 4300 "__init__" "Cap.__init__" 161 4 372 691 [] ["self","limit","each","titles"]
def lA:DR:=⟨(QD (top 43) 1),"room_for","Cap.room_for",.none,166,2,379,701,[],["self","home"],[]⟩
def dj:=AZ 4400 "__init__" "Office.__init__" 170 3 400 732 [] ["self","kinds","caps"]
def kz:DR:=⟨(QD (top 44) 1),"kind","Office.kind",.none,174,2,407,741,[],["self","title","one"],[]⟩
def ky:DR:=⟨(QD (top 44) 2),"named","Office.named",.none,180,1,414,750,[],["self"],[]⟩
def kx:=AY 46 "row_of" 183 1 428 769
def ko:DR:=⟨(QD (top 47) 0),"worth","Part.worth",.none,187,2,440,787,[],["self","home"],[]⟩
def km:DR:=⟨(QD (top 47) 1),"row","Part.row",.none,190,1,447,795,[],["self"],[]⟩
def di:=AZ 4800 "__init__" "Base.__init__" 194 2 468 822 [] ["self","amount"]
def kj:DR:=⟨(QD (top 48) 1),"worth","Base.worth",.none,197,2,475,830,[],["self","home"],[]⟩
def ki:DR:=⟨(QD (top 48) 2),"row","Base.row",.none,200,1,482,838,[],["self"],[]⟩
def dh:=AZ 4900 "__init__" "Each.__init__" 204 4 501 862 [] ["self","amount","low","high"]
def kZ:DR:=⟨(QD (top 49) 1),"worth","Each.worth",.none,209,2,508,872,[],["self","home"],[]⟩
def kY:DR:=⟨(QD (top 49) 2),"row","Each.row",.none,212,1,515,880,[],["self"],[]⟩
def dg:=AZ 5000 "__init__" "Rent.__init__" 216 3 534 906 [] ["self","rate","most"]
def kX:DR:=⟨(QD (top 50) 1),"worth","Rent.worth",.none,220,2,541,915,[],["self","home"],[]⟩
def kW:DR:=⟨(QD (top 50) 2),"row","Rent.row",.none,223,1,548,923,[],["self"],[]⟩
def kU:DR:=⟨(QD (top 51) 0),"met","Term.met",.none,227,2,567,948,[],["self","home"],[]⟩
def kT:DR:=⟨(QD (top 51) 1),"row","Term.row",.none,230,1,574,956,[],["self"],[]⟩
def df:=AZ 5200 "__init__" "From.__init__" 234 4 595 983 [] ["self","many","low","high"]
def kR:DR:=⟨(QD (top 52) 1),"met","From.met",.none,239,2,602,993,[],["self","home"],[]⟩
def kQ:DR:=⟨(QD (top 52) 2),"row","From.row",.none,242,1,609,1001,[],["self"],[]⟩
def de:=AZ 5300 "__init__" "Upto.__init__" 246 4 628 1027 [] ["self","many","low","high"]
def kP:DR:=⟨(QD (top 53) 1),"met","Upto.met",.none,251,2,635,1037,[],["self","home"],[]⟩
def kO:DR:=⟨(QD (top 53) 2),"row","Upto.row",.none,254,1,642,1045,[],["self"],[]⟩
def cz:=AY 60 "form_of" 262 1 657 1152 [] ["words","form","further"]
def cy:=AY 61 "values_of" 270 1 664 1161 [] ["words","form","values"]
def Zm:=AY 62 "thing_of" 276 2 671 1170 [] ["sort","values"]
def Ze:=AY 63 "new_draft" 288 1 678 1178 [] ["title","draft","name"]
def ZY:=AY 64 "fits_in" 293 3 685 1187
def ZJ:=AY 65 "kind_of" 301 1 690 1193 [] ["draft","limit","rounding"]
def Yc:=AZ 6600 "__init__" "Reader.__init__" 307 1 704 1214 [] ["self"]
def YJ:=AZ 6601 "titles_told" "Reader.titles_told" 312 1 711 1221
def YI:=AZ 6602 "fits" "Reader.fits" 315 3 716 1227 [] ["self","sort","values"]
def Xq:=AZ 6603 "caps_none_twice" "Reader.caps_none_twice" 322 2 723 1236 [] ["self","titles","capped","cap"]
def XG:=AZ 6604 "take" "Reader.take" 328 3 730 1246 [] ["self","sort","values"]
def XF:=AZ 6605 "office_told" "Reader.office_told" 339 1 737 1255
def Wt:=AY 67 "read" 344 1 749 1272 [] ["rows","reader","place","row","words","values"]
def Wb:=AY 69 "_law_cell" 357 2 756 1286 [] ["_law_script","_law_k"]
def Wa:=AY 70 "_law_whole" 361 1 763 1294 [] ["_law_found"]
def WO:=AY 71 "_law_mixed" 363 2 770 1301 [] ["_law_cell_here","_law_k","_law_prime"]
def WN:=AY 72 "_law_common" 366 2 777 1310 [] ["_law_one","_law_other"]
def WM:=AY 73 "_law_made" 372 2 784 1318 [] ["_law_top","_law_bottom","_law_common_here"]
def WL:=AY 74 "_law_name" 377 1 791 1327 [] ["_law_cell_here","_law_letters","_law_size","_law_at","_law_text","_law_k"]
def WK:=AY 75 "_law_rate" 387 2 798 1339 [] ["_law_cell_here","_law_k","_law_top"]
def WJ:=AY 76 "_law_shown" 390 1 805 1348 [] ["_law_rate_here"]
def VI:=AY 77 "_law_ages" 394 1 812 1355 [] ["_law_cell_here","_law_low"]
def kN:=AY 78 "_law_pool" 397 2 819 1363 [] ["_law_cell_here","_law_most","_law_pool_here","_law_k","_law_title"]
def VH:=AY 79 "_law_part" 404 1 826 1374 [] ["_law_cell_here","_law_amount","_law_low","_law_high","_law_way"]
def UU:=AY 80 "_law_term" 413 1 833 1385 [] ["_law_cell_here","_law_low","_law_high"]
def UT:=AY 81 "_law_words" 416 1 840 1394 [] ["_law_row","_law_words_here","_law_one"]
def US:=AY 82 "_law_limit" 424 2 847 1403 [] ["_law_offs_here","_law_cell_here","_law_step"]
def UR:=AY 83 "_law_put" 429 3 854 1412
def UQ:=AY 84 "_law_cap" 456 3 859 1418
def UP:=AY 85 "_law_kind" 469 3 864 1424
def UO:=AY 86 "_law_rows" 477 4 869 1430 [] ["_law_cells","_law_pool_here","_law_kinds","_law_caps","_law_rows_here","_law_cell_here","_law_row"]
def UN:=AY 87 "_law_names" 489 1 876 1443 [] ["_law_cell_here","_law_names_here","_law_k","_law_title"]
def UM:=AY 88 "_law_odd" 499 1 883 1453 [] ["_law_cell_here","_law_rows_here"]
def UL:=AY 89 "_law_offs" 518 2 890 1461 [] ["_law_cell_here","_law_many","_law_offs_here","_law_k"]
def UK:=AY 90 "_law_under" 523 3 897 1471
def UJ:=AY 91 "_law_bare" 541 3 902 1477
def UI:=AY 92 "_law_places" 557 1 907 1483 [] ["_law_rows_here","_law_told","_law_e"]
def Qt:=AY 93 "_law_sorts" 564 1 914 1492
def PQ:=AY 94 "_law_by_base" 569 1 919 1498 [] ["_law_rows_here","_law_e"]
def PP:=AY 95 "_law_made_bad" 575 2 926 1506 [] ["_law_script","_law_names_here","_law_cell_here","_law_ahead","_law_way","_law_ghost_here","_law_some","_law_at","_law_extra"]
def Oz:=AY 96 "_law_behind" 596 1 933 1521 [] ["_law_script","_law_way"]
def Oy:=AY 97 "_law_ghost" 603 1 940 1529
def Ox:=AY 98 "_law_unknown" 616 1 945 1535 [] ["_law_rows_here","_law_told","_law_found","_law_e"]
def Ow:=AY 99 "law" 626 1 952 1545 [] ["_law_script","_law_names_here","_law_ahead","_law_bad","_law_rows_here","_law_handed","_law_found","_law_good"]
def HK:Params->W.Frag:=λP=>(nat_lit 2,je P)::(nat_lit 3,jd P)::(nat_lit 30,gn P)::(nat_lit 31,gm P)::(nat_lit 43,gh P)::(nat_lit 44,fz P)::(nat_lit 55,fw P)::(nat_lit 56,fv P)::(nat_lit 67,fu P)::(nat_lit 68,ft P)::(nat_lit 83,dC jk)::(nat_lit 84,nN jk)::(nat_lit 86,fq P)::(nat_lit 87,fm P)::(nat_lit 105,OX P)::(nat_lit 106,OW P)::(nat_lit 117,OV P)::(nat_lit 118,OU P)::(nat_lit 133,dC fg)::(nat_lit 134,nN fg)::(nat_lit 136,OT P)::(nat_lit 137,OS P)::(nat_lit 155,OR P)::(nat_lit 156,OQ P)::(nat_lit 174,OP P)::(nat_lit 175,OO P)::(nat_lit 193,ON P)::(nat_lit 194,OM P)::(nat_lit 205,OL P)::(nat_lit 206,OK P)::(nat_lit 217,OJ P)::(nat_lit 218,OI P)::(nat_lit 224,dD fc)::(nat_lit 225,oP fc)::(nat_lit 231,dC f7)::(nat_lit 232,oM f7)::(nat_lit 236,dD ej)::(nat_lit 237,oO ej)::(nat_lit 243,dC eh)::(nat_lit 244,md eh)::(nat_lit 250,dC ee)::(nat_lit 251,md ee)::(nat_lit 264,dC dz)::(nat_lit 265,md dz)::(nat_lit 266,OH P)::(nat_lit 267,OG P)::(nat_lit 273,dC dy)::(nat_lit 274,lj dy)::(nat_lit 280,dC dw)::(nat_lit 281,lj dw)::(nat_lit 287,dC dv)::(nat_lit 288,lj dv)::(nat_lit 294,dC du)::(nat_lit 295,lj du)::(nat_lit 299,dD dq)::(nat_lit 300,oN dq)::(nat_lit 308,OF P)::(nat_lit 314,dC dm)::(nat_lit 315,m9 dm)::(nat_lit 359,OE P)::(nat_lit 360,OD P)::(nat_lit 377,dC dk)::(nat_lit 378,m9 dk)::(nat_lit 387,OC P)::(nat_lit 388,OB P)::(nat_lit 405,dC dj)::(nat_lit 406,m9 dj)::(nat_lit 422,OA P)::(nat_lit 423,NC P)::(nat_lit 455,Mz P)::(nat_lit 456,Mx P)::(nat_lit 473,dC di)::(nat_lit 474,lQ di)::(nat_lit 490,Mw P)::(nat_lit 491,Mv P)::(nat_lit 506,dC dh)::(nat_lit 507,lQ dh)::(nat_lit 523,MG P)::(nat_lit 524,MF P)::(nat_lit 539,dC dg)::(nat_lit 540,lQ dg)::(nat_lit 556,ME P)::(nat_lit 557,MD P)::(nat_lit 582,MC P)::(nat_lit 583,MB P)::(nat_lit 600,dC df)::(nat_lit 601,lQ df)::(nat_lit 617,MA P)::(nat_lit 618,KO P)::(nat_lit 633,dC de)::(nat_lit 634,lQ de)::(nat_lit 650,JW P)::(nat_lit 651,JV P)::(nat_lit 654,JM P)::(nat_lit 655,JL P)::(nat_lit 656,Iz P)::(nat_lit 662,dC cz)::(nat_lit 663,hW cz)::(nat_lit 669,dC cy)::(nat_lit 670,hW cy)::(nat_lit 676,dC Zm)::(nat_lit 677,hW Zm)::(nat_lit 683,dC Ze)::(nat_lit 684,hW Ze)::(nat_lit 688,dD ZY)::(nat_lit 689,me ZY)::(nat_lit 695,dC ZJ)::(nat_lit 696,hW ZJ)::(nat_lit 709,dC Yc)::(nat_lit 710,hW Yc)::(nat_lit 714,dD YJ)::(nat_lit 715,me YJ)::(nat_lit 721,dC YI)::(nat_lit 722,hW YI)::(nat_lit 728,dC Xq)::(nat_lit 729,hW Xq)::(nat_lit 735,dC XG)::(nat_lit 736,hW XG)::(nat_lit 740,dD XF)::(nat_lit 741,me XF)::(nat_lit 743,Iy P)::(nat_lit 744,Iw P)::(nat_lit 754,dC Wt)::(nat_lit 755,hW Wt)::(nat_lit 761,dC Wb)::(nat_lit 762,IK Wb)::(nat_lit 768,dC Wa)::(nat_lit 769,IK Wa)::(nat_lit 775,dC WO)::(nat_lit 776,IK WO)::(nat_lit 782,dC WN)::(nat_lit 783,IK WN)::(nat_lit 789,dC WM)::(nat_lit 790,IK WM)::(nat_lit 796,dC WL)::(nat_lit 797,IK WL)::(nat_lit 803,dC WK)::(nat_lit 804,IK WK)::(nat_lit 810,dC WJ)::(nat_lit 811,IK WJ)::(nat_lit 817,dC VI)::(nat_lit 818,IK VI)::(nat_lit 831,dC VH)::(nat_lit 832,IK VH)::(nat_lit 838,dC UU)::(nat_lit 839,IK UU)::(nat_lit 845,dC UT)::(nat_lit 846,IK UT)::(nat_lit 852,dC US)::(nat_lit 853,IK US)::(nat_lit 857,dD UR)::(nat_lit 858,jr UR)::(nat_lit 862,dD UQ)::(nat_lit 863,jr UQ)::(nat_lit 867,dD UP)::(nat_lit 868,jr UP)::(nat_lit 874,dC UO)::(nat_lit 875,IK UO)::(nat_lit 881,dC UN)::(nat_lit 882,IK UN)::(nat_lit 888,dC UM)::(nat_lit 889,IK UM)::(nat_lit 895,dC UL)::(nat_lit 896,IK UL)::(nat_lit 900,dD UK)::(nat_lit 901,jr UK)::(nat_lit 905,dD UJ)::(nat_lit 906,jr UJ)::(nat_lit 912,dC UI)::(nat_lit 913,IK UI)::(nat_lit 917,dD Qt)::(nat_lit 918,jr Qt)::(nat_lit 924,dC PQ)::(nat_lit 925,IK PQ)::(nat_lit 931,dC PP)::(nat_lit 932,IK PP)::(nat_lit 938,dC Oz)::(nat_lit 939,IK Oz)::(nat_lit 943,dD Oy)::(nat_lit 944,jr Oy)::(nat_lit 950,dC Ox)::(nat_lit 951,IK Ox)::(nat_lit 957,dC Ow)::(nat_lit 958,IK Ow)::[]
def hkA:List Addr:=[2,3,30,31,43,44,55,56,67,68,83,84,86,87,105,106,117,118,133,134,136,137,155,156,174,175,193,194,205,206,217,218,224,225,231,232,236,237,243,244,250,251,264,265,266,267,273,274,280,281,287,288,294,295,299,300,308,314,315,359,360,377,378,387,388,405,406,422,423,455,456,473,474,490,491,506,507,523,524,539,540,556,557,582,583,600,601,617,618,633,634,650,651,654,655,656,662,663,669,670,676,677,683,684,688,689,695,696,709,710,714,715,721,722,728,729,735,736,740,741,743,744,754,755,761,762,768,769,775,776,782,783,789,790,796,797,803,804,810,811,817,818,831,832,838,839,845,846,852,853,857,858,862,863,867,868,874,875,881,882,888,889,895,896,900,901,905,906,912,913,917,918,924,925,931,932,938,939,943,944,950,951,957,958]
theorem hkA_eq:∀P,hkA=(HK P).map (·.1):=λ_=>by kernel_rfl
def hkV:Program:=W.view AW [0,2,3,4,5,6,7,8,9,10,11,12,13,14,16,17,18,19,20,22,24,25,26,27,28,29,30,31,33,34,35,36,37,38,39,40,42,43,44,46,47,48,49,50,51,52,53,55,56,57,58,59,60,61,62,63,64,65,66,67,69,70,71,72,73,74,75,76,77,78,79,80,81,82,83,84,85,86,87,88,89,90,91,92,93,94,95,96,97,98,99]
def hkLo:List Str:=["FORMS","LISTS","LONGEST"]
abbrev ID (a b:Nat)(m:Str)(t:Nat):Obj:=⟨.type "frame",none,.plain,#[some (.ref a),some (.ref 3),some (.ref b),none,some (.str m t),none,some (.ref 0)]⟩
abbrev IE (n q:Str)(t:Nat)(l k f:Int)(a:Nat)(o:Bool)(e:Int)(b:Nat)(x y z v:Value)(u:Nat):Obj:=⟨.type "code",none,.fields #[.str n t,.str q (t+1),.str "/claim/cut.py" (t+2),.int l 0,.int k 0,.int 0 0,.int 0 0,.int f 0,.ref a,.bool o,.int e 0,.ref b,x,y,z,v,.int u 0,.int l 0,.str "/claim/cut.py" (u+1)],#[]⟩
def mZ (P:Params):List Obj:=[W.boot_o_0 P,BO [Ek P "builtins" 162 (.ref 4),Ek P "__main__" 163 (.ref 5)] 2,je P,jd P,⟨(.type "module"),(some 0),.plain,#[]⟩,⟨(.type "module"),(some 3),.plain,#[]⟩,⟨(.type "dict"),none,(.dict #[] 0),#[]⟩,GD,jg,IE "<module>" "<module>" 176 1 0 0 7 false 175 8 .none .none .none .none 179,ID 9 3 "__main__" 164,GD,IW [(1,0,20),(5,0,27),(7,0,40),(9,0,52),(11,0,64),(13,0,76),(17,0,95),(21,0,114),(23,0,126),(27,0,145),(31,0,164),(35,0,183),(40,0,202),(42,0,214),(49,0,224),(54,0,231),(64,0,236),(70,0,243),(77,0,250),(86,0,257),(92,0,264),(100,0,273),(104,0,280),(109,0,287),(113,0,294),(123,0,299),(129,0,306),(159,0,370),(168,0,398),(183,0,431),(185,0,438),(192,0,466),(202,0,499),(214,0,532),(225,0,565),(232,0,593),(244,0,626),(262,0,662),(270,0,669),(276,0,676),(288,0,683),(293,0,688),(301,0,695),(305,0,702),(344,0,754),(357,0,761),(361,0,768),(363,0,775),(366,0,782),(372,0,789),(377,0,796),(387,0,803),(390,0,810),(394,0,817),(397,0,824),(404,0,831),(413,0,838),(416,0,845),(424,0,852),(429,0,857),(456,0,862),(469,0,867),(477,0,874),(489,0,881),(499,0,888),(518,0,895),(523,0,900),(541,0,905),(557,0,912),(564,0,917),(569,0,924),(575,0,931),(596,0,938),(603,0,943),(616,0,950),(626,0,957)],IE "<module>" "<module>" 182 1 0 0 11 false 181 12 .none .none .none .none 185,ID 13 3 "__main__" 164]++(oK mF++([⟨(.type "tuple"),none,(.seq #[(.type "ValueError")] 0),#[]⟩,IG,BO [Ek P "__module__" 203 (.str "doletaper.errors" 194),Ek P "__qualname__" 205 (.str "HelpError" 204),Ek P "__firstlineno__" 207 (.int 5 206),Ek P "__static_attributes__" 208 (.ref 29)] 4,GD,jg,IE "HelpError" "HelpError" 198 5 0 0 25 false 181 26 .none .none .none .none 201,ID 27 24 "doletaper.errors" 194,GD,gn P,gm P,O1 "__weakref__" 209 31 (.builtin "ExceptionGroup.__weakref__") .none,IF 31,IH 31,Ic 31,IG,BO [Ek P "__module__" 221 (.str "doletaper.errors" 194),Ek P "__qualname__" 223 (.str "NoAmount" 222),Ek P "__firstlineno__" 225 (.int 7 224),Ek P "__static_attributes__" 226 (.ref 42)] 4]++([GD,jg,IE "NoAmount" "NoAmount" 216 7 0 0 38 false 181 39 .none .none .none .none 219,ID 40 37 "doletaper.errors" 194,GD,gh P,fz P,IF 44,IH 44,Ic 31,IG,BO [Ek P "__module__" 237 (.str "doletaper.errors" 194),Ek P "__qualname__" 239 (.str "NoBend" 238),Ek P "__firstlineno__" 241 (.int 9 240),Ek P "__static_attributes__" 242 (.ref 54)] 4,GD,jg,IE "NoBend" "NoBend" 232 9 0 0 50 false 181 51 .none .none .none .none 235,ID 52 49 "doletaper.errors" 194]++([GD,fw P,fv P,IF 56,IH 56,Ic 31,IG,BO [Ek P "__module__" 253 (.str "doletaper.errors" 194),Ek P "__qualname__" 255 (.str "NoPerson" 254),Ek P "__firstlineno__" 257 (.int 11 256),Ek P "__static_attributes__" 258 (.ref 66)] 4,GD,jg,IE "NoPerson" "NoPerson" 248 11 0 0 62 false 181 63 .none .none .none .none 251,ID 64 61 "doletaper.errors" 194,GD,fu P,ft P,IF 68]++([IH 68,Ic 31,IG,BO [Ek P "__module__" 269 (.str "doletaper.errors" 194),Ek P "__qualname__" 271 (.str "Unknown" 270),Ek P "__firstlineno__" 273 (.int 13 272),Ek P "__init__" 281 (.ref 84),Ek P "__static_attributes__" 283 (.ref 85)] 5,GD,IW [(15,4,83)],IE "Unknown" "Unknown" 264 13 0 0 74 false 181 75 .none .none .none .none 267,ID 76 73 "doletaper.errors" 194]++(jz jk++([Ib ["title"] 282,fq P,fm P,IF 87,IH 87,Ic 31,IG,BO [Ek P "__module__" 294 (.str "doletaper.errors" 194),Ek P "__qualname__" 296 (.str "Twice" 295),Ek P "__firstlineno__" 298 (.int 17 297),Ek P "__init__" 306 (.ref 103),Ek P "__static_attributes__" 308 (.ref 104)] 5,GD,IW [(19,4,102)],IE "Twice" "Twice" 289 17 0 0 93 false 181 94 .none .none .none .none 292,ID 95 92 "doletaper.errors" 194]++(jz lL++([Ib ["title"] 307,OX P,OW P,IF 106,IH 106,Ic 31,IG,BO [Ek P "__module__" 319 (.str "doletaper.errors" 194),Ek P "__qualname__" 321 (.str "NoWord" 320),Ek P "__firstlineno__" 323 (.int 21 322),Ek P "__static_attributes__" 324 (.ref 116)] 4,GD,jg,IE "NoWord" "NoWord" 314 21 0 0 112 false 181 113 .none .none .none .none 317,ID 114 111 "doletaper.errors" 194,GD,OV P,OU P,IF 118]++([IH 118,Ic 31,IG,BO [Ek P "__module__" 335 (.str "doletaper.errors" 194),Ek P "__qualname__" 337 (.str "NoRow" 336),Ek P "__firstlineno__" 339 (.int 23 338),Ek P "__init__" 347 (.ref 134),Ek P "__static_attributes__" 349 (.ref 135)] 5,GD,IW [(25,4,133)],IE "NoRow" "NoRow" 330 23 0 0 124 false 181 125 .none .none .none .none 333,ID 126 123 "doletaper.errors" 194]++(jz fg++([Ib ["place"] 348,OT P,OS P,IF 137,IH 137,Ic 31,IG,BO [Ek P "__module__" 360 (.str "doletaper.errors" 194),Ek P "__qualname__" 362 (.str "Tangled" 361),Ek P "__firstlineno__" 364 (.int 27 363),Ek P "__init__" 372 (.ref 153),Ek P "__static_attributes__" 374 (.ref 154)] 5,GD,IW [(29,4,152)],IE "Tangled" "Tangled" 355 27 0 0 143 false 181 144 .none .none .none .none 358,ID 145 142 "doletaper.errors" 194]++(jz lK++([Ib ["titles"] 373,OR P,OQ P,IF 156,IH 156,Ic 31,IG,BO [Ek P "__module__" 385 (.str "doletaper.errors" 194),Ek P "__qualname__" 387 (.str "Jumps" 386),Ek P "__firstlineno__" 389 (.int 31 388),Ek P "__init__" 397 (.ref 172),Ek P "__static_attributes__" 399 (.ref 173)] 5,GD,IW [(33,4,171)],IE "Jumps" "Jumps" 380 31 0 0 162 false 181 163 .none .none .none .none 383,ID 164 161 "doletaper.errors" 194]++(jz lJ)))))))))))))))
def mY (P:Params):List Obj:=[Ib ["titles"] 398,OP P,OO P,IF 175,IH 175,Ic 31,IG,BO [Ek P "__module__" 410 (.str "doletaper.errors" 194),Ek P "__qualname__" 412 (.str "Widens" 411),Ek P "__firstlineno__" 414 (.int 35 413),Ek P "__init__" 423 (.ref 191),Ek P "__static_attributes__" 426 (.ref 192)] 5,GD,IW [(37,4,190)],IE "Widens" "Widens" 405 35 0 0 181 false 181 182 .none .none .none .none 408,ID 183 180 "doletaper.errors" 194]++(jz lI++([Ib ["pull","titles"] 424,ON P,OM P,IF 194,IH 194,Ic 31,IG,BO [Ek P "__module__" 437 (.str "doletaper.errors" 194),Ek P "__qualname__" 439 (.str "TooMany" 438),Ek P "__firstlineno__" 441 (.int 40 440),Ek P "__static_attributes__" 442 (.ref 204)] 4,GD,jg,IE "TooMany" "TooMany" 432 40 0 0 200 false 181 201 .none .none .none .none 435,ID 202 199 "doletaper.errors" 194,GD,OL P,OK P,IF 206]++([IH 206,Ic 31,IG,BO [Ek P "__module__" 453 (.str "doletaper.errors" 194),Ek P "__qualname__" 455 (.str "NoNews" 454),Ek P "__firstlineno__" 457 (.int 42 456),Ek P "__static_attributes__" 458 (.ref 216)] 4,GD,jg,IE "NoNews" "NoNews" 448 42 0 0 212 false 181 213 .none .none .none .none 451,ID 214 211 "doletaper.errors" 194,GD,OJ P,OI P,IF 218,IH 218]++(oI fc++(oJ f7++(oH ej++(lh eh++(lh ee++(lh lH++(lh dz++([OH P,OG P]++(lg dy++(lg dw++(lg dv++(lg du)))))))))))))))
def mX (P:Params):List Obj:=oG dq++([GD,IG,BO [Ek P "__module__" 594 (.str "doletaper.kinds" 585),Ek P "__qualname__" 596 (.str "Kind" 595),Ek P "__firstlineno__" 598 (.int 129 597),Ek P "__init__" 615 (.ref 315),Ek P "full_of" 623 (.ref 322),Ek P "may_have" 631 (.ref 329),Ek P "owns" 639 (.ref 336),Ek P "taken_off" 646 (.ref 343),Ek P "greatest_rate" 653 (.ref 350),Ek P "amount_from" 661 (.ref 357),Ek P "__static_attributes__" 671 (.ref 358)] 11,GD,IW [(131,4,314),(142,4,321),(145,4,328),(148,4,335),(151,4,342),(154,4,349),(157,4,356)],IE "Kind" "Kind" 589 129 0 0 304 false 181 305 .none .none .none .none 592,ID 306 303 "doletaper.kinds" 585,OF P]++(O5 dm++(O5 lG++(O5 lF++(O5 lE++(O5 lD++(O5 lC++(O5 lB++([Ib ["counts","limit","offs","parts","pays","terms","title","unit","way"] 662,OE P,OD P,O1 "__dict__" 672 360 (.builtin "function.__dict__") (.builtin "function.__dict__#set"),O1 "__weakref__" 674 360 (.builtin "ExceptionGroup.__weakref__") .none,IF 360,IH 360,GD,IG,BO [Ek P "__module__" 686 (.str "doletaper.kinds" 585),Ek P "__qualname__" 688 (.str "Cap" 687),Ek P "__firstlineno__" 690 (.int 159 689),Ek P "__init__" 700 (.ref 378),Ek P "room_for" 708 (.ref 385),Ek P "__static_attributes__" 712 (.ref 386)] 6,GD,IW [(161,4,377),(166,4,384)],IE "Cap" "Cap" 681 159 0 0 368 false 181 369 .none .none .none .none 684,ID 370 367 "doletaper.kinds" 585]++(O5 dk++(O5 lA++([Ib ["each","limit","titles"] 709,OC P,OB P,O1 "__dict__" 713 388 (.builtin "function.__dict__") (.builtin "function.__dict__#set"),O1 "__weakref__" 715 388 (.builtin "ExceptionGroup.__weakref__") .none,IF 388,IH 388,GD,IG,BO [Ek P "__module__" 727 (.str "doletaper.kinds" 585),Ek P "__qualname__" 729 (.str "Office" 728),Ek P "__firstlineno__" 731 (.int 168 730),Ek P "__init__" 740 (.ref 406),Ek P "kind" 749 (.ref 413),Ek P "named" 756 (.ref 420),Ek P "__static_attributes__" 759 (.ref 421)] 7,GD,IW [(170,4,405),(174,4,412),(180,4,419)],IE "Office" "Office" 722 168 0 0 396 false 181 397 .none .none .none .none 725,ID 398 395 "doletaper.kinds" 585]++(O5 dj++(O5 kz++(O5 ky)))))))))))))))
def mW (P:Params):List Obj:=[Ib ["caps","kinds"] 757,OA P,NC P,O1 "__dict__" 760 423 (.builtin "function.__dict__") (.builtin "function.__dict__#set"),O1 "__weakref__" 762 423 (.builtin "ExceptionGroup.__weakref__") .none,IF 423,IH 423]++(oE kx++([GD,IG,BO [Ek P "__module__" 782 (.str "doletaper.parts" 767),Ek P "__qualname__" 784 (.str "Part" 783),Ek P "__firstlineno__" 786 (.int 185 785),Ek P "worth" 794 (.ref 446),Ek P "row" 801 (.ref 453),Ek P "__static_attributes__" 802 (.ref 454)] 6,GD,IW [(187,4,445),(190,4,452)],IE "Part" "Part" 777 185 0 0 436 false 181 437 .none .none .none .none 780,ID 438 435 "doletaper.parts" 767]++(IY ko++(IY km++([GD,Mz P,Mx P,O1 "__dict__" 803 456 (.builtin "function.__dict__") (.builtin "function.__dict__#set"),O1 "__weakref__" 805 456 (.builtin "ExceptionGroup.__weakref__") .none,IF 456,IH 456,Ic 456,IG,BO [Ek P "__module__" 817 (.str "doletaper.parts" 767),Ek P "__qualname__" 819 (.str "Base" 818),Ek P "__firstlineno__" 821 (.int 192 820),Ek P "__init__" 829 (.ref 474),Ek P "worth" 837 (.ref 481),Ek P "row" 844 (.ref 488),Ek P "__static_attributes__" 846 (.ref 489)] 7,GD,IW [(194,4,473),(197,4,480),(200,4,487)],IE "Base" "Base" 812 192 0 0 464 false 181 465 .none .none .none .none 815,ID 466 463 "doletaper.parts" 767]++(IY di++(IY kj++(IY ki++([Ib ["amount"] 845,Mw P,Mv P,IF 491,IH 491,Ic 456,IG,BO [Ek P "__module__" 857 (.str "doletaper.parts" 767),Ek P "__qualname__" 859 (.str "Each" 858),Ek P "__firstlineno__" 861 (.int 202 860),Ek P "__init__" 871 (.ref 507),Ek P "worth" 879 (.ref 514),Ek P "row" 886 (.ref 521),Ek P "__static_attributes__" 890 (.ref 522)] 7,GD,IW [(204,4,506),(209,4,513),(212,4,520)],IE "Each" "Each" 852 202 0 0 497 false 181 498 .none .none .none .none 855,ID 499 496 "doletaper.parts" 767]++(IY dh++(IY kZ++(IY kY++([Ib ["amount","high","low"] 887,MG P,MF P,IF 524,IH 524,Ic 456,IG,BO [Ek P "__module__" 901 (.str "doletaper.parts" 767),Ek P "__qualname__" 903 (.str "Rent" 902),Ek P "__firstlineno__" 905 (.int 214 904),Ek P "__init__" 914 (.ref 540),Ek P "worth" 922 (.ref 547),Ek P "row" 929 (.ref 554),Ek P "__static_attributes__" 932 (.ref 555)] 7,GD,IW [(216,4,539),(220,4,546),(223,4,553)],IE "Rent" "Rent" 896 214 0 0 530 false 181 531 .none .none .none .none 899,ID 532 529 "doletaper.parts" 767]++(IY dg++(IY kX)))))))))))))))
def mV (P:Params):List Obj:=IY kW++([Ib ["most","rate"] 930,ME P,MD P,IF 557,IH 557,GD,IG,BO [Ek P "__module__" 943 (.str "doletaper.parts" 767),Ek P "__qualname__" 945 (.str "Term" 944),Ek P "__firstlineno__" 947 (.int 225 946),Ek P "met" 955 (.ref 573),Ek P "row" 962 (.ref 580),Ek P "__static_attributes__" 963 (.ref 581)] 6,GD,IW [(227,4,572),(230,4,579)],IE "Term" "Term" 938 225 0 0 563 false 181 564 .none .none .none .none 941,ID 565 562 "doletaper.parts" 767]++(IY kU++(IY kT++([GD,MC P,MB P,O1 "__dict__" 964 583 (.builtin "function.__dict__") (.builtin "function.__dict__#set"),O1 "__weakref__" 966 583 (.builtin "ExceptionGroup.__weakref__") .none,IF 583,IH 583,Ic 583,IG,BO [Ek P "__module__" 978 (.str "doletaper.parts" 767),Ek P "__qualname__" 980 (.str "From" 979),Ek P "__firstlineno__" 982 (.int 232 981),Ek P "__init__" 992 (.ref 601),Ek P "met" 1000 (.ref 608),Ek P "row" 1007 (.ref 615),Ek P "__static_attributes__" 1011 (.ref 616)] 7,GD,IW [(234,4,600),(239,4,607),(242,4,614)],IE "From" "From" 973 232 0 0 591 false 181 592 .none .none .none .none 976,ID 593 590 "doletaper.parts" 767]++(IY df++(IY kR++(IY kQ++([Ib ["high","low","many"] 1008,MA P,KO P,IF 618,IH 618,Ic 583,IG,BO [Ek P "__module__" 1022 (.str "doletaper.parts" 767),Ek P "__qualname__" 1024 (.str "Upto" 1023),Ek P "__firstlineno__" 1026 (.int 244 1025),Ek P "__init__" 1036 (.ref 634),Ek P "met" 1044 (.ref 641),Ek P "row" 1051 (.ref 648),Ek P "__static_attributes__" 1055 (.ref 649)] 7,GD,IW [(246,4,633),(251,4,640),(254,4,647)],IE "Upto" "Upto" 1017 244 0 0 624 false 181 625 .none .none .none .none 1020,ID 626 623 "doletaper.parts" 767]++(IY de++(IY kP++(IY kO++([Ib ["high","low","many"] 1052,JW P,JV P,IF 651,IH 651,JM P,JL P,Iz P]++(gy cz++(gy cy++(gy Zm)))))))))))))))
def mU (P:Params):List Obj:=gy Ze++(m8 ZY++(gy ZJ++([GD,IG,BO [Ek P "__module__" 1209 (.str "doletaper.reading" 1059),Ek P "__qualname__" 1211 (.str "Reader" 1210),Ek P "__firstlineno__" 1213 (.int 305 1212),Ek P "__init__" 1220 (.ref 710),Ek P "titles_told" 1226 (.ref 715),Ek P "fits" 1235 (.ref 722),Ek P "caps_none_twice" 1245 (.ref 729),Ek P "take" 1254 (.ref 736),Ek P "office_told" 1260 (.ref 741),Ek P "__static_attributes__" 1264 (.ref 742)] 10,GD,IW [(307,4,709),(312,4,714),(315,4,721),(322,4,728),(328,4,735),(339,4,740)],IE "Reader" "Reader" 1204 305 0 0 700 false 181 701 .none .none .none .none 1207,ID 702 699 "doletaper.reading" 1059]++(gy Yc++(m8 YJ++(gy YI++(gy Xq++(gy XG++(m8 XF++([Ib ["asked_for","caps","drafts"] 1261,Iy P,Iw P,O1 "__dict__" 1265 744 (.builtin "function.__dict__") (.builtin "function.__dict__#set"),O1 "__weakref__" 1267 744 (.builtin "ExceptionGroup.__weakref__") .none,IF 744,IH 744]++(gy Wt++(II Wb++(II Wa++(II WO++(II WN)))))))))))))))
def mT (P:Params):List Obj:=II WM++(II WL++(II WK++(II WJ++(II VI++(II kN++(II VH++(II UU++(II UT++(II US++(jq UR++(jq UQ++(jq UP++(II UO++(II UN++(II UM)))))))))))))))
def mR (P:Params):List Obj:=II UL++(jq UK++(jq UJ++(II UI++(jq Qt++(II PQ++(II PP++(II Oz++(jq Oy++(II Ox++(II Ow))))))))))
def FS (P:Params):List Obj:=mZ P++(mY P++(mX P++(mW P++(mV P++(mU P++(mT P++(mR P)))))))
open W in
def jf (f:Params->List Obj)(w:World)(os:OsState):Shared:=⟨⟨⟨f w.params⟩,{}⟩,#[],{},1559,os⟩
open W in
def hdL0 (p:Program)(w:World)(os:OsState):=Hd.answer p 61 9000 10 (λs=>s) w os
open W in
def hdR0 (p:Program)(f:Params->List Obj)(w:World)(os:OsState):=Hd.answer0 p 2 (jf f w os)
theorem nv:hdL0=hdL0:=rfl
theorem ni:hdR0=hdR0:=rfl
name_quick hdL0 for hdL0 by nv
name_quick hdR0 for hdR0 by ni
theorem LU (w:World)(os):(λw=>hdL0 AW w os=hdR0 AW FS w os) (w.withFollow "special-get-raises" false):=by
 show _=_;rw[PySem.W.Fast.hdL0_eq,PySem.W.Fast.hdR0_eq]
 (kernel_rfl)
theorem LS (w:World)(os):(λw=>hdL0 AW w os=hdR0 AW FS w os) (w.withFollow "special-get-raises" true):=by
 show _=_;rw[PySem.W.Fast.hdL0_eq,PySem.W.Fast.hdR0_eq]
 (kernel_rfl)
theorem R6 (w)(os):hdL0 AW w os=hdR0 AW FS w os:=W.byRow2 "special-get-raises" (P:=λw=>hdL0 AW w os=hdR0 AW FS w os) (λw=>LU w os) (λw=>LS w os) w
open W in
def hdL1 (p q:Program)(A:List Addr)(rs:W.WRecords)(lo:List Str)(s:Shared)(w:World):=Hd.fH s λs=>((W.staticsOk (importedModules p.main.body) (W.boot_heap w.params) s.heap&&W.namesBound p s.heap&&W.gensDone s&&W.laidKept (W.boot_heap w.params) s.heap),A.map s.heap.get?)
open W in
def hdR1 (p q:Program)(f:Params->W.Frag)(lo:List Str)(w:World):=(true,(f w.params).map λp=>some p.2)
theorem nu:hdL1=hdL1:=rfl
name_quick hdL1 for hdL1 by nu
theorem Hu (w)(os):hdL1 AW hkV hkA (W.RowW.records (W.OpenRow.toRowW AX)) hkLo (jf FS w os) w=hdR1 AW hkV HK hkLo w:=by
 rw[PySem.W.Fast.hdL1_eq]
 (kernel_rfl)
open W in
def hdL2 (p q:Program)(A:List Addr)(rs:W.WRecords)(lo:List Str)(s:Shared)(w:World):=Hd.fH s λs=>seen ((recsOf q).map (·.name)) (ownsOf q) [] { s with gens:=#[] }
open W in
def hdR2 (p q:Program)(f:Params->W.Frag)(lo:List Str)(w:World):=(expectedOf q)
theorem nk:hdL2=hdL2:=rfl
name_quick hdL2 for hdL2 by nk
theorem Ht (w)(os):hdL2 AW hkV hkA (W.RowW.records (W.OpenRow.toRowW AX)) hkLo (jf FS w os) w=hdR2 AW hkV HK hkLo w:=by
 rw[PySem.W.Fast.hdL2_eq]
 (kernel_rfl)
open W in
def hdL31 (p q:Program)(A:List Addr)(rs:W.WRecords)(lo:List Str)(s:Shared)(w:World):=Hd.fH s λs=>(s.heap.bltView)
open W in
def hdR31 (p q:Program)(f:Params->W.Frag)(lo:List Str)(w:World):=bltViewBooted
theorem RZ (w)(os):hdL31 AW hkV hkA (W.RowW.records (W.OpenRow.toRowW AX)) hkLo (jf FS w os) w=hdR31 AW hkV HK hkLo w:=by
 (kernel_rfl)
open W in
def hdL32 (p q:Program)(A:List Addr)(rs:W.WRecords)(lo:List Str)(s:Shared)(w:World):=Hd.fH s λs=>(s.heap.keysOk (looseW q lo) ((recsOf q).map (·.name)) ((litsOf q).map (·.1)) ((clssOf q (looseW q lo)).map (·.name))&&s.heap.accountedOkI (importedModules p.main.body)&&s.heap.isNs mainGlobals&&s.heap.isNs builtinsNs&&tablesOk q s.heap&&(λs=>W.xlAt q [] s&&W.recOk rs s) s&&(if true then s.gens.size==0 else !leftWithCleanup s.gens))
open W in
def hdR32 (p q:Program)(f:Params->W.Frag)(lo:List Str)(w:World):=true
theorem DD:hdL32=hdL32:=rfl
name_quick hdL32 for hdL32 by DD
theorem RY (w)(os):hdL32 AW hkV hkA (W.RowW.records (W.OpenRow.toRowW AX)) hkLo (jf FS w os) w=hdR32 AW hkV HK hkLo w:=by
 rw[PySem.W.Fast.hdL32_eq]
 (kernel_rfl)
open W in
def hdL33 (p q:Program)(A:List Addr)(rs:W.WRecords)(lo:List Str)(s:Shared)(w:World):=Hd.fH s λs=>(tabsOk q s)
open W in
def hdR33 (p q:Program)(f:Params->W.Frag)(lo:List Str)(w:World):=true
theorem DC:hdL33=hdL33:=rfl
name_quick hdL33 for hdL33 by DC
theorem RX (w)(os):hdL33 AW hkV hkA (W.RowW.records (W.OpenRow.toRowW AX)) hkLo (jf FS w os) w=hdR33 AW hkV HK hkLo w:=by
 rw[PySem.W.Fast.hdL33_eq]
 (kernel_rfl)
open W in
def hdL4 (p q:Program)(A:List Addr)(rs:W.WRecords)(lo:List Str)(s:Shared)(w:World):=Hd.fH s λs=>(pinSeenD q (drecsOf q) s,plainSeenE q (looseW q lo) s,plainSeenD q lo s,wideSeen q s,clsSeenW q lo s)
open W in
def hdR4 (p q:Program)(f:Params->W.Frag)(lo:List Str)(w:World):=(pinGoodD (drecsOf q),plainGoodE q (looseW q lo),plainGoodD q lo,wideGood q,clsGoodW q lo)
theorem nj:hdL4=hdL4:=rfl
name_quick hdL4 for hdL4 by nj
theorem Hs (w)(os):hdL4 AW hkV hkA (W.RowW.records (W.OpenRow.toRowW AX)) hkLo (jf FS w os) w=hdR4 AW hkV HK hkLo w:=by
 rw[PySem.W.Fast.hdL4_eq]
 (kernel_rfl)
theorem hd_left:W.LeftO AW hkV hkLo (λs=>W.xlAt hkV [] s&&W.recOk (W.RowW.records (W.OpenRow.toRowW AX)) s) (W.Hook.obs (W.kHook HK hkA hkA_eq)) (W.Hook.val (W.kHook HK hkA hkA_eq)) 400000:=
 Hd.left_okF (c:=61) (F:=9000) (M:=10) (n:=2) (fin:=jf FS) (by kernel_rfl) rfl (λs=>by kernel_rfl) Hd.size R6 Hu Ht RZ RY RX Hs (by kernel_rfl)
end My
namespace L2
open Spec PyProof.Rows
abbrev Key:=Sum Int Str
def Jm:Key->Value->Bool
 | .inl k,v=>Value.isInt k v
 | .inr x,v=>Value.isStrOf x v
def DH (w:World):Key->Int
 | .inl k=>hashInt k
 | .inr x=>hashStr w x
theorem QX:∀{k} {v},Jm k v=true->(∃i t,k=Sum.inl i/\v=Value.int i t)∨(∃x t,k=Sum.inr x/\v=Value.str x t)
 | .inl i,v,h=>by
  obtain⟨t,e⟩:=Value.isInt_shape (k:=i) (v:=v) h;exact .inl ⟨i,t,rfl,e⟩
 | .inr x,v,h=>by
  obtain⟨t,e⟩:=Value.isStrOf_shape (x:=x) (v:=v) h;exact .inr ⟨x,t,rfl,e⟩
theorem N0 (i:Int)(t):Jm (.inl i) (.int i t)=true:=by simp[Jm,Value.isInt]
theorem Wm (x)(t):Jm (.inr x) (.str x t)=true:=by simp[Jm,Value.isStrOf]
theorem Hk (a b:Int):decide ((Sum.inl a:Key)=Sum.inl b)=(a==b):=by
 by_cases e:a=b
 ·subst e;simp
 ·have h:¬(Sum.inl a:Key)=Sum.inl b:=λq=>e (Sum.inl.inj q)
  rw[Ce h];exact(beq_eq_false_iff_ne.mpr e).symm
theorem Hh (a b):decide ((Sum.inr a:Key)=Sum.inr b)=decide (a=b):=by
 by_cases e:a=b
 ·subst e;simp
 ·have h:¬(Sum.inr a:Key)=Sum.inr b:=λq=>e (Sum.inr.inj q)
  rw[Ce h,Ce e]
theorem Hj (a:Int)(b):decide ((Sum.inl a:Key)=Sum.inr b)=false:=Ce (λq=>nomatch q)
theorem Hi (a)(b:Int):decide ((Sum.inr a:Key)=Sum.inl b)=false:=Ce (λq=>nomatch q)
def QQ (prog:Program)(w:World):PySem.KeyKind prog w Key where
 is:=Jm
 hash:=DH w
 inj:=λv a b ha U=>by
  rcases QX ha with ⟨i,t,rfl,rfl⟩|⟨x,t,rfl,rfl⟩
  ·rcases QX U with ⟨j,u,rfl,e⟩|⟨y,u,rfl,e⟩
   ·injection e with e1 _;rw[e1]
   ·exact nomatch e
  ·rcases QX U with ⟨j,u,rfl,e⟩|⟨y,u,rfl,e⟩
   ·exact nomatch e
   ·injection e with e1 _;rw[e1]
 byValue:=λk v h=>by
  rcases QX h with ⟨i,t,rfl,rfl⟩|⟨x,t,rfl,rfl⟩<;>rfl
 pyHash:=λJ h=>by
  rcases QX J with ⟨i,t,rfl,rfl⟩|⟨x,t,rfl,rfl⟩
  ·exact wpAny_pyHash_int h
  ·exact wpAny_pyHash_str h
 eqBool:=λhu J h=>by
  rcases QX hu with ⟨i,t,rfl,rfl⟩|⟨x,t,rfl,rfl⟩
  ·rcases QX J with ⟨j,u,rfl,rfl⟩|⟨y,u,rfl,rfl⟩
   ·rw[Hk] at h;exact wpAny_eqBool_int h
   ·rw[Hj] at h;exact SeqAt.EqAt.int_str i t y u _ _ _ _ h
  ·rcases QX J with ⟨j,u,rfl,rfl⟩|⟨y,u,rfl,rfl⟩
   ·rw[Hi] at h;exact SeqAt.EqAt.str_int x t j u _ _ _ _ h
   ·rw[Hh] at h;exact wpAny_eqBool_str h
 «strs»:=λk x t v h=>by
  rcases QX h with ⟨i,u,rfl,e⟩|⟨y,u,rfl,e⟩
  ·exact nomatch e
  ·injection e with e1 _
   subst e1;cases v<;>rfl
theorem Ua (prog)(w)(i:Int)(t):(QQ prog w).is (.inl i) (.int i t)=true:=N0 i t
theorem V9 (prog)(w)(x)(t):(QQ prog w).is (.inr x) (.str x t)=true:=Wm x t
inductive V where
 | non|bl (b:Bool)|int (i:Int)|str (x:Str)|byt (b:Array UInt8)|flt (b:UInt64)|ref (a:Addr)|ty (n:String)
 deriving DecidableEq
def RelV:V->Value->Prop
 | .non,u=>u=Value.none
 | .bl b,u=>u=Value.bool b
 | .int i,u=>∃t,u=Value.int i t
 | .str x,u=>∃t,u=Value.str x t
 | .byt b,u=>∃t,u=Value.bytes b t
 | .flt b,u=>∃t,u=Value.float b t
 | .ref a,u=>u=Value.ref a
 | .ty n,u=>u=Value.type n
abbrev Vals:List V->List Value->Prop:=Paired RelV
theorem Vals.length {xs}(r:Vals xs us):xs.length=us.length:=Paired.length r
theorem Vals.get:∀{xs} {us} {i:Nat} {x:V},Vals xs us->xs[i]?=some x->∃u,us[i]?=some u/\RelV x u
 | _,_,_,_,.nil,e=>by simp at e
 | _,_,0,_,.cons r _,e=>by simp at e;subst e;exact⟨_,rfl,r⟩
 | _,_,i+1,x,.cons _ t,e=>by
  obtain⟨u,h1,h2⟩:=Vals.get (i:=i) (x:=x) t (by simpa using e);exact⟨u,by simpa using h1,h2⟩
theorem Vals.append:∀{xs ys} {us ws},Vals xs us->Vals ys ws->Vals (xs++ys) (us++ws)
 | _,_,_,_,.nil,s=>s
 | _,_,_,_,.cons r t,s=>.cons r (Vals.append t s)
theorem Vals.take:∀{xs} {us} (n:Nat),Vals xs us->Vals (xs.take n) (us.take n)
 | _,_,0,_=>.nil
 | _,_,_+1,.nil=>.nil
 | _,_,n+1,.cons r t=>.cons r (Vals.take n t)
theorem Vals.drop:∀{xs} {us} (n:Nat),Vals xs us->Vals (xs.drop n) (us.drop n)
 | _,_,0,r=>r
 | _,_,_+1,.nil=>.nil
 | _,_,n+1,.cons _ t=>Vals.drop n t
def RelO:Option V->Option Value->Prop
 | some v,some u=>RelV v u
 | none,none=>True
 | _,_=>False
def KV {κ:Type}:List (κ×V)->List (κ×Value)->Prop:=Paired λ(p:κ×V) (q:κ×Value)=>p.1=q.1/\RelV p.2 q.2
def kV:Key->V
 | .inl i=>.int i
 | .inr x=>.str x
inductive HO where
 | lst (xs:List V)
 | tup (xs:List V)
 | dK (kvs:List (Key×V))|dT (kvs:List (List Key×V))
 | set (S:Int->Bool) (n:Nat)
 | ins (C dx:Addr) (fs:List (Str×V))
 | own (x:Addr)
 | xd (fs:List (Str×V))
 | met (f x:Addr)
 | rng (lo hi:Int)
 | frz (o:Obj) (u:HO)
 | tbl (ps:Array Value)
 | ext (φ:Heap->Prop)
abbrev Hp:=Addr->Option HO
def upd (H:Hp)(a:Addr)(o:HO):Hp:=λb=>if b=a then some o else H b
theorem Qa:upd H a o a=some o:=by unfold upd;rw[DZ rfl]
theorem Qj {H}{b}{o}(h:b≠a):upd H a o b=H b:=by unfold upd;rw[DY h]
theorem Kn {H:Hp}{o u:HO}(h:H a=some o)(h':H b=some u)(d:o≠u):a≠b:=by
 intro e;subst e;rw[h] at h';exact d (CD h')
theorem Qi {H:Hp}(h:H a=some o)(h':H b=none):a≠b:=by
 intro e;subst e;rw[h] at h';cases h'
section
variable (P:Program) (w:World)
def ObjOk (H:Hp)(h:Heap)(a:Addr):HO->Prop
 | .lst xs=>xs.length<=sizeLine/\∃(its:List Value) (n:Nat),Vals xs its/\h.get? a=some { cls:=.type "list",data:=.seq its.toArray n }
 | .tup xs=>xs.length<=sizeLine/\∃its:List Value,Vals xs its/\IsTup h a its.toArray
 | .dK kvs=>kvs.length<=sizeLine/\(a==sysModules)=false/\∃vs,KV kvs vs/\h.DictOf (QQ P w) a vs
 | .dT kvs=>kvs.length<=sizeLine/\(a==sysModules)=false/\∃xs:List (List Key×Addr×Value),
   Paired (λ(p:List Key×V) (q:List Key×Addr×Value)=>p.1=q.1/\H q.2.1=some (.tup (p.1.map kV))/\RelV p.2 q.2.2) kvs xs /\
   ∃o es ep,h.get? a=some o/\o.ExactDict/\o.data=.dict es ep/\es.toList=xs.map (entryOfKey (tupleKind (QQ P w)))/\(xs.map (·.1)).Nodup
 | .set S n=>h.SetOf (intKind P w) a S n
 | .ins C dx fs=>H dx=some (.own a)/\fs.length<=1000/\dx≠a/\h.get? a=some (W.instObj C dx) /\
   ∃mA,h.Ns1 dx mA/\(∀f,RelO (fs.lookup f) (mA f))/\PySem.Within mA (fs.map (·.1))
 | .own _=>∃o,h.get? a=some o
 | .xd fs=>∃mA,h.Ns1 a mA/\∀f,RelO (fs.lookup f) (mA f)
 | .rng lo hi=>∃t u v,h.get? a=some { cls:=.type "range",data:=.fields #[.int lo t,.int hi u,.int 1 v] }
 | .frz o u=>h.get? a=some o/\ObjOk H h a u
 | .tbl ps=>h.get? a=some { cls:=.none,data:=.fields ps }
 | .met f x=>h.get? a=some (W.methodObj (.ref f) (.ref x))
 | .ext φ=>φ h/\(∃o,h.get? a=some o)/\∀h1 h2:Heap,φ h1->(∀o,h1.get? a=some o->h2.get? a=some o)->φ h2
def HOk (H:Hp)(h:Heap):Prop:=∀a o,H a=some o->ObjOk P w H h a o
end
section
variable {P:Program} {w:World} {H H':Hp} {h h':Heap} {a:Addr} {o:HO}
theorem ObjOk.lt (x:ObjOk P w H h a o):a<h.objs.size:=by
 cases o with
 | lst xs=>obtain⟨_,_,_,_,e⟩:=x;exact D5 e
 | tup xs=>obtain⟨_,_,_,p⟩:=x;exact p.lt
 | dK kvs=>obtain⟨_,_,_,_,o,_,_,e,_⟩:=x;exact D5 e
 | dT kvs=>obtain⟨_,_,_,_,o,_,_,e,_⟩:=x;exact D5 e
 | set S n=>obtain⟨o,_,_,_,e,_⟩:=x;exact D5 e
 | ins C dx fs=>obtain⟨_,_,_,e,_⟩:=x;exact D5 e
 | own y=>obtain⟨_,e⟩:=x;exact D5 e
 | xd fs=>obtain⟨_,⟨_,_,_,e,_⟩,_⟩:=x;exact D5 e
 | rng lo hi=>obtain⟨_,_,_,e⟩:=x;exact D5 e
 | frz J u=>obtain⟨e,_⟩:=x;exact D5 e
 | tbl ps=>exact D5 (show h.get? a=some _ from x)
 | met f y=>exact D5 (show h.get? a=some _ from x)
 | ext φ=>obtain⟨_,⟨_,e⟩,_⟩:=x;exact D5 e
theorem Paired.mapP:∀{l₁} {l₂},Paired F l₁ l₂->(∀a b,F a b->G a b)->Paired G l₁ l₂
 | _,_,.nil,_=>.nil
 | _,_,.cons r t,f=>.cons (f _ _ r) (Paired.mapP t f)
theorem ObjOk.stay (x:ObjOk P w H h a o)(k:∀b u,(b=a∨H b=some (.own a))->h.get? b=some u->h'.get? b=some u)
  (ho:∀b,H b=some (.own a)->H' b=some (.own a)) (ht:∀b xs,H b=some (.tup xs)->H' b=some (.tup xs)):ObjOk P w H' h' a o:=by
 induction o with
 | lst xs=>obtain⟨z,its,n,r,e⟩:=x;exact⟨z,its,n,r,k _ _ (.inl rfl) e⟩
 | tup xs=>obtain⟨z,its,r,J,e,c⟩:=x;exact⟨z,its,r,J,k _ _ (.inl rfl) e,c⟩
 | dK kvs=>obtain⟨z,y,vs,r,J,es,U,e,c⟩:=x;exact⟨z,y,vs,r,J,es,U,k _ _ (.inl rfl) e,c⟩
 | dT kvs=>
  obtain⟨z,y,xs,r,J,es,U,e,c⟩:=x;exact⟨z,y,xs,Paired.mapP r λp q z=>⟨z.1,ht _ _ z.2.1,z.2.2⟩,J,es,U,k _ _ (.inl rfl) e,c⟩
 | set S n=>obtain⟨J,es,U,t,e,c⟩:=x;exact⟨J,es,U,t,k _ _ (.inl rfl) e,c⟩
 | ins C dx fs=>
  obtain⟨d,z,ne,e,mA,⟨od,es,U,e2,c⟩,r⟩:=x;exact⟨ho _ d,z,ne,k _ _ (.inl rfl) e,mA,⟨od,es,U,k _ _ (.inr d) e2,c⟩,r⟩
 | own y=>obtain⟨J,e⟩:=x;exact⟨J,k _ _ (.inl rfl) e⟩
 | xd fs=>obtain⟨mA,⟨od,es,U,e,c⟩,r⟩:=x;exact⟨mA,⟨od,es,U,k _ _ (.inl rfl) e,c⟩,r⟩
 | rng lo hi=>obtain⟨t,u,v,e⟩:=x;exact⟨t,u,v,k _ _ (.inl rfl) e⟩
 | frz J u ih=>obtain⟨e,q⟩:=x;exact⟨k _ _ (.inl rfl) e,ih q⟩
 | tbl ps=>
  have e:h.get? a=some { cls:=.none,data:=.fields ps }:=x;show h'.get? a=some { cls:=.none,data:=.fields ps };exact k a _ (.inl rfl) e
 | met f y=>
  have e:h.get? a=some (W.methodObj (.ref f) (.ref y)):=x;show h'.get? a=some (W.methodObj (.ref f) (.ref y));exact k a _ (.inl rfl) e
 | ext φ=>obtain⟨p,⟨o,e⟩,st⟩:=x;exact⟨st _ _ p λo q=>k _ _ (.inl rfl) q,⟨o,k _ _ (.inl rfl) e⟩,st⟩
theorem HOk.lt (x:HOk P w H h)(e:H a=some o):a<h.objs.size:=(x a o e).lt
theorem HOk.fresh (x:HOk P w H h)(e:h.objs.size<=a):H a=none:=by
 cases q:H a with
 | none=>rfl
 | some u=>exact absurd (Cn (x.lt q) e) (CB _)
theorem HOk.kept (x:HOk P w H h)(k:∀b u,h.get? b=some u->h'.get? b=some u):HOk P w H h':=λa o e=>
 (x a o e).stay (λb u _ q=>k b u q) (λ_ q=>q) λ_ _ q=>q
theorem HOk.laid (x:HOk P w H h)(k:∀b u,h.get? b=some u->h'.get? b=some u)(hp:h.objs.size<=a)(new:ObjOk P w (upd H a o) h' a o):HOk P w (upd H a o) h':=λb u e=>by
 have hn:=x.fresh hp;by_cases J:b=a
 ·subst J;rw[Qa] at e;cases e;exact new
 ·rw[Qj J] at e;exact(x b u e).stay (λc v _ q=>k c v q) (λc q=>by rw[Qj (Qi q hn)];exact q) λc xs q=>by rw[Qj (Qi q hn)];exact q
end
def Rd (H:Hp)(a:Addr)(u:HO):Prop:=H a=some u∨∃o,H a=some (.frz o u)
theorem Rd.ok {H}{u}(r:Rd H a u)(x:HOk P w H h):ObjOk P w H h a u:=by
 rcases r with r|⟨o,r⟩
 ·exact x a u r
 ·obtain⟨_,q⟩:=x a _ r;exact q
def lU:Option HO->Prop
 | some (.lst _)=>True
 | some (.dK _)=>True
 | some (.dT _)=>True
 | some (.set _ _)=>True
 | some (.ins _ _ _)=>True
 | some (.ext _)=>True
 | _=>False
section
variable {P:Program} {w:World} {H:Hp} {h h':Heap} {x e:Addr} {o':HO}
theorem HOk.write (ok:HOk P w H h)(mu:lU (H x))(he:e=x∨H e=some (.own x))(k:∀b u,b≠e->h.get? b=some u->h'.get? b=some u)(heo:∃u,h'.get? e=some u)
  (new:ObjOk P w (upd H x o') h' x o'):HOk P w (upd H x o') h':=λb u q=>by
 have U:∀c y,H c=some (.own y)->c≠x:=λc y r z=>by subst z;rw[r] at mu;exact mu
 have a4:∀c xs,H c=some (.tup xs)->c≠x:=λc xs r z=>by subst z;rw[r] at mu;exact mu
 by_cases hb:b=x
 ·subst hb;rw[Qa] at q;cases q;exact new
 ·rw[Qj hb] at q;by_cases J:b=e
  ·have q':H b=some (.own x):=by
    rcases he with z|z
    ·exact absurd (J.trans z) hb
    ·rw[J];exact z
   rw[q] at q';cases q';obtain⟨v,hv⟩:=heo;exact⟨v,by rw[J];exact hv⟩
  ·refine(ok b u q).stay (λc v hc r=>k c v ?_ r) (λc r=>by rw[Qj (U c b r)];exact r) λc xs r=>by rw[Qj (a4 c xs r)];exact r
   rcases hc with rfl|hc
   ·exact J
   ·rintro rfl;rcases he with z|z
    ·exact U c b hc z
    ·rw[hc] at z;cases z;exact hb rfl
end
structure Un (fs ex:List Addr)(H H':Hp)(h h':Heap):Prop where
 keep:∀b o,h.get? b=some o->H b=none->b∉fs->b∉ex->h'.get? b=some o
 slot:∀b o,h.get? b=some o->H b=none->b∈fs->b∉ex->∃sl,h'.get? b=some { o with slots:=sl }
 free:∀b o,h.get? b=some o->H b=none->b∉ex->H' b=none
 there:∀b o,h.get? b=some o->b∉ex->∃o',h'.get? b=some o'
 tups:∀b xs,H b=some (.tup xs)->H' b=some (.tup xs)
 frzs:∀b o u,H b=some (.frz o u)->H' b=some (.frz o u)
 tbls:∀b ps,H b=some (.tbl ps)->∃more,H' b=some (.tbl (ps++more))
section
variable {fs fs' ex ex':List Addr} {H H1 H2:Hp} {h h1 h2 h':Heap} {a x e:Addr} {o:HO}
theorem Un.any (u:Un fs ex H H1 h h1){b}{ob}(q:h.get? b=some ob)(n:H b=none)(hx:b∉ex):∃sl,h1.get? b=some { ob with slots:=sl }:=by
 by_cases J:b∈fs
 ·exact u.slot b ob q n J hx
 ·exact⟨ob.slots,u.keep b ob q n J hx⟩
theorem Un.kept (k:∀b u,h.get? b=some u->h'.get? b=some u):Un fs ex H H h h':=
 ⟨λb J q _ _ _=>k b J q,λb J q _ _ _=>⟨J.slots,k b J q⟩,λ_ _ _ n _=>n,λb J q _=>⟨J,k b J q⟩,λ_ _ q=>q,λ_ _ _ q=>q,λ_ ps q=>⟨#[],by rw[q];simp⟩⟩
theorem Un.refl:Un fs ex H H h h:=Un.kept λ_ _ q=>q
theorem Un.laid (k:∀b u,h.get? b=some u->h'.get? b=some u)(hp:h.objs.size<=a)(hn:H a=none):Un fs ex H (upd H a o) h h' where
 keep:=λb u q _ _ _=>k b u q
 slot:=λb u q _ _ _=>⟨u.slots,k b u q⟩
 free:=λb u q n _=>by rw[Qj (Cd (Cn (D5 q) hp))];exact n
 there:=λb u q _=>⟨u,k b u q⟩
 tups:=λb xs q=>by rw[Qj (Qi q hn)];exact q
 frzs:=λb u xs q=>by rw[Qj (Qi q hn)];exact q
 tbls:=λb ps q=>⟨#[],by rw[Qj (Qi q hn),q];simp⟩
theorem Un.write (mu:lU (H x))(he:e=x∨H e=some (.own x))(k:∀b u,b≠e->h.get? b=some u->h'.get? b=some u)(heo:∃u,h'.get? e=some u):Un fs ex H (upd H x o) h h':=by
 have hx:∀b,H b=none->b≠x:=λb n z=>by subst z;rw[n] at mu;exact mu
 have hb:∀b,H b=none->b≠e:=λb n z=>by
  subst z;rcases he with r|r
  ·exact hx b n r
  ·rw[n] at r;cases r
 have U:∀b u,H b=some u->¬lU (some u)->b≠x:=λb u q nm z=>by subst z;rw[q] at mu;exact nm mu
 refine⟨λb u q n _ _=>k b u (hb b n) q,λb u q n _ _=>⟨u.slots,k b u (hb b n) q⟩,λb u q n _=>by rw[Qj (hx b n)];exact n,λb u q _=>?_,
  λb xs q=>by rw[Qj (U b _ q λz=>z)];exact q,λb u xs q=>by rw[Qj (U b _ q λz=>z)];exact q,λb ps q=>⟨#[],by rw[Qj (U b _ q λz=>z),q];simp⟩⟩
 by_cases J:b=e
 ·subst J;exact heo
 ·exact⟨u,k b u J q⟩
end
def lY (h:Heap)(H:Hp):List Addr:=(List.range h.objs.size).filter λa=>(H a).isSome
def Vo (h:Heap)(H:Hp):Heap:=W.hideAll h (lY h H)
theorem N3 (h)(H):(Vo h H).objs.size=h.objs.size:=W.hideAll_size _ _
theorem LR {H}{b}{o}(e:h.get? b=some o)(n:H b=none):(Vo h H).get? b=some o:=
 W.hideAll_get _ e λJ=>by
  have q:(H b).isSome=true:=(C4.mp J).2;rw[n] at q;simp at q
theorem RK {H}{b}{o}(e:(Vo h H).get? b=some o):h.get? b=some o/\H b=none:=by
 have J:h.get? b=some o:=W.of_hideAll (lY h H) e;refine⟨J,?_⟩;cases q:H b with
 | none=>rfl
 | some x=>
  have U:b∈lY h H:=C4.mpr ⟨List.mem_range.mpr (D5 J),by simp[q]⟩;have z:(Vo h H).get? b=none:=W.hideAll_none (lY h H) U;rw[z] at e;cases e
def PB (g h:Heap)(L:Addr):List (Addr×Obj):=(List.range h.objs.size).filterMap λa=>if a=L∨(g.get? a).isSome=true then none else(h.get? a).map λo=>(a,o)
def rest (g h:Heap)(L d:Addr):List (Addr×Obj):=(PB g h L).filter λp=>decide (p.1≠d)
structure Mod (K:W.Frag)(mg:Str->Option Value)(base:Heap):Prop where
 kin:K.In base
 glob:base.Ns mainGlobals mg
 blt:∃mb,base.Ns builtinsNs mb/\∀x:Str,x≠"__name__"->mb x=bootBuiltins x
 nolimit:base.NoLimit
structure Cx where
 prog:Program
 w:World
 K:W.Frag
 mg:Str->Option Value
 base:Heap
 A:Around
 N:List Str
 s₀:Shared
 H₀:Hp
 env:Env
 outer:List Env
 stack:List Env
 ex:List Addr
 fn:Str->Bool
 calm:Bool
 pn:List (Addr×Obj)
 xe:Value->Shared->Prop
def IA (l:List Env):List Addr:=l.filterMap (·.frame)
abbrev Cx.fs (X:Cx):List Addr:=IA X.outer
def lS (sc:Scope)(x:Str):Prop:=sc.names.lookup x=some .local∨sc.names.lookup x=some .cell∨sc.names.lookup x=some .free
def ic (sc:Scope)(x:Str):Prop:=sc.names.lookup x=some .local∨sc.names.lookup x=some .cell
def DU (env:Env)(h:Heap)(m:Str->Option Value)(x:Str)(u:Value):Prop:=
 (env.kindOf x=some .local/\m x=some u)∨((env.kindOf x=some .cell∨env.kindOf x=some .free)/\∃c,env.cells.lookup x=some c/\h.IsCell c (some u))
structure Cx.Ok (X:Cx):Prop where
 mod:Mod X.K X.mg X.base
 kind:X.env.scope.kind=.function
 glob:X.env.globals=mainGlobals
 blt:X.env.builtins=builtinsNs
 above:X.s₀.heap.objs.size<=X.env.locals
 inj:∀x y c,X.env.cells.lookup x=some c->X.env.cells.lookup y=some c->x=y
 has:∀x,(X.env.kindOf x=some .cell∨X.env.kindOf x=some .free)->∃c,X.env.cells.lookup x=some c
 cab:∀x c,X.fn x=true->X.env.cells.lookup x=some c->X.s₀.heap.objs.size<=c
 hd:X.calm=true->X.A.handled=none
 frames:X.A.frames=some X.stack
 stk:X.stack=X.outer∨(X.stack=X.env::X.outer/\X.env.frame=some X.env.locals)
 exf:∀b∈X.ex,b≠X.env.locals/\∀x c,X.env.cells.lookup x=some c->c≠b
 bs:∀b o,X.base.get? b=some o->X.s₀.heap.get? b=some o/\X.H₀ b=none
 bsz:X.base.objs.size<=X.s₀.heap.objs.size
 noex:∀b o,X.base.get? b=some o->b∉X.ex
 exfs:∀b∈X.ex,b∉X.fs
 funs:X.s₀.heap.FunFrames X.base X.outer
 frf:∀b∈X.fs,X.H₀ b=none
structure Inv (X:Cx)(pins:List (Addr×Obj))(σ:List (Option V))(H:Hp)(s:Shared):Prop where
 ok:X.Ok
 os:s.os=X.s₀.os
 bare:AllBare s.gens
 base:Un X.fs X.ex X.H₀ H X.s₀.heap s.heap
 loc:∃m,s.heap.Ns X.env.locals m/\∀(i:Nat) (x:Str) (v:V),X.N[i]?=some x->σ[i]?=some (some v)->lS X.env.scope x->∃u,RelV v u/\DU X.env s.heap m x u
 cell:∀x c,X.env.cells.lookup x=some c->∃v,s.heap.IsCell c v
 free:H X.env.locals=none
 freeC:∀x c,X.env.cells.lookup x=some c->H c=none
 pin:∀p∈X.pn++pins,s.heap.get? p.1=some p.2/\H p.1=none/\p.1≠X.env.locals/\p.1∉X.fs/\∀v,p.2.data≠.cell v
 hok:HOk X.prog X.w H s.heap
 len:σ.length=X.N.length
section
variable {X:Cx} {pins:List (Addr×Obj)} {σ:List (Option V)} {H H':Hp} {s:Shared} {h':Heap}
theorem Cx.Ok.nofr (ok:X.Ok){b}{o}(e:X.base.get? b=some o):b∉X.fs:=λhb=>by
 have:=(ok.funs.mem hb).1;rw[e] at this;cases this
theorem Inv.bs (I:Inv X pins σ H s):∀b o,X.base.get? b=some o->s.heap.get? b=some o/\H b=none:=λb o e=>
 ⟨I.base.keep b o (I.ok.bs b o e).1 (I.ok.bs b o e).2 (I.ok.nofr e) (I.ok.noex b o e),I.base.free b o (I.ok.bs b o e).1 (I.ok.bs b o e).2 (I.ok.noex b o e)⟩
theorem Inv.bk (I:Inv X pins σ H s):∀b o,X.base.get? b=some o->s.heap.get? b=some o:=λb o e=>(I.bs b o e).1
theorem Inv.mod (I:Inv X pins σ H s):Mod X.K X.mg X.base:=I.ok.mod
theorem Inv.kIn (I:Inv X pins σ H s):X.K.In s.heap:=I.ok.mod.kin.keeps I.bk
theorem Inv.lt (I:Inv X pins σ H s):X.env.locals<s.heap.objs.size:=let ⟨_,hn,_⟩:=I.loc;hn.lt
theorem Inv.sz (I:Inv X pins σ H s):X.s₀.heap.objs.size<=s.heap.objs.size:=Co I.ok.above (Ak I.lt)
theorem Inv.nofs (I:Inv X pins σ H s){a}(h:s.heap.objs.size<=a):a∉X.fs:=λJ=>by
 obtain⟨_,o,U,_⟩:=I.ok.funs.mem J;exact absurd (Cn (D5 U) (Co I.sz h)) (CB _)
theorem Inv.cne (I:Inv X pins σ H s):∀x c,X.env.cells.lookup x=some c->c≠X.env.locals:=λx c e z=>by
 obtain⟨v,o,ho,hd⟩:=I.cell x c e;obtain⟨m,⟨o',es,ep,U,J,_⟩,_⟩:=I.loc;rw[z,U] at ho;cases ho;rw[J] at hd;cases hd
theorem Inv.funs (I:Inv X pins σ H s):s.heap.FunFrames X.base X.outer:=by
 have all:∀(l:List Env),(∀b∈IA l,b∈X.fs)->X.s₀.heap.FunFrames X.base l->s.heap.FunFrames X.base l:=by
  intro l
  induction l with
  | nil=>intro _ _;trivial
  | cons env r ih=>
   intro hs hl;obtain⟨hk,⟨L,o,hf,hn,ho,hd⟩,hr⟩:=hl;have U:L∈X.fs:=hs L (by unfold IA;rw[List.filterMap_cons,hf];exact Cw);obtain⟨sl,e⟩:=I.base.slot L o ho (I.ok.frf L U) U λz=>I.ok.exfs L z U
   exact⟨hk,⟨L,_,hf,hn,e,hd⟩,ih (λb J=>hs b (by unfold IA;rw[List.filterMap_cons,hf];exact Cu _ J)) hr⟩
 exact all X.outer (λ_ J=>J) I.ok.funs
theorem Inv.stack (I:Inv X pins σ H s):s.heap.FunFrames X.base X.stack:=by
 rcases I.ok.stk with e|⟨e,hf⟩
 ·rw[e];exact I.funs
 ·rw[e];obtain⟨m,hn,_⟩:=I.loc;refine .cons (by rw[I.ok.kind];decide) hf hn ?_ I.funs;exact Heap.get?_none_of_le (Co I.ok.bsz I.ok.above)
theorem Inv.stkSub (I:Inv X pins σ H s):∀b∈IA X.stack,b∈X.env.locals::X.fs:=λb J=>by
 rcases I.ok.stk with e|⟨e,hf⟩
 ·rw[e] at J;exact Cu _ J
 ·rw[e] at J;unfold IA at J;rw[List.filterMap_cons,hf] at J;exact J
theorem Inv.stkFree (I:Inv X pins σ H s):∀b∈IA X.stack,H b=none:=λb J=>by
 rcases Ca.mp (I.stkSub b J) with e|J
 ·rw[e];exact I.free
 ·obtain⟨_,o,U,_⟩:=I.ok.funs.mem J;exact I.base.free b o U (I.ok.frf b J) λz=>I.ok.exfs b z J
theorem Inv.step {g'}{d'}(I:Inv X pins σ H s)
  (hch:∀b∈ch,(b∈X.ex∨X.s₀.heap.objs.size<=b)/\b≠X.env.locals/\(∀x c,X.env.cells.lookup x=some c->c≠b)/\∀p∈X.pn++pins,p.1≠b)
  (keep:∀b o,b≠X.env.locals->b∉X.fs->b∉ch->s.heap.get? b=some o->H b=none->h'.get? b=some o)
  (slot:∀b o,b≠X.env.locals->b∈X.fs->b∉ch->s.heap.get? b=some o->H b=none->∃sl,h'.get? b=some { o with slots:=sl }) (free:∀b o,b∉ch->s.heap.get? b=some o->H b=none->H' b=none)
  (there:∀b o,b∉ch->s.heap.get? b=some o->∃o',h'.get? b=some o')
  (tups:∀b xs,H b=some (.tup xs)->H' b=some (.tup xs)) (frzs:∀b o u,H b=some (.frz o u)->H' b=some (.frz o u)) (tbls:∀b ps,H b=some (.tbl ps)->∃more,H' b=some (.tbl (ps++more)))
  (ns:∀m,s.heap.Ns X.env.locals m->h'.Ns X.env.locals m) (hok:HOk X.prog X.w H' h') (hg:AllBare g') :
  Inv X pins σ H' { s with heap:=h',gens:=g',drawn:=d',toks:=t' }:=by
 have a6:∀b o,X.s₀.heap.get? b=some o->b≠X.env.locals:=λb o e=>Cd (Cn (D5 e) I.ok.above)
 have a5:∀b o,X.s₀.heap.get? b=some o->b∉X.ex->b∉ch:=λb o e J hb=>by
  rcases(hch b hb).1 with z|z
  ·exact J z
  ·exact absurd (Cn (D5 e) z) (CB _)
 have U:∀x c,X.env.cells.lookup x=some c->∀v,s.heap.IsCell c v->h'.IsCell c v:=λx c e v ⟨o,ho,hd⟩=>by
  have a4:c∉ch:=λz=>(hch c z).2.2.1 x c e rfl
  by_cases hc:c∈X.fs
  ·obtain⟨sl,q⟩:=slot c o (I.cne x c e) hc a4 ho (I.freeC x c e);exact⟨_,q,hd⟩
  ·exact⟨o,keep c o (I.cne x c e) hc a4 ho (I.freeC x c e),hd⟩
 refine⟨I.ok,I.os,hg,⟨λb o e n hb J=>?_,λb o e n hb J=>?_,λb o e n J=>?_,λb o e J=>?_,λb xs e=>tups b xs (I.base.tups b xs e),λb o xs e=>frzs b o xs (I.base.frzs b o xs e),λb ps e=>?_⟩,?_,λx c e=>?_,?_,λx c e=>?_,λp hp=>?_,hok,I.len⟩
 ·exact keep b o (a6 b o e) hb (a5 b o e J) (I.base.keep b o e n hb J) (I.base.free b o e n J)
 ·obtain⟨sl,e1⟩:=I.base.slot b o e n hb J;obtain⟨a7,e2⟩:=slot b _ (a6 b o e) hb (a5 b o e J) e1 (I.base.free b o e n J);exact⟨a7,e2⟩
 ·obtain⟨o',e1⟩:=I.base.there b o e J;exact free b o' (a5 b o e J) e1 (I.base.free b o e n J)
 ·obtain⟨o',e1⟩:=I.base.there b o e J;exact there b o' (a5 b o e J) e1
 ·obtain⟨m1,e1⟩:=I.base.tbls b ps e;obtain⟨m2,e2⟩:=tbls b _ e1;exact⟨m1++m2,by rw[e2,Array.append_assoc]⟩
 ·obtain⟨m,hn,hl⟩:=I.loc;refine⟨m,ns m hn,λi x v e1 e2 e3=>?_⟩;obtain⟨u,r,l⟩:=hl i x v e1 e2 e3;refine⟨u,r,?_⟩;rcases l with l|⟨k,c,e,z⟩
  ·exact .inl l
  ·exact .inr ⟨k,c,e,U x c e _ z⟩
 ·obtain⟨v,z⟩:=I.cell x c e;exact⟨v,U x c e v z⟩
 ·obtain⟨m,⟨o,_,_,ho,_⟩,_⟩:=I.loc;exact free _ o (λz=>(hch _ z).2.1 rfl) ho I.free
 ·obtain⟨v,o,ho,hd⟩:=I.cell x c e;exact free c o (λz=>(hch c z).2.2.1 x c e rfl) ho (I.freeC x c e)
 ·obtain⟨e,n,ne,nf,d⟩:=I.pin p hp;have a4:p.1∉ch:=λz=>(hch p.1 z).2.2.2 p hp rfl
  exact⟨keep p.1 p.2 ne nf a4 e n,free p.1 p.2 a4 e n,ne,nf,d⟩
theorem Inv.un (I:Inv X pins σ H s)(u:Un X.fs [] H H' s.heap h')(hok:HOk X.prog X.w H' h'):Inv X pins σ H' { s with heap:=h',toks:=t' }:=by
 obtain⟨m,⟨o,es,ep,ho,r⟩,_⟩:=id I.loc;obtain⟨sl,hL⟩:=u.any ho I.free (by simp);exact I.step (g':=s.gens) (d':=s.drawn) (ch:=[]) (λ_ z=>nomatch z) (λb o _ hb _ e n=>u.keep b o e n hb (by simp)) (λb o _ hb _ e n=>u.slot b o e n hb (by simp)) (λb o _ e n=>u.free b o e n (by simp)) (λb o _ e=>u.there b o e (by simp)) u.tups u.frzs u.tbls (λm' hm=>by
  obtain⟨o',a4,U,J,r'⟩:=hm;rw[ho] at J;cases J;exact⟨_,a4,U,hL,r'⟩) hok I.bare
theorem Inv.call {g'}{d'}(I:Inv X pins σ H s)(u:Un (IA X.stack) ch H H' s.heap h')(hok:HOk X.prog X.w H' h')(hg:AllBare g')
  (hch:∀b∈ch,(b∈X.ex∨X.s₀.heap.objs.size<=b)/\b≠X.env.locals/\(∀x c,X.env.cells.lookup x=some c->c≠b)/\∀p∈X.pn++pins,p.1≠b) :
  Inv X pins σ H' { s with heap:=h',gens:=g',drawn:=d',toks:=t' }:=by
 obtain⟨m,⟨o,es,ep,ho,r⟩,_⟩:=id I.loc;obtain⟨sl,hL⟩:=u.any ho I.free λz=>(hch _ z).2.1 rfl
 exact I.step (ch:=ch) hch (λb o hL hb J e n=>u.keep b o e n (λz=>(Ca.mp (I.stkSub b z)).elim hL hb) J) (λb o _ _ J e n=>u.any e n J) (λb o J e n=>u.free b o e n J) (λb o J e=>u.there b o e J) u.tups u.frzs u.tbls (λm' hm=>by
  obtain⟨o',a5,a4,U,r'⟩:=hm;rw[ho] at U;cases U;exact⟨_,a5,a4,hL,r'⟩) hok hg
theorem Inv.turned (I:Inv X pins σ H s)(k:∀b o,b≠it->s.heap.get? b=some o->h'.get? b=some o)(hn:H it=none)(hL:it≠X.env.locals)
  (h1:it∈X.ex∨X.s₀.heap.objs.size<=it) (h2:∀x c,X.env.cells.lookup x=some c->c≠it) (h3:∀p∈X.pn++pins,p.1≠it):Inv X pins σ H { s with heap:=h',toks:=t' }:=by
 have U:∀b u,H b=some u->b≠it:=λb u e z=>by rw[z,hn] at e;cases e
 refine I.step (g':=s.gens) (d':=s.drawn) (ch:=[it]) (λb hb=>?_) (λb o _ _ J e _=>k b o (λz=>J (by simp[z])) e) (λb o _ _ J e _=>⟨o.slots,k b o (λz=>J (by simp[z])) e⟩) (λ_ _ _ _ n=>n)
  (λb o J e=>⟨o,k b o (λz=>J (by simp[z])) e⟩) (λ_ _ e=>e) (λ_ _ _ e=>e) (λb ps e=>⟨#[],by rw[e];simp⟩) (λm hm=>?_) (λb u e=>?_) I.bare
 ·have e:b=it:=by simpa using hb
  subst e;exact⟨h1,hL,h2,h3⟩
 ·obtain⟨o,es,ep,ho,r⟩:=hm;exact⟨o,es,ep,k _ o (CP hL) ho,r⟩
 ·refine(I.hok b u e).stay (λc v J q=>k c v ?_ q) (λ_ q=>q) λ_ _ q=>q
  rcases J with z|z
  ·rw[z];exact U b u e
  ·exact U c _ z
theorem Inv.tok (I:Inv X pins σ H s)(t:Nat):Inv X pins σ H { s with toks:=t }:=I.un (h':=s.heap) (t':=t) Un.refl I.hok
theorem Inv.kept (I:Inv X pins σ H s)(k:∀b u,s.heap.get? b=some u->h'.get? b=some u):Inv X pins σ H { s with heap:=h',toks:=t' }:=I.un (Un.kept k) (I.hok.kept k)
theorem Inv.laid {o}(I:Inv X pins σ H s)(k:∀b u,s.heap.get? b=some u->h'.get? b=some u)(hp:s.heap.objs.size<=a)(new:ObjOk X.prog X.w (upd H a o) h' a o) :
  Inv X pins σ (upd H a o) { s with heap:=h',toks:=t' }:=I.un (Un.laid k hp (I.hok.fresh hp)) (I.hok.laid k hp new)
theorem Inv.write {x}{o}(I:Inv X pins σ H s)(mu:lU (H x))(he:e=x∨H e=some (.own x))(k:∀b u,b≠e->s.heap.get? b=some u->h'.get? b=some u)(heo:∃u,h'.get? e=some u)
  (new:ObjOk X.prog X.w (upd H x o) h' x o):Inv X pins σ (upd H x o) { s with heap:=h',toks:=t' }:=I.un (Un.write mu he k heo) (I.hok.write mu he k heo new)
theorem Inv.pins_of {pins'}(I:Inv X pins σ H s)(h:∀p∈pins',s.heap.get? p.1=some p.2/\H p.1=none/\p.1≠X.env.locals/\p.1∉X.fs/\∀v,p.2.data≠.cell v):Inv X pins' σ H s:=
 ⟨I.ok,I.os,I.bare,I.base,I.loc,I.cell,I.free,I.freeC,λp hp=>(Cr.mp hp).elim (λz=>I.pin p (C0 _ z)) (h p),I.hok,I.len⟩
theorem Jh {N:List Str}(hN:N.Nodup){i j:Nat}{x:Str}(a:N[i]?=some x)(b:N[j]?=some x):i=j:=by
 obtain⟨h1,e1⟩:=Cg.mp a;obtain⟨h2,e2⟩:=Cg.mp b;exact(List.getElem_inj hN).mp (e1.trans e2.symm)
theorem Kc {x}{v}{Q}(I:Inv X pins σ H s)(hN:X.N.Nodup)(hi:X.N[i]?=some x)(hx:ic X.env.scope x)(r:RelV v u)
  (h:∀s',Inv X pins (σ.set i (some v)) H s'->(∃a,Heap.SameBut a s.heap s'.heap/\(a=X.env.locals∨X.env.cells.lookup x=some a))->Q () s') (hf:X.fn x=true∨X.env.scope.names.lookup x=some .local:=by first|exact .inl rfl|exact .inr rfl|assumption):wpAny M A (storeName X.env x u) Q E s:=by
 obtain⟨m,hn,hl⟩:=id I.loc;have a7:(X.env.scope.kind==.class||(X.env.scope.kind==.module&&X.env.locals != X.env.globals))=false:=by rw[I.ok.kind];rfl
 have aa:i<σ.length:=by rw[I.len];exact(Cg.mp hi).1
 have cne:=I.cne;have U:∀{a:Addr} {h':Heap},(∃o,s.heap.get? a=some o/\H a=none)->Heap.SameBut a s.heap h'->HOk X.prog X.w H h':=λ{a h'} ha J b ob e=>by
  obtain⟨_,_,a4⟩:=ha;refine(I.hok b ob e).stay (λc w' hc q=>(J.2 c ?_).trans q) (λ_ q=>q) λ_ _ q=>q
  rintro rfl;rcases hc with rfl|hc
  ·rw[a4] at e;cases e
  ·rw[a4] at hc;cases hc
 rcases hx with hk|hk
 ·refine wpAny_storeName_local hk hn (λh' af J=>?_) a7;obtain⟨oL,_,_,ag,_⟩:=id hn;refine h _ ⟨I.ok,I.os,I.bare,⟨λb o e n hb hx=>?_,λb o e n hb hx=>?_,I.base.free,λb o e hx=>?_,I.base.tups,I.base.frzs,I.base.tbls⟩,⟨_,af,λj y v' e1 e2 e3=>?_⟩,λy c e=>?_,I.free,I.freeC,λp hp=>?_,U ⟨oL,ag,I.free⟩ J,by simpa using I.len⟩ ⟨_,J,.inl rfl⟩
  ·exact(J.2 b (Cd (Cn (D5 e) I.ok.above))).trans (I.base.keep b o e n hb hx)
  ·obtain⟨sl,e1⟩:=I.base.slot b o e n hb hx;exact⟨sl,(J.2 b (Cd (Cn (D5 e) I.ok.above))).trans e1⟩
  ·obtain⟨o',e1⟩:=I.base.there b o e hx;exact⟨o',(J.2 b (Cd (Cn (D5 e) I.ok.above))).trans e1⟩
  ·by_cases hj:j=i
   ·subst hj;rw[hi] at e1;cases e1;rw[List.getElem?_set_self aa] at e2;cases e2;exact⟨u,r,.inl ⟨hk,by simp⟩⟩
   ·rw[List.getElem?_set_ne (CP hj)] at e2;obtain⟨u',r',q⟩:=hl j y v' e1 e2 e3;refine⟨u',r',?_⟩;rcases q with ⟨k,e⟩|⟨k,c,e,z⟩
    ·refine .inl ⟨k,?_⟩;have:y≠x:=λe=>hj (Jh hN e1 (e▸hi))
     simp[this,e]
    ·exact .inr ⟨k,c,e,z.sameBut J (cne y c e)⟩
  ·obtain⟨w',z⟩:=I.cell y c e;exact⟨w',z.sameBut J (cne y c e)⟩
  ·obtain⟨e,n,ne,nf,d⟩:=I.pin p hp;exact⟨(J.2 p.1 ne).trans e,n,ne,nf,d⟩
 ·have a5:X.fn x=true:=by
   rcases hf with z|z
   ·exact z
   ·rw[z] at hk;cases hk
  obtain⟨c,hc⟩:=I.ok.has x (.inl hk);obtain⟨w',z⟩:=I.cell x c hc;refine wpAny_storeName_cell I.ok.kind hk hc z (λh' a8 J=>?_);obtain⟨oc,a9,ae⟩:=id z;refine h { s with heap:=h' } ⟨I.ok,I.os,I.bare,⟨λb o e n hb hx=>?_,λb o e n hb hx=>?_,I.base.free,λb o e hx=>?_,I.base.tups,I.base.frzs,I.base.tbls⟩,⟨m,hn.sameBut J (CP (cne x c hc)),λj y v' e1 e2 e3=>?_⟩,λy c' e=>?_,I.free,I.freeC,λp hp=>?_,U ⟨oc,a9,I.freeC x c hc⟩ J,by simpa using I.len⟩ ⟨c,J,.inr hc⟩
  ·exact(J.2 b (Cd (Cn (D5 e) (I.ok.cab x c a5 hc)))).trans (I.base.keep b o e n hb hx)
  ·obtain⟨sl,e1⟩:=I.base.slot b o e n hb hx;exact⟨sl,(J.2 b (Cd (Cn (D5 e) (I.ok.cab x c a5 hc)))).trans e1⟩
  ·obtain⟨o',e1⟩:=I.base.there b o e hx;exact⟨o',(J.2 b (Cd (Cn (D5 e) (I.ok.cab x c a5 hc)))).trans e1⟩
  ·by_cases hj:j=i
   ·subst hj;rw[hi] at e1;cases e1;rw[List.getElem?_set_self aa] at e2;cases e2;exact⟨u,r,.inr ⟨.inl hk,c,hc,a8⟩⟩
   ·rw[List.getElem?_set_ne (CP hj)] at e2;obtain⟨u',r',q⟩:=hl j y v' e1 e2 e3;refine⟨u',r',?_⟩;rcases q with q|⟨k,c',e,z'⟩
    ·exact .inl q
    ·refine .inr ⟨k,c',e,z'.sameBut J ?_⟩;rintro rfl;exact hj (Jh hN e1 (I.ok.inj _ _ _ e hc▸hi))
  ·by_cases a6:c'=c
   ·subst a6;exact⟨_,a8⟩
   ·obtain⟨w2,z2⟩:=I.cell y c' e;exact⟨w2,z2.sameBut J a6⟩
  ·obtain ⟨e,n,ne,nf,d⟩:=I.pin p hp;refine ⟨(J.2 p.1 ?_).trans e,n,ne,nf,d⟩;intro q;rw [q,a9] at e;have q':oc=p.2:=CD e;exact d w' (by rw [<-q'];exact ae)
theorem Xa {x}{v}{Q}(I:Inv X pins σ H s)(hN:X.N.Nodup)(hi:X.N[i]?=some x)(hx:ic X.env.scope x)(r:RelV v u)
  (h:∀s',Inv X pins (σ.set i (some v)) H s'->Q () s') (hf:X.fn x=true∨X.env.scope.names.lookup x=some .local:=by first|exact .inl rfl|exact .inr rfl|assumption):wpAny M A (storeName X.env x u) Q E s:=
 Kc I hN hi hx r (λs' J _=>h s' J) hf
theorem Inv.call' {s'}(I:Inv X pins σ H s)(ho:s'.os=s.os)(u:Un (IA X.stack) ch H H' s.heap s'.heap)(hok:HOk X.prog X.w H' s'.heap)(hg:AllBare s'.gens)
  (hch:∀b∈ch,(b∈X.ex∨X.s₀.heap.objs.size<=b)/\b≠X.env.locals/\(∀x c,X.env.cells.lookup x=some c->c≠b)/\∀p∈X.pn++pins,p.1≠b):Inv X pins σ H' s':=by
 obtain⟨h',g',d',t',o'⟩:=s';have e:o'=s.os:=ho;subst e;exact I.call (g':=g') (t':=t') (d':=d') u hok hg hch
end
abbrev XK:=Value->Option Addr->Hp->Prop
abbrev St:=List (Option V)
abbrev VK:=V->Hp->Prop
abbrev TE:=St->Hp->VK->Prop
abbrev TT:=St->Hp->(Bool->Hp->Prop)->Prop
abbrev TA:=St->Hp->(List V->Hp->Prop)->Prop
structure QO where
 nx:St->Hp->Prop
 rt:VK
 bk:St->Hp->Prop:=λ_ _=>False
 ct:St->Hp->Prop:=λ_ _=>False
abbrev TS:=QO->St->Hp->Prop
def EP (X:Cx)(pins:List (Addr×Obj))(σ:St)(Q:VK)(u:Value)(s':Shared):Prop:=∃v H',Inv X pins σ H' s'/\RelV v u/\Q v H'
def TP (X:Cx)(pins:List (Addr×Obj))(σ:St)(Q:Bool->Hp->Prop)(b:Bool)(s':Shared):Prop:=∃H',Inv X pins σ H' s'/\Q b H'
def AP (X:Cx)(pins:List (Addr×Obj))(σ:St)(Q:List V->Hp->Prop)(us:List Value)(s':Shared):Prop:=∃vs H',Inv X pins σ H' s'/\Vals vs us/\Q vs H'
def SP (X:Cx)(pins:List (Addr×Obj))(D:QO)(f:Flow)(s':Shared):Prop:=
 match f with
 | .next=>∃σ' H',Inv X pins σ' H' s'/\D.nx σ' H'
 | .brk=>∃σ' H',Inv X pins σ' H' s'/\D.bk σ' H'
 | .cont=>∃σ' H',Inv X pins σ' H' s'/\D.ct σ' H'
 | .ret u=>∃v σ' H',Inv X pins σ' H' s'/\RelV v u/\D.rt v H'
def PE (X:Cx)(e:Expr)(t:TE):Prop:=
 ∀(pins:List (Addr×Obj)) (s:Shared) (σ:St) (H:Hp) (Q:VK),Inv X pins σ H s->t σ H Q->wpAny (model X.prog X.w) X.A (eval e X.env) (EP X pins σ Q) X.xe s
def PT (X:Cx)(e:Expr)(t:TT):Prop:=
 ∀(pins:List (Addr×Obj)) (s:Shared) (σ:St) (H:Hp) (Q:Bool->Hp->Prop),Inv X pins σ H s->t σ H Q->wpAny (model X.prog X.w) X.A (isTrue e X.env (eval e X.env)) (TP X pins σ Q) X.xe s
def PW (X:Cx)(e:Expr)(t:TT):Prop:=
 ∀(whole:Sem Value) (pins:List (Addr×Obj)) (s:Shared) (σ:St) (H:Hp) (Q:Bool->Hp->Prop),Inv X pins σ H s->t σ H Q->wpAny (model X.prog X.w) X.A (isTrue e X.env whole) (TP X pins σ Q) X.xe s
theorem PW.pt {X}{e}{t}(h:PW X e t):PT X e t:=h _
def PA (X:Cx)(es:List Expr)(t:TA):Prop:=
 ∀(pos:Pos) (pins:List (Addr×Obj)) (s:Shared) (σ:St) (H:Hp) (Q:List V->Hp->Prop),Inv X pins σ H s->t σ H Q->wpAny (model X.prog X.w) X.A (spliced (backTo pos (starEach es X.env))) (AP X pins σ Q) X.xe s
def PS (X:Cx)(st:Stmt)(t:TS):Prop:=
 ∀(pins:List (Addr×Obj)) (s:Shared) (σ:St) (H:Hp) (D:QO),Inv X pins σ H s->t D σ H->wpAny (model X.prog X.w) X.A (exec st X.env) (SP X pins D) X.xe s
def PSs (X:Cx)(st:List Stmt)(t:TS):Prop:=
 ∀(pins:List (Addr×Obj)) (s:Shared) (σ:St) (H:Hp) (D:QO),Inv X pins σ H s->t D σ H->wpAny (model X.prog X.w) X.A (execs st X.env) (SP X pins D) X.xe s
theorem A4 (h:wpAny M A t Q E s)(hQ:∀a s,Q a s->Q' a s):wpAny M A t Q' E s:=Cf h hQ λ_ _ x=>x
section
variable {X:Cx}
def F5 (i:Nat):TE:=λσ H Q=>∃v,σ[i]?=some (some v)/\Q v H
def tC (v:V):TE:=λ_ H Q=>Q v H
theorem SU {x}(hN:X.N[i]?=some x)(hv:lS X.env.scope x)(hd:(x==("__debug__":Str))=false:=by decide)(hcd:(x==("__classdict__":Str))=false:=by decide):PE X (.Name x pos) (F5 i):=by
 intro pins s σ H Q I h;obtain⟨v,e,h⟩:=h;obtain⟨m,hn,hl⟩:=I.loc;obtain⟨u,r,l⟩:=hl i x v hN e hv;have fin:EP X pins σ Q u s:=⟨v,H,I,r,h⟩
 rcases l with ⟨J,U⟩|⟨J,c,hc,hcell⟩
 ·exact wpAny_Name (wpAny_loadName_local I.ok.kind J hn U fin) hd
 ·rcases J with J|J
  ·exact wpAny_Name (wpAny_loadName_cell I.ok.kind J hc hcell fin) hd
  ·exact wpAny_Name (wpAny_loadName_free I.ok.kind J hc hcell fin hcd) hd
theorem Qd {i j pos}:PE X (.Constant (.int i) j pos) (tC (.int i)):=λ_ _ _ H _ I h=>wpAny_Constant_int ⟨.int i,H,I.tok _,⟨_,rfl⟩,h⟩
theorem Jf {b j pos}:PE X (.Constant (.bool b) j pos) (tC (.bl b)):=λ_ _ _ H _ I h=>Constant_bool ⟨.bl b,H,I,rfl,h⟩
theorem Lp {j pos}:PE X (.Constant .none j pos) (tC .non):=λ_ _ _ H _ I h=>Constant_none ⟨.non,H,I,rfl,h⟩
theorem Qe {x j pos}:PE X (.Constant (.str x) j pos) (tC (.str x)):=λ_ _ _ H _ I h=>Calls.Constant_str ⟨.str x,H,I.tok _,⟨_,rfl⟩,h⟩
def Gl (X:Cx)(x:Str):Prop:=X.env.kindOf x=some .globalImplicit
theorem Zo {σ}{H}{x}{Q}(I:Inv X pins σ H s)(hg:Gl X x)(hm:X.mg x=some u)(h:Q u s)
  (hd:(x==("__debug__":Str))=false:=by decide):wpAny (model X.prog X.w) X.A (eval (.Name x pos) X.env) Q E s:=
 Calls.Name_function_global I.ok.kind hg (Calls.loadGlobal_global (by rw[I.ok.glob];exact I.mod.glob.keeps I.bk) hm h) hd
theorem Wk {σ}{H}{x}{Q}(I:Inv X pins σ H s)(hg:Gl X x)(hm:X.mg x=none)(hv:bootBuiltins x=some u)(h:Q u s)
  (hn:x≠"__name__":=by decide) (hd:(x==("__debug__":Str))=false:=by decide):wpAny (model X.prog X.w) X.A (eval (.Name x pos) X.env) Q E s:=by
 obtain⟨J,h1,h2⟩:=I.mod.blt;exact Calls.Name_function_global I.ok.kind hg (Calls.loadGlobal_builtin (by rw[I.ok.glob];exact I.mod.glob.keeps I.bk) hm (by rw[I.ok.blt];exact h1.keeps I.bk) ((h2 x hn).trans hv) h) hd
theorem Q9 {x}{v}(hg:Gl X x)(hm:X.mg x=some u)(r:RelV v u)(hd:(x==("__debug__":Str))=false:=by decide):PE X (.Name x pos) (tC v):=
 λ_ _ _ H _ I h=>Zo I hg hm ⟨v,H,I,r,h⟩ hd
theorem RE {x}{v}(hg:Gl X x)(hm:X.mg x=none)(hv:bootBuiltins x=some u)(r:RelV v u)(hn:x≠"__name__":=by decide)(hd:(x==("__debug__":Str))=false:=by decide):PE X (.Name x pos) (tC v):=
 λ_ _ _ H _ I h=>Wk I hg hm hv ⟨v,H,I,r,h⟩ hn hd
variable {a b:Expr} {ta tb:TE} {pos:Pos}
def PC (X:Cx)(op:CmpOp)(a b:Expr)(t:TE):Prop:=
 ∀(pins:List (Addr×Obj)) (s:Shared) (σ:St) (H:Hp) (Q:VK),Inv X pins σ H s->t σ H Q ->
  wpAny (model X.prog X.w) X.A (eval a X.env) (λv J=>wpAny (model X.prog X.w) X.A (eval b X.env) (λu U=>wpAny (model X.prog X.w) X.A (compareOp op v u) (EP X pins σ Q) X.xe U) X.xe J) X.xe s
theorem LC (b){op}(h:op≠.In)(h2:op≠.NotIn):behindInMarks op b=false:=by
 have e1:(op==CmpOp.In)=false:=by cases op<;>first|rfl|exact absurd rfl h
 have e2:(op==CmpOp.NotIn)=false:=by cases op<;>first|rfl|exact absurd rfl h2
 cases b<;>simp[behindInMarks,e1,e2]
def tB (t:TE):TT:=λσ H Q=>t σ H λx H1=>∃c,x=.bl c/\Q c H1
theorem SK {t}(h:PC X op a b t)(h1:behindInMarks op b=false:=by first|exact LC _ (by decide) (by decide)|rfl):PT X (.Compare a [op] [b] pos) (tB t):=by
 intro pins s σ H Q I U;refine wpAny_isTrue_Compare1 (A4 (h pins s σ H _ I U) λv s1 h1=>A4 h1 λu s2 h2=>A4 h2 λc s3 ⟨x,H1,I1,r1,J⟩=>?_) h1;obtain⟨d,rfl,q⟩:=J;cases r1;exact Am ⟨H1,I1,q⟩
variable {tA tB':TT} {rest:List Expr}
def KY (t u:TT):TT:=λσ H Q=>t σ H λc H1=>if c=true then u σ H1 Q else Q false H1
def nA (t u:TT):TT:=λσ H Q=>t σ H λc H1=>if c=true then Q true H1 else u σ H1 Q
def F7 (t:TT):TT:=λσ H Q=>t σ H λc H1=>Q (!c) H1
theorem Zh (ha:PT X a tA):PW X (.BoolOp .And [a] pos) tA:=by
 intro U pins s σ H Q I h;refine isTrue_and (A4 (ha pins s σ H Q I h) λc J e=>?_);cases c with
 | true=>exact isTrue_and_nil e
 | false=>exact e
theorem Wg (ha:PT X a tA):PW X (.BoolOp .Or [a] pos) tA:=by
 intro U pins s σ H Q I h;refine isTrue_or (A4 (ha pins s σ H Q I h) λc J e=>?_);cases c with
 | false=>exact isTrue_or_nil e
 | true=>exact e
theorem Zz (ha:PT X a tA)(hb:PW X (.BoolOp .And (b::rest) pos) tB'):PW X (.BoolOp .And (a::b::rest) pos) (KY tA tB'):=by
 intro wh pins s σ H Q I h;refine isTrue_and (A4 (ha pins s σ H _ I h) λc s1 ⟨H1,U,J⟩=>?_);cases c with
 | true=>exact hb wh pins s1 σ H1 Q U J
 | false=>exact⟨H1,U,J⟩
theorem YO (ha:PT X a tA)(hb:PW X (.BoolOp .Or (b::rest) pos) tB'):PW X (.BoolOp .Or (a::b::rest) pos) (nA tA tB'):=by
 intro wh pins s σ H Q I h;refine isTrue_or (A4 (ha pins s σ H _ I h) λc s1 ⟨H1,U,J⟩=>?_);cases c with
 | true=>exact⟨H1,U,J⟩
 | false=>exact hb wh pins s1 σ H1 Q U J
theorem YD (ha:PT X a tA):PT X (.UnaryOp .Not a pos) (F7 tA):=by
 intro pins s σ H Q I h;exact isTrue_not (ha pins s σ H (λc H1=>Q (!c) H1) I h)
theorem Jd {op}{t}(h:PE X a t):PE X (.BoolOp op [a] pos) t:=λpins s σ H Q I hw=>BoolOp_one (h pins s σ H Q I hw)
def nB (t:TT)(ta tb:TE):TE:=λσ H Q=>t σ H λc H1=>if c=true then ta σ H1 Q else tb σ H1 Q
theorem Je {c}(hc:PT X c tA)(ha:PE X a ta)(hb:PE X b tb):PE X (.IfExp c a b pos) (nB tA ta tb):=by
 intro pins s σ H Q I h;refine wpAny_IfExp (A4 (hc pins s σ H _ I h) λd J ⟨H1,I1,U⟩=>?_);cases d with
 | true=>exact ha pins J σ H1 Q I1 U
 | false=>exact hb pins J σ H1 Q I1 U
end
def A6 (K:W.Frag)(H:Hp)(a:Addr)(xs:List V):Prop:=
 Rd H a (.lst xs) ∨
  ∃(o:Obj) (its:Array Value) (n:Nat),K.lookup a=some o/\o.cls=.type "list"/\o.dict=none/\o.data=.seq its n/\its.size<=sizeLine/\Vals xs its.toList
def A9 (K:W.Frag)(H:Hp)(a:Addr)(xs:List V):Prop:=
 Rd H a (.tup xs) ∨
  ∃(o:Obj) (its:Array Value) (n:Nat),K.lookup a=some o/\o.cls=.type "tuple"/\o.data=.seq its n/\its.size<=sizeLine/\Vals xs its.toList
def DP:Value->Option V
 | .none=>some .non
 | .bool b=>some (.bl b)
 | .int i _=>some (.int i)
 | .str x _=>some (.str x)
 | .bytes b _=>some (.byt b)
 | .float b _=>some (.flt b)
 | .ref a=>some (.ref a)
 | .type n=>some (.ty n)
 | _=>none
theorem RelV.abs {x}(r:RelV x u):DP u=some x:=by
 cases x with
 | non=>cases r;rfl
 | bl _=>cases r;rfl
 | int _=>obtain⟨t,rfl⟩:=r;rfl
 | str _=>obtain⟨t,rfl⟩:=r;rfl
 | byt _=>obtain⟨t,rfl⟩:=r;rfl
 | flt _=>obtain⟨t,rfl⟩:=r;rfl
 | ref _=>cases r;rfl
 | ty _=>cases r;rfl
theorem RelV.inj {x y}(r:RelV x u)(q:RelV y u):x=y:=CD (r.abs.symm.trans q.abs)
theorem Vals.inj:∀{xs ys} {us},Vals xs us->Vals ys us->xs=ys
 | _,_,_,.nil,.nil=>rfl
 | _,_,_,.cons r t,.cons r' t'=>by rw[r.inj r',Vals.inj t t']
section
variable {X:Cx} {pins:List (Addr×Obj)} {σ:St} {H:Hp} {s:Shared} {a:Addr} {xs ys:List V}
theorem AI (h:H a=some (.lst xs)):A6 K H a xs:=.inl (.inl h)
theorem AJ (h:H a=some (.tup xs)):A9 K H a xs:=.inl (.inl h)
theorem Inv.list (I:Inv X pins σ H s)(h:A6 X.K H a xs):∃its,Vals xs its/\PlainL s.heap a its.toArray/\xs.length<=sizeLine:=by
 rcases h with h|⟨o,its,n,hk,hc,hd,hs,hz,r⟩
 ·obtain⟨z,its,n,r,e⟩:=h.ok I.hok;exact⟨its,r,⟨_,n,e,rfl,rfl,rfl⟩,z⟩
 ·refine⟨its.toList,r,⟨o,n,I.kIn a o hk,hc,hd,by simpa using hs⟩,?_⟩;have e:=r.length;simp only[AQ] at e;omega
theorem Inv.tuple (I:Inv X pins σ H s)(h:A9 X.K H a xs):∃its,Vals xs its/\IsTup s.heap a its.toArray/\xs.length<=sizeLine:=by
 rcases h with h|⟨o,its,n,hk,hc,hs,hz,r⟩
 ·obtain⟨z,its,r,p⟩:=h.ok I.hok;exact⟨its,r,p,z⟩
 ·refine⟨its.toList,r,⟨o,I.kIn a o hk,hc,n,by simpa using hs⟩,?_⟩;have e:=r.length;simp only[AQ] at e;omega
theorem Inv.list_inj (I:Inv X pins σ H s)(h:A6 X.K H a xs)(h':A6 X.K H a ys):xs=ys:=by
 obtain⟨its,r,⟨o,n,e,_,_,d⟩,_⟩:=I.list h;obtain⟨its',U,⟨o',n',J,_,_,d'⟩,_⟩:=I.list h';rw[e] at J;cases J;rw[d] at d';injection d' with d1 _
 have:its=its':=by simpa using congrArg Array.toList d1
 subst this;exact r.inj U
theorem Inv.tuple_inj (I:Inv X pins σ H s)(h:A9 X.K H a xs)(h':A9 X.K H a ys):xs=ys:=by
 obtain⟨its,r,⟨o,e,_,n,d⟩,_⟩:=I.tuple h;obtain⟨its',U,⟨o',J,_,n',d'⟩,_⟩:=I.tuple h';rw[e] at J;cases J;rw[d] at d';injection d' with d1 _
 have:its=its':=by simpa using congrArg Array.toList d1
 subst this;exact r.inj U
end
abbrev Cx.wish (X:Cx)(E:Value->Shared->Prop):Cx:={ X with xe:=E }
abbrev Cx.nox (X:Cx):Cx:=X.wish λ_ _=>False
theorem Cx.Ok.wish {X:Cx}(ok:X.Ok)(E):(X.wish E).Ok:=
 ⟨ok.mod,ok.kind,ok.glob,ok.blt,ok.above,ok.inj,ok.has,ok.cab,ok.hd,ok.frames,ok.stk,ok.exf,ok.bs,ok.bsz,ok.noex,ok.exfs,ok.funs,ok.frf⟩
theorem Cx.Ok.unwish {X:Cx}(ok:(X.wish E).Ok):X.Ok:=
 ⟨ok.mod,ok.kind,ok.glob,ok.blt,ok.above,ok.inj,ok.has,ok.cab,ok.hd,ok.frames,ok.stk,ok.exf,ok.bs,ok.bsz,ok.noex,ok.exfs,ok.funs,ok.frf⟩
section
variable {X:Cx} {pins:List (Addr×Obj)} {σ:St} {H:Hp} {s:Shared} {E:Value->Shared->Prop}
theorem Inv.wish (I:Inv X pins σ H s)(E):Inv (X.wish E) pins σ H s:=⟨I.ok.wish E,I.os,I.bare,I.base,I.loc,I.cell,I.free,I.freeC,I.pin,I.hok,I.len⟩
theorem Inv.unwish (I:Inv (X.wish E) pins σ H s):Inv X pins σ H s:=⟨I.ok.unwish,I.os,I.bare,I.base,I.loc,I.cell,I.free,I.freeC,I.pin,I.hok,I.len⟩
theorem SP.unwish {D}{f}{s'}(h:SP (X.wish E) pins D f s'):SP X pins D f s':=by
 cases f with
 | next=>obtain⟨J,H',I,q⟩:=h;exact⟨J,H',I.unwish,q⟩
 | brk=>obtain⟨J,H',I,q⟩:=h;exact⟨J,H',I.unwish,q⟩
 | cont=>obtain⟨J,H',I,q⟩:=h;exact⟨J,H',I.unwish,q⟩
 | ret u=>obtain⟨v,J,H',I,r,q⟩:=h;exact⟨v,J,H',I.unwish,r,q⟩
theorem PSs.nox {st}{t}(h:PSs X.nox st t):PSs X st t:=λpins s σ H D I hw=>
 Cf (h pins s σ H D (I.wish _) hw) (λ_ _ q=>q.unwish) λ_ _ z=>AS z
end
section
variable {X:Cx} {st:Stmt} {rest:List Stmt} {t u:TS} {e:Expr} {te:TE} {pos:Pos}
def P3:TS:=λD σ H=>D.nx σ H
def W8 (t u:TS):TS:=λD σ H=>t { D with nx:=u D } σ H
theorem Ql:PSs X [] P3:=λ_ _ σ H _ I h=>Al ⟨σ,H,I,h⟩
theorem Qb (h1:PS X st t)(h2:PSs X rest u):PSs X (st::rest) (W8 t u):=by
 intro pins s σ H D I h;refine wpAny_execs_cons (A4 (h1 pins s σ H { D with nx:=u D } I h) λf J q=>?_);cases f with
 | next=>
  obtain⟨σ',H',U,q⟩:=q;exact h2 pins J σ' H' D U q
 | ret v=>exact q
 | brk=>exact q
 | cont=>exact q
theorem Qf (h1:PS X st t):PSs X [st] t:=by
 intro pins s σ H D I h;refine wpAny_execs_cons (A4 (h1 pins s σ H D I h) λf J q=>?_);cases f with
 | next=>exact Al q
 | ret v=>exact q
 | brk=>exact q
 | cont=>exact q
theorem Inv.quiet {σ}{H}(I:Inv X pins σ H s):interactive X.env=false:=by simp[interactive,I.ok.kind]
def P5 (te:TE):TS:=λD σ H=>te σ H λ_ H1=>D.nx σ H1
theorem QH (he:PE X e te)(hs:swapsWith e none pos.line X.env=pure false:=by rfl):PS X (.Expr e pos) (P5 te):=by
 intro pins s σ H D I h;exact wpAny_Expr_any (A4 (he pins s σ H _ I h) λv s1 ⟨x,H1,U,r1,J⟩=>⟨σ,H1,U,J⟩) I.quiet hs
def BZ (te:TE):TS:=λD σ H=>te σ H D.rt
theorem Qk (he:PE X e te):PS X (.Return (some e) pos) (BZ te):=by
 intro pins s σ H D I h;exact wpAny_Return_some (A4 (he pins s σ H _ I h) λv s1 ⟨x,H1,U,r1,J⟩=>⟨x,σ,H1,U,r1,J⟩)
def JP (c:TT)(t u:TS):TS:=λD σ H=>c σ H λb H1=>if b=true then t D σ H1 else u D σ H1
theorem Qr {c}{a b}{tc}(hc:PT X c tc)(ha:PSs X a t)(hb:PSs X b u):PS X (.If c a b pos) (JP tc t u):=by
 intro pins s σ H D I h;refine wpAny_If (A4 (hc pins s σ H _ I h) λd J ⟨H1,I1,U⟩=>?_);cases d with
 | true=>exact ha pins J σ H1 D I1 U
 | false=>exact hb pins J σ H1 D I1 U
end
abbrev TG:=V->St->Hp->(St->Hp->Prop)->Prop
abbrev jh:=List V->St->Hp->(St->Hp->Prop)->Prop
def PG (X:Cx)(target:Expr)(t:TG):Prop:=
 ∀(pins:List (Addr×Obj)) (s:Shared) (σ:St) (H:Hp) (v:V) (u:Value) (Q:St->Hp->Prop),Inv X pins σ H s->RelV v u->t v σ H Q ->
  wpAny (model X.prog X.w) X.A (assign target X.env u) (λ_ s'=>∃σ' H',Inv X pins σ' H' s'/\Q σ' H') X.xe s
def PGs (X:Cx)(ts:List Expr)(t:jh):Prop:=
 ∀(pins:List (Addr×Obj)) (s:Shared) (σ:St) (H:Hp) (vs:List V) (us:List Value) (Q:St->Hp->Prop),Inv X pins σ H s->Vals vs us->t vs σ H Q ->
  wpAny (model X.prog X.w) X.A (assignInOrder ((assignEach ts X.env).map (·.2)) us) (λ_ s'=>∃σ' H',Inv X pins σ' H' s'/\Q σ' H') X.xe s
section
variable {X:Cx} {pos:Pos}
def XW (i:Nat):TG:=λv σ H Q=>Q (σ.set i (some v)) H
theorem Yh {x}(hN:X.N.Nodup)(hi:X.N[i]?=some x)(hx:ic X.env.scope x)(hf:X.fn x=true∨X.env.scope.names.lookup x=some .local:=by first|exact .inl rfl|exact .inr rfl|assumption):PG X (.Name x pos) (XW i):=by
 intro pins s σ H v u Q I r h;exact wpAny_assign_Name (Xa I hN hi hx r (λs' J=>⟨_,H,J,h⟩) hf)
def DI:jh:=λvs σ H Q=>vs=[]/\Q σ H
def EU (t:TG)(u:jh):jh:=λvs σ H Q=>∃v r,vs=v::r/\t v σ H λσ' H'=>u r σ' H' Q
theorem pgs_nil:PGs X [] DI:=by
 intro pins s σ H vs us Q I r h;obtain⟨e,h⟩:=h;subst e;cases r;exact assignInOrder_nil ⟨σ,H,I,h⟩
theorem Lo {e}{t}{u}(h1:PG X e t)(h2:PGs X es u)
  (hs:(assignEach (e::es) X.env).map (·.2)=assign e X.env::(assignEach es X.env).map (·.2):=by rfl):PGs X (e::es) (EU t u):=by
 intro pins s σ H vs us Q I r h;obtain⟨v,vr,e1,h⟩:=h;subst e1;cases r with
 | cons r U=>
  rw[hs];refine assignInOrder_cons (A4 (h1 pins s σ H _ _ _ I r h) λ_ s1 ⟨σ1,H1,I1,J⟩=>?_);exact h2 pins s1 σ1 H1 _ _ Q I1 U J
def Hv (K:W.Frag)(n:Nat)(t:jh):TG:=λv σ H Q=>∃a xs,v=.ref a/\A9 K H a xs/\xs.length=n/\t xs σ H Q
theorem SS {k:Nat}{t}(hc:X.calm=true)(h:PGs X es t)
  (hn:(assignEach es X.env).length=n:=by rfl) (hst:(assignEach es X.env).findIdx? (·.1)=none:=by rfl):PG X (.Tuple es k pos) (Hv X.K n t):=by
 intro pins s σ H v u Q I r J;obtain⟨a,xs,e1,hq,hl,J⟩:=J;subst e1;cases r;obtain⟨its,U,ht,hz⟩:=I.tuple hq;refine assign_Tuple_tuple (I.ok.hd hc) ht (by simp[hn,<-hl,U.length]) hst λh' hx=>?_
 have I1:Inv X pins σ H { s with heap:=h' }:=I.kept (t':=s.toks) λb o e=>hx b o (Cd (D5 e)) e
 exact h pins _ σ H xs _ Q I1 (by simpa using U) J
def VQ (te:TE)(g:TG):TS:=λD σ H=>te σ H λx H1=>g x σ H1 D.nx
theorem Vc {e}{te}{g}(he:PE X e te)(hg:PG X tg g)(hs:swapsWithSole [tg] e pos.line X.env=pure false:=by rfl)(hw:swappedStores [tg] e X.env=pure none:=by rfl)
  (h1:(assignEach [tg] X.env).map (·.2)=[assign tg X.env]:=by rfl):PS X (.Assign [tg] e pos) (VQ te g):=by
 intro pins s σ H D I h;refine wpAny_Assign_stores (A4 (he pins s σ H _ I h) λv J ⟨x,H1,I1,r1,U⟩=>?_) hs hw;rw[h1];exact A4 (hg pins J σ H1 x v _ I1 r1 U) λ_ s2 q=>q
theorem SL {x}{e}{te}(hN:X.N.Nodup)(hi:X.N[i]?=some x)(hx:ic X.env.scope x)(he:PE X e te)(hs:swapsWith e (some (.Name x pos')) pos.line X.env=pure false:=by rfl)(hf:X.fn x=true∨X.env.scope.names.lookup x=some .local:=by first|exact .inl rfl|exact .inr rfl|assumption) :
  PS X (.Assign [.Name x pos'] e pos) (VQ te (XW i)):=by
 intro pins s σ H D I h;refine wpAny_Assign_Name (A4 (he pins s σ H _ I h) λv s1 ⟨y,H1,I1,r1,J⟩=>?_) hs;exact Xa I1 hN hi hx r1 (λs2 U=>⟨_,H1,U,J⟩) hf
def F6 (i j:Nat)(ta:TA):TS:=λD σ H=>ta σ H λvs H1=>∃v w,vs=[v,w]/\D.nx ((σ.set i (some v)).set j (some w)) H1
theorem SM {x}{a b}{ta}{pt}{kt k2 pt2}(hc:X.calm=true)(hN:X.N.Nodup)(hi:X.N[i]?=some x)(hj:X.N[j]?=some y)(hij:i≠j)
  (hx:X.env.scope.names.lookup x=some .local) (hy:X.env.scope.names.lookup y=some .local) (ha:PA X [a,b] ta)
  (hw:swappedStores [.Tuple [.Name x px,.Name y py] kt pt] (.Tuple [a,b] k2 pt2) X.env=pure (some [x,y]))
  (hs:swapsWithSole [.Tuple [.Name x px,.Name y py] kt pt] (.Tuple [a,b] k2 pt2) pos.line X.env=pure false:=by rfl) :
  PS X (.Assign [.Tuple [.Name x px,.Name y py] kt pt] (.Tuple [a,b] k2 pt2) pos) (F6 i j ta):=by
 intro pins s σ H D I h;rw[exec_Assign_arm];refine DX (wpAny_standAt ?_);rw[hs];refine DX (D3 ?_);rw[DY (by decide)];refine DX (Tuple_ (A4 (ha _ pins s σ H _ I h) λus U ⟨vs,H1,I1,r1,q1⟩=>?_));obtain⟨v,w,e1,q1⟩:=q1;subst e1;obtain⟨J,u2,rfl,rv,a5⟩:∃J u2,us=[J,u2]/\RelV v J/\RelV w u2:=by
  cases r1 with
  | cons p q=>
   cases q with
   | cons p' q'=>
    cases q';exact⟨_,_,rfl,p,p'⟩
 refine wpAny_newObj_type ?_ (by show 2<=sizeLine;decide);have I2:Inv X pins σ H1 { U with heap:=U.heap.push { cls:=.type "tuple",data:=.seq [J,u2].toArray } }:=I1.kept (t':=U.toks) λb o e=>D8 _ e
 rw[hw];refine DX (D3 ?_);show wpAny (model X.prog X.w) X.A (do rule "assign.swapped-stores";let items <-unpackItems (.ref U.heap.objs.size) 2 none;assignInOrder [λv=>bindName X.env y v,λv=>bindName X.env x v] items.reverse;pure Flow.next) _ _ _;refine DX (wpAny_rule (DX (unpackItems_tuple (items:=#[J,u2]) (I.ok.hd hc) (IsTup.new U.heap _) λh' a4=>?_)));have I3:=I2.kept (h':=h') (t':=U.toks) λb o e=>a4 b o (Cd (D5 e)) e
 show wpAny _ _ (assignInOrder [λv=>bindName X.env y v,λv=>bindName X.env x v] [u2,J] >>= λ_=>pure Flow.next) _ _ _;refine DX (assignInOrder_cons (wpAny_bindName (Xa I3 hN hj (.inl hy) a5 (λs2 I4=>?_) (.inr hy))));refine assignInOrder_cons (wpAny_bindName (Xa I4 hN hi (.inl hx) rv (λs3 I5=>assignInOrder_nil (D3 ?_)) (.inr hx)));rw[List.set_comm _ _ (CP hij)] at I5;exact⟨_,H1,I5,q1⟩
end
section
variable {X:Cx} {pos:Pos}
def Sv (c:TT)(tb:TS):TS:=λD σ H=>∃W:Nat->St->Hp->Prop,(∃m,W m σ H)/\∀m σ H,W m σ H ->
 c σ H λb H1=>if b=true then ∃N:St->Hp->Prop,(∀σ' H',N σ' H'->∃m',m'<m/\W m' σ' H')/\tb { D with nx:=N,ct:=N,bk:=D.nx } σ H1 else D.nx σ H1
theorem V0 {c}{tc}{tb}(hp:PassesOwn (model X.prog X.w) X.A X.env X.xe)(hc:PT X c tc)(hb:PSs X body tb):PS X (.While c body [] pos) (Sv tc tb):=by
 intro pins s σ H D I h;obtain⟨W,⟨m0,w0⟩,J⟩:=h;refine wpAny_While (codeAny_whileLoop (λn s'=>∃σ' H',Inv X pins σ' H' s'/\W n σ' H') ?_ m0 ⟨σ,H,I,w0⟩);rintro n s1 ⟨σ1,H1,I1,w1⟩;refine An hp (A4 (hc pins s1 σ1 H1 _ I1 (J n σ1 H1 w1)) λb s2 ⟨H2,I2,q2⟩=>?_);cases b with
 | true=>
  obtain⟨N,hN,q2⟩:=q2;rw[DZ rfl];refine An hp (A4 (hb pins s2 σ1 H2 _ I2 q2) λf s3 q3=>?_);cases f with
  | next=>
   obtain⟨σ3,U,I3,n3⟩:=q3;obtain⟨m',hm,w3⟩:=hN σ3 U n3;exact⟨m',hm,σ3,U,I3,w3⟩
  | cont=>
   obtain⟨σ3,U,I3,n3⟩:=q3;obtain⟨m',hm,w3⟩:=hN σ3 U n3;exact⟨m',hm,σ3,U,I3,w3⟩
  | brk=>exact q3
  | ret v=>exact q3
 | false=>
  rw[DY Cy];exact Al ⟨σ1,H2,I2,q2⟩
end
structure It where
 go:Nat->Hp->Prop
 yld:Nat->Hp->V->Hp->Prop
 stop:Nat->Hp->Prop
def XT (X:Cx)(pins:List (Addr×Obj))(H:Hp)(b:Addr):Prop:=
 H b=none/\b≠X.env.locals/\b∉X.fs/\(b∈X.ex∨X.s₀.heap.objs.size<=b)/\(∀x c,X.env.cells.lookup x=some c->c≠b)/\∀p∈X.pn++pins,p.1≠b
theorem Inv.fpOk {X}{σ}{H H'}{b}(I:Inv X pins σ H s)(hb:s.heap.objs.size<=b)(hn:H' b=none):XT X pins H' b:=by
 refine⟨hn,AC (Cn I.lt hb),I.nofs hb,.inr (Co I.sz hb),λx c e z=>?_,λp hp z=>?_⟩
 ·obtain⟨v,q⟩:=I.cell x c e;exact absurd (Cn q.lt (by rw[z];exact hb)) (CB _)
 ·exact absurd (Cn (D5 (I.pin p hp).1) (by rw[z];exact hb)) (CB _)
structure UG (P:Program)(w:World)(K:W.Frag)(tg:Expr)(J:It)(fp:List Addr)(it:Addr)(tn:Nat->Heap->Prop):Prop where
 mem:it∈fp
 obj:∀i h,tn i h->∀b∈fp,∃o,h.get? b=some o/\∀v,o.data≠.cell v
 keep:∀i h h',tn i h->(∀b∈fp,∀o,h.get? b=some o->h'.get? b=some o)->tn i h'
 item:∀(X:Cx),X.prog=P->X.w=w->X.K=K->X.calm=true->∀(i:Nat) (pins:List (Addr×Obj)) (s:Shared) (σ:St) (H:Hp) (E:Value->Shared->Prop),Inv X pins σ H s->(∀b∈fp,XT X pins H b)->tn i s.heap->J.go i H ->
  wpAny (model P w) X.A (pyNext (.ref it)) (λr s1=>∃u,r=some u /\
   wpAny (model P w) X.A (letOwnedTupleGo tg (.ref it) u) (λ_ s2=>∃x H',Inv X pins σ H' s2/\RelV x u/\J.yld i H x H'/\tn (i+1) s2.heap/\∀b∈fp,H' b=none) E s1) E s
 done:∀(X:Cx),X.prog=P->X.w=w->X.K=K->X.calm=true->∀(i:Nat) (pins:List (Addr×Obj)) (s:Shared) (σ:St) (H:Hp) (E:Value->Shared->Prop),Inv X pins σ H s->(∀b∈fp,XT X pins H b)->tn i s.heap->J.stop i H ->
  wpAny (model P w) X.A (pyNext (.ref it)) (λr s1=>r=none/\Inv X pins σ H s1) E s
 self:∀(A:Around) (i:Nat) (s:Shared) (Q:Value->Shared->Prop) (E:Value->Shared->Prop),tn i s.heap->Q (.ref it) s->wpAny (model P w) A (pyIter (.ref it)) Q E s
abbrev TI:=St->Hp->(It->Hp->Prop)->Prop
def nX (X:Cx)(pins:List (Addr×Obj))(σ:St)(tg:Expr)(R:It->Hp->Prop)(itv:Value)(s2:Shared):Prop:=
 ∃(it:Addr) (fp:List Addr) (tn:Nat->Heap->Prop) (J:It) (H':Hp),itv=.ref it/\Inv X pins σ H' s2/\UG X.prog X.w X.K tg J fp it tn/\tn 0 s2.heap/\(∀b∈fp,XT X pins H' b)/\R J H'
def PI (X:Cx)(tg iter:Expr)(wi:TI):Prop:=
 ∀(pins:List (Addr×Obj)) (s:Shared) (σ:St) (H:Hp) (R:It->Hp->Prop),Inv X pins σ H s->wi σ H R ->
  wpAny (model X.prog X.w) X.A (eval iter X.env) (λv J=>wpAny (model X.prog X.w) X.A (pyIter v) (nX X pins σ tg R) X.xe J) X.xe s
theorem Ku {o}{n}{vs}{Q}(ho:s.heap.get? it=some o)(hc:o.cls=.type n)(hd:o.data=.fields vs)
    (hn:["enumerate","zip","dict_itemiterator","dict_reverseitemiterator","odict_iterator","itertools.zip_longest","itertools.pairwise"].contains n=false) (hQ:Q () s):wpAny M A (letOwnedTupleGo tg (.ref it) u) Q E s:=by
  unfold letOwnedTupleGo;cases tg<;>first
    | exact D3 hQ
    | (cases u<;>first
        | exact D3 hQ
        | (refine DX (wpAny_load ho ?_)
           rw[hc,hd];show wpAny M A (if(["enumerate","zip","dict_itemiterator","dict_reverseitemiterator","odict_iterator","itertools.zip_longest","itertools.pairwise"].contains n&&vs[0]? == some (rawInt _))=true then _ else _) Q E s;rw[DY (by intro h;rw[hn,Bool.false_and] at h;cases h)];exact D3 hQ))
def O2 (K:W.Frag)(a:Addr):It:=
 ⟨λi H=>∃xs x,A6 K H a xs/\xs[i]?=some x,λi H x H'=>H'=H/\∀xs,A6 K H a xs->xs[i]?=some x,λi H=>∃xs,A6 K H a xs/\xs.length<=i⟩
def lW (K:W.Frag)(a:Addr):It:=
 ⟨λi H=>∃xs x,A9 K H a xs/\xs[i]?=some x,λi H x H'=>H'=H/\∀xs,A9 K H a xs->xs[i]?=some x,λi H=>∃xs,A9 K H a xs/\xs.length<=i⟩
def ie (lo:Int)(n:Nat):It:=⟨λi _=>i<n,λi H x H'=>H'=H/\x=.int (lo+i),λi _=>n<=i⟩
theorem NF (a it):UG P w K tg (O2 K a) [it] it (λi h=>h.IsListIter it a i) where
 mem:=by simp
 obj:=λi h st b J=>by
  have e:b=it:=by simpa using J
  subst e;obtain⟨o,e,c,d⟩:=st;exact⟨o,e,λv z=>by rw[d] at z;cases z⟩
 keep:=λi h h' st k=>st.at λo e=>k it (by simp) o e
 item:=by
  intro X hP hw hK hc i pins s σ H E I hf st hg;subst hP hw hK;obtain⟨xs,x,hq,hx⟩:=hg;obtain⟨its,rv,p,hz⟩:=I.list hq;obtain⟨u,hu,ru⟩:=rv.get hx;obtain⟨f0,f1,f2,f3,f4,f5⟩:=hf it (by simp);refine wpAny_pyNext_list_item st p.isList (x:=u) (by simpa using hu) λh' U sb=>?_
  have I1:Inv X pins σ H { s with heap:=h' }:=I.turned (t':=s.toks) (λb o J e=>(sb.2 b J).trans e) f0 f1 f3 f4 f5;obtain⟨o,e,c,d⟩:=id U;exact⟨u,rfl,Ku (s:={ s with heap:=h' }) e c d (by decide) ⟨x,H,I1,ru,⟨rfl,λys hy=>by rw[I.list_inj hy hq];exact hx⟩,U,λb J=>(hf b J).1⟩⟩
 done:=by
  intro X hP hw hK hc i pins s σ H E I hf st hg;subst hP hw hK;obtain⟨xs,hq,hx⟩:=hg;obtain⟨its,rv,p,hz⟩:=I.list hq;obtain⟨f0,f1,f2,f3,f4,f5⟩:=hf it (by simp);have hl:=rv.length;exact wpAny_pyNext_list_end (I.ok.hd hc) st p.isList (by simp;omega) λh' eb=>⟨rfl,I.turned (t':=s.toks) (λb o J e=>eb b o J e) f0 f1 f3 f4 f5⟩
 self:=λ_ _ _ _ _ st h=>wpAny_pyIter_listiter st h
theorem UY (a it):UG P w K tg (lW K a) [it] it (λi h=>h.IsTupleIter it a i) where
 mem:=by simp
 obj:=λi h st b J=>by
  have e:b=it:=by simpa using J
  subst e;obtain⟨o,e,c,d⟩:=st;exact⟨o,e,λv z=>by rw[d] at z;cases z⟩
 keep:=λi h h' st k=>st.at λo e=>k it (by simp) o e
 item:=by
  intro X hP hw hK hc i pins s σ H E I hf st hg;subst hP hw hK;obtain⟨xs,x,hq,hx⟩:=hg;obtain⟨its,rv,p,hz⟩:=I.tuple hq;obtain⟨u,hu,ru⟩:=rv.get hx;obtain⟨f0,f1,f2,f3,f4,f5⟩:=hf it (by simp);refine wpAny_pyNext_tuple_item st (show s.heap.IsTuple a its.toArray from p) (x:=u) (by simpa using hu) λh' U sb=>?_
  have I1:Inv X pins σ H { s with heap:=h' }:=I.turned (t':=s.toks) (λb o J e=>(sb.2 b J).trans e) f0 f1 f3 f4 f5;obtain⟨o,e,c,d⟩:=id U;exact⟨u,rfl,Ku (s:={ s with heap:=h' }) e c d (by decide) ⟨x,H,I1,ru,⟨rfl,λys hy=>by rw[I.tuple_inj hy hq];exact hx⟩,U,λb J=>(hf b J).1⟩⟩
 done:=by
  intro X hP hw hK hc i pins s σ H E I hf st hg;subst hP hw hK;obtain⟨xs,hq,hx⟩:=hg;obtain⟨its,rv,p,hz⟩:=I.tuple hq;obtain⟨f0,f1,f2,f3,f4,f5⟩:=hf it (by simp);have hl:=rv.length;exact wpAny_pyNext_tuple_end (I.ok.hd hc) st (show s.heap.IsTuple a its.toArray from p) (by simp;omega) λh' eb=>⟨rfl,I.turned (t':=s.toks) (λb o J e=>eb b o J e) f0 f1 f3 f4 f5⟩
 self:=λ_ _ _ _ _ st h=>wpAny_pyIter_tupleiter st h
theorem UZ (it)(lo:Int)(n:Nat):UG P w K tg (ie lo n) [it] it (λi h=>IsRangeIter h it (lo+(i:Nat)*1) ((n:Int)-(i:Nat)) 1) where
 mem:=by simp
 obj:=λi h st b J=>by
  have e:b=it:=by simpa using J
  subst e;exact⟨_,st,λv z=>by
   have z':Data.fields _=Data.cell v:=z;cases z'⟩
 keep:=λi h h' st k=>k it (by simp) _ st
 item:=by
  intro X hP hw hK hc i pins s σ H E I hf st hg;subst hP hw hK;obtain⟨f0,f1,f2,f3,f4,f5⟩:=hf it (by simp);have W:=Walks.range (prog:=X.prog) (w:=X.w) (I.ok.hd hc) it lo 1 n;refine W.item i s _ _ hg st λv h' tk hv U kk=>?_
  obtain⟨t,rfl⟩:=hv;have I1:Inv X pins σ H { s with heap:=h',toks:=tk }:=I.turned (λb o J e=>kk b o (by simpa using J) e) f0 f1 f3 f4 f5;refine⟨_,rfl,Ku (s:={ s with heap:=h',toks:=tk }) (n:="range_iterator") U rfl rfl (by decide) ⟨.int (lo+i),H,I1,⟨t,?_⟩,⟨rfl,rfl⟩,U,λb J=>(hf b J).1⟩⟩;rw[Int.mul_one]
 done:=by
  intro X hP hw hK hc i pins s σ H E I hf st hg;subst hP hw hK;obtain⟨f0,f1,f2,f3,f4,f5⟩:=hf it (by simp);exact wpAny_pyNext_range_end (I.ok.hd hc) st (by have:n<=i:=hg;omega) λh' eb=>⟨rfl,I.turned (t':=s.toks) (λb o J e=>eb b o J e) f0 f1 f3 f4 f5⟩
 self:=λ_ _ _ _ _ st h=>wpAny_pyIter_rangeiter st h
section
variable {X:Cx} {tg:Expr}
def Nf (K:W.Frag)(tl:TE):TI:=λσ H R=>tl σ H λx H1=>∃a,x=.ref a/\(∃xs,A6 K H1 a xs)/\R (O2 K a) H1
def ER (K:W.Frag)(tl:TE):TI:=λσ H R=>tl σ H λx H1=>∃a,x=.ref a/\(∃xs,A9 K H1 a xs)/\R (lW K a) H1
theorem Rt {l}{tl}(hl:PE X l tl):PI X tg l (Nf X.K tl):=by
 intro pins s σ H R I h;refine A4 (hl pins s σ H _ I h) λv J ⟨x,H1,U,r1,q1⟩=>?_
 obtain⟨a,e,⟨xs,hq⟩,q⟩:=q1;subst e;cases r1;obtain⟨its,rv,p,hz⟩:=U.list hq;refine wpAny_pyIter_list p.isList ?_;refine⟨J.heap.objs.size,[J.heap.objs.size],_,_,H1,rfl,U.kept (t':=J.toks) λb o e=>D8 _ e,NF a _,⟨_,Cz _ rfl,rfl,rfl⟩,λb hb=>?_,q⟩;have e:b=J.heap.objs.size:=by simpa using hb
 subst e;exact U.fpOk (D2 _) (U.hok.fresh (D2 _))
theorem SR {l}{tl}(hl:PE X l tl):PI X tg l (ER X.K tl):=by
 intro pins s σ H R I h;refine A4 (hl pins s σ H _ I h) λv J ⟨x,H1,U,r1,q1⟩=>?_
 obtain⟨a,e,⟨xs,hq⟩,q⟩:=q1;subst e;cases r1;obtain⟨its,rv,p,hz⟩:=U.tuple hq;refine wpAny_pyIter_tuple (show J.heap.IsTuple a its.toArray from p) ?_;refine⟨J.heap.objs.size,[J.heap.objs.size],_,_,H1,rfl,U.kept (t':=J.toks) λb o e=>D8 _ e,UY a _,⟨_,Cz _ rfl,rfl,rfl⟩,λb hb=>?_,q⟩;have e:b=J.heap.objs.size:=by simpa using hb
 subst e;exact U.fpOk (D2 _) (U.hok.fresh (D2 _))
theorem Le {σ}{H}{R}{hi:Int}{t u v}{tk:Nat}(I:Inv X pins σ H s)(h1:-(2 ^ 62)<=lo)(h2:lo<2 ^ 62)(h3:-(2 ^ 62)<=hi)(h4:hi<2 ^ 62)
  (q:R (ie lo (hi-lo).toNat) H):wpAny (model X.prog X.w) X.A (pyIter (.ref s.heap.objs.size)) (nX X pins σ tg R) E { s with heap:=s.heap.push { cls:=.type "range",data:=.fields #[.int lo t,.int hi u,.int 1 v] },toks:=tk }:=by
 refine wpAny_pyIter_range (IsRange.new ..) (small_one h1 h2 h3 h4) ?_;have J:Inv X pins σ H { s with heap:=s.heap.push { cls:=.type "range",data:=.fields #[.int lo t,.int hi u,.int 1 v] },toks:=tk }:=I.kept λb o e=>D8 _ e
 refine⟨(s.heap.push { cls:=.type "range",data:=.fields #[.int lo t,.int hi u,.int 1 v] }).objs.size,[(s.heap.push { cls:=.type "range",data:=.fields #[.int lo t,.int hi u,.int 1 v] }).objs.size],_,_,H,rfl,
  J.kept (t':=tk) λb o e=>D8 _ e,UZ _ lo (hi-lo).toNat,?_,λb U=>?_,q⟩
 ·have e1:lo+((0:Nat):Int)*1=lo:=by simp
  have e2:(((hi-lo).toNat:Nat):Int)-((0:Nat):Int)=Builtin.Range.rangeSize lo hi 1:=by rw[rangeSize_one];split<;>omega
  show IsRangeIter _ _ (lo+((0:Nat):Int)*1) ((((hi-lo).toNat:Nat):Int)-((0:Nat):Int)) 1;rw[e1,e2];exact Cz _ rfl
 ·have e:b=(s.heap.push { cls:=.type "range",data:=.fields #[.int lo t,.int hi u,.int 1 v] }).objs.size:=by simpa using U
  subst e;exact J.fpOk (D2 _) (J.hok.fresh (D2 _))
def Th (ta:TA):TI:=λσ H R=>ta σ H λvs H1=>∃j:Int,vs=[.int j]/\-(2 ^ 62)<=j/\j<2 ^ 62/\R (ie 0 j.toNat) H1
theorem Zc {a}{ta}{p}(hg:Gl X "range")(hm:X.mg "range"=none)(ha:PA X [a] ta)(hs:starEach [a] X.env=[(false,eval a X.env)]:=by rfl):PI X tg (.Call (.Name "range" p) [a] [] pos) (Th ta):=by
 intro pins s σ H R I h;refine Call_ (Wk I hg hm boot_range (AD (A4 (ha pos pins s σ H _ I h) λus s1 ⟨vs,H1,I1,r1,J⟩=>?_) hs rfl));obtain⟨j,e,J,U,q⟩:=J;subst e;cases r1 with
 | cons r rr=>
  cases rr;obtain⟨t,rfl⟩:=r;exact call_range_1 (Le I1 (by omega) (by omega) J U (by simpa using q))
def B0 (wi:TI)(g:TG)(tb:TS):TS:=λD σ H=>wi σ H λJ H1=>∃W:Nat->Nat->St->Hp->Prop,(∃m,W 0 m σ H1)/\∀i m σ H,W i m σ H ->
 (J.stop i H/\D.nx σ H)∨(J.go i H/\∃N:St->Hp->Prop,(∀σ' H',N σ' H'->∃m',m'<m/\W (i+1) m' σ' H')/\∀x H',J.yld i H x H'->g x σ H' λU H2=>tb { D with nx:=N,ct:=N,bk:=D.nx } U H2)
def X3 (fp:List Addr)(h:Heap):List (Addr×Obj):=fp.filterMap λb=>(h.get? b).map λo=>(b,o)
theorem XQ {b}{o}(hb:b∈fp)(e:h.get? b=some o):(b,o)∈X3 fp h:=List.mem_filterMap.mpr ⟨b,hb,by rw[e];rfl⟩
theorem NU {p}(hp:p∈X3 fp h):p.1∈fp/\h.get? p.1=some p.2:=by
 obtain⟨b,U,e⟩:=List.mem_filterMap.mp hp;cases q:h.get? b with
 | none=>rw[q] at e;cases e
 | some o=>
  rw[q] at e;have J:(b,o)=p:=CD e;subst J;exact⟨U,q⟩
theorem Inv.pinned {σ}{H}(I:Inv X pins σ H s)(hf:∀b∈fp,XT X pins H b)(ho:∀b∈fp,∃o,s.heap.get? b=some o/\∀v,o.data≠.cell v):Inv X (pins++X3 fp s.heap) σ H s:=
 I.pins_of λp hp=>(Cr.mp hp).elim (λz=>I.pin p (CU _ z)) λz=>by
  obtain⟨U,e⟩:=NU z;obtain⟨f0,f1,f2,_⟩:=hf p.1 U;obtain⟨o,J,d⟩:=ho p.1 U;rw[e] at J;cases J;exact⟨e,f0,f1,f2,d⟩
theorem Inv.unpinned {pl}{σ}{H}(I:Inv X (pins++pl) σ H s):Inv X pins σ H s:=I.pins_of λp hp=>I.pin p (CU _ (C0 _ hp))
theorem Ga {wi}{g}{tb}(hp:PassesOwn (model X.prog X.w) X.A X.env X.xe)(hc:X.calm=true)(hi:PI X tg iter wi)(hg:PG X tg g)(U:PSs X body tb)
  (hs:∀x,foldedSetIterable iter X.env x=pure x:=by intro _;rfl):PS X (.For tg iter body [] pos) (B0 wi g tb):=by
 intro pins s σ H D I h;refine wpAny_For (A4 (hi pins s σ H _ I h) λv s1 h1=>A4 h1 λaf s2 h2=>?_) hs;obtain⟨it,fp,tn,J,H2,e,I2,T,aa,f2,W,⟨m0,w0⟩,a8⟩:=h2;subst e;have a4:∀{H':Hp},(∀b∈fp,H' b=none)->∀b∈fp,XT X pins H' b:=λhn b U=>⟨hn b U,(f2 b U).2⟩
 refine codeAny_forLoop_any (λn s'=>∃i σ' H',Inv X pins σ' H' s'/\tn i s'.heap/\(∀b∈fp,H' b=none)/\W i n σ' H') ?_ m0 ⟨0,σ,H2,I2,aa,λb U=>(f2 b U).1,w0⟩;rintro n s3 ⟨i,σ3,H3,I3,st3,fr3,w3⟩;rcases a8 i n σ3 H3 w3 with ⟨a7,qn⟩|⟨go,N,hN,step⟩
 ·refine An hp (A4 (T.done X rfl rfl rfl hc i pins s3 σ3 H3 X.xe I3 (a4 fr3) st3 a7) λr s4 ⟨hr,I4⟩=>?_);subst hr;exact Al ⟨σ3,H3,I4,qn⟩
 ·refine An hp (A4 (T.item X rfl rfl rfl hc i pins s3 σ3 H3 X.xe I3 (a4 fr3) st3 go) λr s4 ⟨u,hr,h4⟩=>?_);subst hr;refine An hp (A4 h4 λ_ s5 ⟨x,H5,I5,r5,y5,a6,ae⟩=>?_);have a9:=I5.pinned (a4 ae) (T.obj _ _ a6);refine An hp (A4 (hg _ s5 σ3 H5 x u _ a9 r5 (step x H5 y5)) λ_ s6 ⟨σ6,H6,I6,q6⟩=>?_);refine An hp (A4 (U _ s6 σ6 H6 _ I6 q6) λf s7 q7=>?_);have a5:∀{σ7:St} {H7:Hp},Inv X (pins++X3 fp s5.heap) σ7 H7 s7->N σ7 H7->∃m,m<n/\∃i σ' H',Inv X pins σ' H' s7/\tn i s7.heap/\(∀b∈fp,H' b=none)/\W i m σ' H':=λ{σ7 H7} I7 n7=>by
   obtain⟨m',hm,w7⟩:=hN σ7 H7 n7;refine⟨m',hm,i+1,σ7,H7,I7.unpinned,T.keep _ _ _ a6 λb U o e=>(I7.pin (b,o) (CU _ (CU _ (XQ U e)))).1,λb U=>?_,w7⟩;obtain⟨o,e,d⟩:=T.obj _ _ a6 b U;exact(I7.pin (b,o) (CU _ (CU _ (XQ U e)))).2.1
  cases f with
  | next=>obtain⟨σ7,H7,I7,n7⟩:=q7;exact a5 I7 n7
  | cont=>obtain⟨σ7,H7,I7,n7⟩:=q7;exact a5 I7 n7
  | brk=>obtain⟨σ7,H7,I7,q7⟩:=q7;exact⟨σ7,H7,I7.unpinned,q7⟩
  | ret v=>obtain⟨x7,σ7,H7,I7,r7,q7⟩:=q7;exact⟨x7,σ7,H7,I7.unpinned,r7,q7⟩
end
theorem Xh {g:TG}{tb:TS}{D:QO}{σ:St}{H:Hp}(Pv:Nat->St->Hp->Prop)(h0:Pv 0 σ H)(hl:∀i σ H,i<=xs.length->Pv i σ H->A6 K H a xs)
  (hs:∀i x σ H,xs[i]?=some x->Pv i σ H->g x σ H λσ2 H2=>tb { D with nx:=Pv (i+1),ct:=Pv (i+1),bk:=D.nx } σ2 H2) (hd:∀σ H,Pv xs.length σ H->D.nx σ H) :
  ∃W:Nat->Nat->St->Hp->Prop,(∃m,W 0 m σ H)/\∀i m σ H,W i m σ H ->
   ((O2 K a).stop i H/\D.nx σ H)∨((O2 K a).go i H/\∃N:St->Hp->Prop,(∀U H',N U H'->∃m',m'<m/\W (i+1) m' U H')/\∀x H',(O2 K a).yld i H x H'->g x σ H' λσ2 H2=>tb { D with nx:=N,ct:=N,bk:=D.nx } σ2 H2):=by
 refine⟨λi m σ H=>m=xs.length-i/\i<=xs.length/\Pv i σ H,⟨xs.length,by simp,CF _,h0⟩,?_⟩;rintro i m σ H ⟨rfl,hi,p⟩;have q:=hl i σ H hi p;by_cases J:i<xs.length
 ·refine .inr ⟨⟨xs,xs[i],q,by simp[J]⟩,Pv (i+1),λU H' p'=>⟨xs.length-(i+1),by omega,rfl,J,p'⟩,λx H' y=>?_⟩;obtain⟨e,y⟩:=y;subst e;exact hs i x σ _ (y xs q) p
 ·have e:i=xs.length:=by omega
  subst e;exact .inl ⟨⟨xs,q,D2 _⟩,hd σ H p⟩
theorem Pe {g:TG}{tb:TS}{D:QO}{σ:St}{H:Hp}(Pv:Nat->St->Hp->Prop)(h0:Pv 0 σ H)(hl:∀i σ H,i<=xs.length->Pv i σ H->A9 K H a xs)
  (hs:∀i x σ H,xs[i]?=some x->Pv i σ H->g x σ H λσ2 H2=>tb { D with nx:=Pv (i+1),ct:=Pv (i+1),bk:=D.nx } σ2 H2) (hd:∀σ H,Pv xs.length σ H->D.nx σ H) :
  ∃W:Nat->Nat->St->Hp->Prop,(∃m,W 0 m σ H)/\∀i m σ H,W i m σ H ->
   ((lW K a).stop i H/\D.nx σ H)∨((lW K a).go i H/\∃N:St->Hp->Prop,(∀U H',N U H'->∃m',m'<m/\W (i+1) m' U H')/\∀x H',(lW K a).yld i H x H'->g x σ H' λσ2 H2=>tb { D with nx:=N,ct:=N,bk:=D.nx } σ2 H2):=by
 refine⟨λi m σ H=>m=xs.length-i/\i<=xs.length/\Pv i σ H,⟨xs.length,by simp,CF _,h0⟩,?_⟩;rintro i m σ H ⟨rfl,hi,p⟩;have q:=hl i σ H hi p;by_cases J:i<xs.length
 ·refine .inr ⟨⟨xs,xs[i],q,by simp[J]⟩,Pv (i+1),λU H' p'=>⟨xs.length-(i+1),by omega,rfl,J,p'⟩,λx H' y=>?_⟩;obtain⟨e,y⟩:=y;subst e;exact hs i x σ _ (y xs q) p
 ·have e:i=xs.length:=by omega
  subst e;exact .inl ⟨⟨xs,q,D2 _⟩,hd σ H p⟩
theorem N6 {g:TG}{tb:TS}{D:QO}{σ:St}{H:Hp}(Pv:Nat->St->Hp->Prop)(h0:Pv 0 σ H)
  (hs:∀i σ H,i<n->Pv i σ H->g (.int (lo+i)) σ H λσ2 H2=>tb { D with nx:=Pv (i+1),ct:=Pv (i+1),bk:=D.nx } σ2 H2) (hd:∀σ H,Pv n σ H->D.nx σ H) :
  ∃W:Nat->Nat->St->Hp->Prop,(∃m,W 0 m σ H)/\∀i m σ H,W i m σ H ->
   ((ie lo n).stop i H/\D.nx σ H)∨((ie lo n).go i H/\∃N:St->Hp->Prop,(∀U H',N U H'->∃m',m'<m/\W (i+1) m' U H')/\∀x H',(ie lo n).yld i H x H'->g x σ H' λσ2 H2=>tb { D with nx:=N,ct:=N,bk:=D.nx } σ2 H2):=by
 refine⟨λi m σ H=>m=n-i/\i<=n/\Pv i σ H,⟨n,by simp,CF _,h0⟩,?_⟩;rintro i m σ H ⟨rfl,hi,p⟩;by_cases J:i<n
 ·refine .inr ⟨J,Pv (i+1),λU H' p'=>⟨n-(i+1),by omega,rfl,J,p'⟩,λx H' y=>?_⟩;obtain⟨e,y⟩:=y;subst e y;exact hs i σ _ J p
 ·have e:i=n:=by omega
  subst e;exact .inl ⟨D2 _,hd σ H p⟩
abbrev R2:=V->V->Hp->VK->Prop
def OpR (X:Cx)(f:Value->Value->Sem Value)(r:R2):Prop:=
 ∀(pins:List (Addr×Obj)) (s:Shared) (σ:St) (H:Hp) (x y:V) (v u:Value) (Q:VK),Inv X pins σ H s->RelV x v->RelV y u->r x y H Q ->
  wpAny (model X.prog X.w) X.A (f v u) (EP X pins σ Q) X.xe s
def UnR (X:Cx)(f:Value->Sem Value)(r:V->Hp->VK->Prop):Prop:=
 ∀(pins:List (Addr×Obj)) (s:Shared) (σ:St) (H:Hp) (x:V) (v:Value) (Q:VK),Inv X pins σ H s->RelV x v->r x H Q ->
  wpAny (model X.prog X.w) X.A (f v) (EP X pins σ Q) X.xe s
def CallR (X:Cx)(f:Value)(r:List V->Hp->VK->Prop):Prop:=
 ∀(pins:List (Addr×Obj)) (s:Shared) (σ:St) (H:Hp) (xs:List V) (us:List Value) (Q:VK),Inv X pins σ H s->Vals xs us->r xs H Q ->
  wpAny (model X.prog X.w) X.A (call f us) (EP X pins σ Q) X.xe s
def DQ (X:Cx)(r:V->Hp->(Bool->Hp->Prop)->Prop):Prop:=
 ∀(pins:List (Addr×Obj)) (s:Shared) (σ:St) (H:Hp) (x:V) (v:Value) (Q:Bool->Hp->Prop),Inv X pins σ H s->RelV x v->r x H Q ->
  wpAny (model X.prog X.w) X.A (truthy v) (TP X pins σ Q) X.xe s
def IS (r:R2)(ta tb:TE):TE:=λσ H Q=>ta σ H λx H1=>tb σ H1 λy H2=>r x y H2 Q
def mJ (r:V->Hp->VK->Prop)(ta:TE):TE:=λσ H Q=>ta σ H λx H1=>r x H1 Q
def rI (C:Int->Int->Prop)(g:Int->Int->V):R2:=λx y H Q=>∃i j,x=.int i/\y=.int j/\C i j/\Q (g i j) H
def ja (g:Int->Int->V):R2:=λx y H Q=>∃i j,x=.int i/\y=.int j/\Q (g i j) H
def rU (g:Int->V):V->Hp->VK->Prop:=λx H Q=>∃i,x=.int i/\Q (g i) H
section
variable {X:Cx} {a b c:Expr} {ta tb tc:TE} {pos:Pos}
theorem HI (ha:PE X a ta)(hb:PE X b tb){s:Shared}{σ:St}{H:Hp}{R:V->V->Hp->Prop}(I:Inv X pins σ H s)
  (h:ta σ H λx H1=>tb σ H1 λy H2=>R x y H2) {Q:Value->Shared->Prop} {f:Value->Value->Sem Value}
  (hf:∀v u J x y H2,Inv X pins σ H2 J->RelV x v->RelV y u->R x y H2->wpAny (model X.prog X.w) X.A (f v u) Q X.xe J) :
  wpAny (model X.prog X.w) X.A (eval a X.env) (λv s₁=>wpAny (model X.prog X.w) X.A (eval b X.env) (λu s₂=>wpAny (model X.prog X.w) X.A (f v u) Q X.xe s₂) X.xe s₁) X.xe s:=by
 refine A4 (ha pins s σ H _ I h) λv s1 ⟨x,H1,I1,r1,U⟩=>?_
 refine A4 (hb pins s1 σ H1 _ I1 U) λu J ⟨y,H2,I2,r2,q2⟩=>?_
 exact hf v u J x y H2 I2 r1 r2 q2
theorem Qg {op}{r}(ho:OpR X (binaryOp op) r)(ha:PE X a ta)(hb:PE X b tb):PE X (.BinOp a op b pos) (IS r ta tb):=by
 intro pins s σ H Q I h;exact wpAny_BinOp (HI ha hb I h λv u U x y H2 I2 J ry q=>ho pins U σ H2 x y v u Q I2 J ry q)
theorem Tf {op}{r}(ho:UnR X (unaryOp op) r)(ha:PE X a ta):PE X (.UnaryOp op a pos) (mJ r ta):=by
 intro pins s σ H Q I h;exact UnaryOp_ (A4 (ha pins s σ H _ I h) λv J ⟨x,H1,I1,r1,U⟩=>ho pins J σ H1 x v Q I1 r1 U)
theorem lO {f:Value->Value->Sem Value}{C:Int->Int->Prop}{g:Int->Int->Int} 
  (rule:∀(i j:Int) (t u:Tok) (s:Shared) (Q:Value->Shared->Prop) (E:Value->Shared->Prop),C i j->Q (.int (g i j) s.toks) { s with toks:=s.toks+1 }->wpAny (model X.prog X.w) X.A (f (.int i t) (.int j u)) Q E s) :
  OpR X f (rI C λi j=>.int (g i j)):=by
 intro pins s σ H x y v u Q I J U h;obtain⟨i,j,rfl,rfl,hc,q⟩:=h;obtain⟨t,rfl⟩:=J;obtain⟨t',rfl⟩:=U;exact rule i j t t' s _ _ hc ⟨.int (g i j),H,I.tok _,⟨_,rfl⟩,q⟩
theorem EE {f:Value->Value->Sem Value}{g:Int->Int->Int} 
  (rule:∀(i j:Int) (t u:Tok) (s:Shared) (Q:Value->Shared->Prop) (E:Value->Shared->Prop),Q (.int (g i j) s.toks) { s with toks:=s.toks+1 }->wpAny (model X.prog X.w) X.A (f (.int i t) (.int j u)) Q E s) :
  OpR X f (ja λi j=>.int (g i j)):=by
 intro pins s σ H x y v u Q I J U h;obtain⟨i,j,rfl,rfl,q⟩:=h;obtain⟨t,rfl⟩:=J;obtain⟨t',rfl⟩:=U;exact rule i j t t' s _ _ ⟨.int (g i j),H,I.tok _,⟨_,rfl⟩,q⟩
theorem EF {f:Value->Value->Sem Value}{g:Int->Int->Bool} 
  (rule:∀(i j:Int) (t u:Tok) (s:Shared) (Q:Value->Shared->Prop) (E:Value->Shared->Prop),Q (.bool (g i j)) s->wpAny (model X.prog X.w) X.A (f (.int i t) (.int j u)) Q E s) :
  OpR X f (ja λi j=>.bl (g i j)):=by
 intro pins s σ H x y v u Q I J U h;obtain⟨i,j,rfl,rfl,q⟩:=h;obtain⟨t,rfl⟩:=J;obtain⟨t',rfl⟩:=U;exact rule i j t t' s _ _ ⟨.bl (g i j),H,I,rfl,q⟩
def VJ (i j:Int):Prop:=0<=j/\j<=1000000/\i.natAbs<2 ^ 64
theorem op_add:OpR X (binaryOp .Add) (ja λi j=>.int (i+j)):=EE λ_ _ _ _ _ _ _ q=>add_int q
theorem op_sub:OpR X (binaryOp .Sub) (ja λi j=>.int (i-j)):=EE λ_ _ _ _ _ _ _ q=>sub_int q
theorem op_mod:OpR X (binaryOp .Mod) (rI (λ_ j=>0<j) λi j=>.int (i % j)):=lO λi j _ _ _ _ _ J q=>by
 have h1:(0:Int)<j:=J;exact mod_int' (by omega) (by rw[Int.fmod_eq_emod_of_nonneg i (by omega)];exact q)
theorem op_pow:OpR X (binaryOp .Pow) (rI VJ λi j=>.int (i ^ j.toNat)):=lO λ_ _ _ _ _ _ _ hc q=>pow_int_small hc.1 hc.2.1 hc.2.2 q
theorem nh {f:Value->Sem Value}{g:Int->Int} 
  (rule:∀(i:Int) (t:Tok) (s:Shared) (Q:Value->Shared->Prop) (E:Value->Shared->Prop),Q (.int (g i) s.toks) { s with toks:=s.toks+1 }->wpAny (model X.prog X.w) X.A (f (.int i t)) Q E s) :
  UnR X f (rU λi=>.int (g i)):=by
 intro pins s σ H x v Q I J h;obtain⟨i,rfl,q⟩:=h;obtain⟨t,rfl⟩:=J;exact rule i t s _ _ ⟨.int (g i),H,I.tok _,⟨_,rfl⟩,q⟩
theorem un_neg:UnR X (unaryOp .USub) (rU λi=>.int (-i)):=nh λ_ _ _ _ _ q=>neg_int q
end
def Ed:V->V->Bool
 | .non,.non=>true|.non,.int _=>true|.int _,.non=>true|.non,.bl _=>true|.bl _,.non=>true|.non,.str _=>true|.str _,.non=>true
 | .int _,.int _=>true|.bl _,.bl _=>true|.str _,.str _=>true|.byt _,.byt _=>true
 | .int _,.str _=>true|.str _,.int _=>true|.bl _,.str _=>true|.str _,.bl _=>true
 | _,_=>false
def jb:R2:=λx y H Q=>Ed x y=true/\Q (.bl (decide (x=y))) H
def jZ:R2:=λx y H Q=>Ed x y=true/\Q (.bl (!decide (x=y))) H
theorem W1 {i j:Int}:decide (V.int i=V.int j)=(i==j):=by
 rw[C9];simp
theorem Bh {i j}:decide (V.bl i=V.bl j)=(i==j):=by
 rw[C9];simp
theorem Nt {i j}:decide (V.str i=V.str j)=(i==j):=by
 rw[C9];simp
theorem Nu {i j}:decide (V.byt i=V.byt j)=(i.toList==j.toList):=by
 rw[C9];cases i;cases j;simp
section
variable {X:Cx} {a b c:Expr} {ta tb tc:TE} {pos:Pos}
theorem QF {σ}{H}{Q}{k k'}(I:Inv X pins σ H s)(q:Q (.bl k) H)(e:k=k'):EP X pins σ Q (.bool k') s:=by
 subst e;exact⟨.bl k,H,I,rfl,q⟩
theorem op_eq:OpR X (compareOp .Eq) jb:=by
 intro pins s σ H x y v u Q I rx J h;obtain⟨U,q⟩:=h;cases x with
 | non=>
  cases rx;cases y with
  | non=>cases J;exact EqNone.eq_none_none (QF I q (by simp))
  | bl j=>cases J;exact EqNone.eq_none_bool (QF I q (by simp))
  | int j=>obtain⟨t',rfl⟩:=J;exact EqNone.eq_none_int (QF I q (by simp))
  | str j=>obtain⟨t',rfl⟩:=J;exact EqNone.eq_none_str (QF I q (by simp))
  | _=>exact absurd (show false=true from U) Cy
 | bl i=>
  cases rx;cases y with
  | non=>cases J;exact EqNone.eq_bool_none (QF I q (by simp))
  | bl j=>cases J;exact eq_bool (QF I q Bh)
  | str j=>obtain⟨t',rfl⟩:=J;exact EqMixed.eq_bool_str (QF I q (by simp))
  | _=>exact absurd (show false=true from U) Cy
 | int i=>
  obtain⟨t,rfl⟩:=rx;cases y with
  | non=>cases J;exact EqNone.eq_int_none (QF I q (by simp))
  | int j=>obtain⟨t',rfl⟩:=J;exact eq_int (QF I q W1)
  | str j=>obtain⟨t',rfl⟩:=J;exact EqMixed.eq_int_str (QF I q (by simp))
  | _=>exact absurd (show false=true from U) Cy
 | str i=>
  obtain⟨t,rfl⟩:=rx;cases y with
  | non=>cases J;exact EqNone.eq_str_none (QF I q (by simp))
  | bl j=>cases J;exact EqMixed.eq_str_bool (QF I q (by simp))
  | int j=>obtain⟨t',rfl⟩:=J;exact EqMixed.eq_str_int (QF I q (by simp))
  | str j=>obtain⟨t',rfl⟩:=J;exact eq_str (QF I q Nt)
  | _=>exact absurd (show false=true from U) Cy
 | byt i=>
  obtain⟨t,rfl⟩:=rx;cases y with
  | byt j=>obtain⟨t',rfl⟩:=J;exact W.eq_bytes (QF I q Nu)
  | _=>exact absurd (show false=true from U) Cy
 | _=>cases y<;>exact absurd (show false=true from U) Cy
theorem op_ne:OpR X (compareOp .NotEq) jZ:=by
 intro pins s σ H x y v u Q I rx J h;obtain⟨U,q⟩:=h;cases x with
 | non=>
  cases rx;cases y with
  | non=>cases J;exact EqNone.ne_none_none (QF I q (by simp))
  | bl j=>cases J;exact EqNone.ne_none_bool (QF I q (by simp))
  | int j=>obtain⟨t',rfl⟩:=J;exact EqNone.ne_none_int (QF I q (by simp))
  | str j=>obtain⟨t',rfl⟩:=J;exact EqNone.ne_none_str (QF I q (by simp))
  | _=>exact absurd (show false=true from U) Cy
 | bl i=>
  cases rx;cases y with
  | non=>cases J;exact EqNone.ne_bool_none (QF I q (by simp))
  | bl j=>cases J;exact ne_bool (QF I q (congrArg not Bh))
  | str j=>obtain⟨t',rfl⟩:=J;exact EqMixed.ne_bool_str (QF I q (by simp))
  | _=>exact absurd (show false=true from U) Cy
 | int i=>
  obtain⟨t,rfl⟩:=rx;cases y with
  | non=>cases J;exact EqNone.ne_int_none (QF I q (by simp))
  | int j=>obtain⟨t',rfl⟩:=J;exact ne_int (QF I q (congrArg not W1))
  | str j=>obtain⟨t',rfl⟩:=J;exact EqMixed.ne_int_str (QF I q (by simp))
  | _=>exact absurd (show false=true from U) Cy
 | str i=>
  obtain⟨t,rfl⟩:=rx;cases y with
  | non=>cases J;exact EqNone.ne_str_none (QF I q (by simp))
  | bl j=>cases J;exact EqMixed.ne_str_bool (QF I q (by simp))
  | int j=>obtain⟨t',rfl⟩:=J;exact EqMixed.ne_str_int (QF I q (by simp))
  | str j=>obtain⟨t',rfl⟩:=J;exact ne_str (QF I q (congrArg not Nt))
  | _=>exact absurd (show false=true from U) Cy
 | byt i=>
  obtain⟨t,rfl⟩:=rx;cases y with
  | byt j=>obtain⟨t',rfl⟩:=J;exact W.ne_bytes (QF I q (congrArg not Nu))
  | _=>exact absurd (show false=true from U) Cy
 | _=>cases y<;>exact absurd (show false=true from U) Cy
theorem op_lt:OpR X (compareOp .Lt) (ja λi j=>.bl (decide (i<j))):=EF λ_ _ _ _ _ _ _ q=>lt_int q
theorem op_gt:OpR X (compareOp .Gt) (ja λi j=>.bl (decide (j<i))):=EF λ_ _ _ _ _ _ _ q=>gt_int q
theorem NS:OpR X (compareOp .In) (λx y H Q=>∃i j,x=.str i/\y=.str j/\Q (.bl (!(Builtin.Str.occurrences j i 0 j.length 1).isEmpty)) H):=by
 intro pins s σ H x y v u Q I J U h;obtain⟨i,j,rfl,rfl,q⟩:=h;obtain⟨t,rfl⟩:=J;obtain⟨t',rfl⟩:=U;exact in_str (QF I q rfl)
theorem Vf:OpR X (compareOp .NotIn) (λx y H Q=>∃i j,x=.str i/\y=.str j/\Q (.bl (!(!(Builtin.Str.occurrences j i 0 j.length 1).isEmpty))) H):=by
 intro pins s σ H x y v u Q I J U h;obtain⟨i,j,rfl,rfl,q⟩:=h;obtain⟨t,rfl⟩:=J;obtain⟨t',rfl⟩:=U;exact notIn_str (QF I q rfl)
theorem OpR.or {f}{r r'}(h:OpR X f r)(h':OpR X f r'):OpR X f (λx y H Q=>r x y H Q∨r' x y H Q):=by
 intro pins s σ H x y v u Q I J U q;rcases q with q|q
 ·exact h pins s σ H x y v u Q I J U q
 ·exact h' pins s σ H x y v u Q I J U q
theorem LB (b)(h:op≠.In:=by decide)(h2:op≠.NotIn:=by decide):behindInMarks op b=false:=by
 have e1:(op==CmpOp.In)=false:=by cases op<;>first|rfl|exact absurd rfl h
 have e2:(op==CmpOp.NotIn)=false:=by cases op<;>first|rfl|exact absurd rfl h2
 cases b<;>simp[behindInMarks,e1,e2]
theorem YR {r}(ho:OpR X (compareOp op) r)(ha:PE X a ta)(hb:PE X b tb)(hm:behindInMarks op b=false):PE X (.Compare a [op] [b] pos) (IS r ta tb):=by
 intro pins s σ H Q I h;exact wpAny_Compare1 (HI ha hb I h λv u U x y H2 I2 J ry q=>ho pins U σ H2 x y v u Q I2 J ry q) hm
def Da (K:W.Frag)(x:V)(H:Hp)(k:Bool):Prop:=
 match x with
 | .non=>k=false
 | .bl b=>k=b
 | .int i=>k=(i != 0)
 | .str y=>y.length<=sizeLine/\k=((y.length:Int) != 0)
 | .byt y=>y.size<=sizeLine/\k=((y.size:Int) != 0)
 | .ref p=>(∃xs,A6 K H p xs/\k=!xs.isEmpty)∨(∃xs,A9 K H p xs/\k=!xs.isEmpty)∨∃kvs,H p=some (.dK kvs)/\k=!kvs.isEmpty
 | _=>False
theorem Gn (r:KV kvs vs):(!vs.isEmpty)=!kvs.isEmpty:=by
 cases r<;>rfl
theorem Jp {xs}(r:Vals xs its):(!its.toArray.isEmpty)=!xs.isEmpty:=by
 cases r<;>simp
theorem Jl:(sizeLine:Nat)<2 ^ 63:=by rw[Cb];decide
theorem Su:DQ X (λx H Q=>∃k,Da X.K x H k/\Q k H):=by
 intro pins s σ H x v Q I rx h;obtain⟨k,e,q⟩:=h;have hl:=Jl;have hs:sizeLine=16777216:=Cb;cases x with
 | non=>
  cases rx;have J:k=false:=e;subst J;exact truthy_none ⟨H,I,q⟩
 | bl b=>
  cases rx;have J:k=b:=e;subst J;exact Am ⟨H,I,q⟩
 | int i=>
  obtain⟨t,rfl⟩:=rx;have J:k=(i != 0):=e;subst J;exact PySem.P.truthy_int ⟨H,I,q⟩
 | str y=>
  obtain⟨t,rfl⟩:=rx;obtain⟨hy,J⟩:y.length<=sizeLine/\k=((y.length:Int) != 0):=e;subst J;exact PySem.P.truthy_str (by omega) ⟨H,I.tok _,q⟩
 | byt y=>
  obtain⟨t,rfl⟩:=rx;obtain⟨hy,J⟩:y.size<=sizeLine/\k=((y.size:Int) != 0):=e;subst J;exact W.truthy_bytes (by omega) ⟨H,I.tok _,q⟩
 | ref p=>
  cases rx;have J:(∃xs,A6 X.K H p xs/\k=!xs.isEmpty)∨(∃xs,A9 X.K H p xs/\k=!xs.isEmpty)∨∃kvs,H p=some (.dK kvs)/\k=!kvs.isEmpty:=e;rcases J with ⟨xs,hx,J⟩|⟨xs,hx,J⟩|⟨kvs,hx,J⟩
  ·subst J;obtain⟨its,r,pl,hz⟩:=I.list hx;have U:=r.length;exact wpAny_truthy_list pl.isList (by simp only[CA];omega) ⟨H,I.tok _,by rw[Jp r];exact q⟩
  ·subst J;obtain⟨its,r,pl,hz⟩:=I.tuple hx;have U:=r.length;exact truthy_tuple pl (by simp only[CA];omega) ⟨H,I.tok _,by rw[Jp r];exact q⟩
  ·subst J;obtain⟨hz,hS,vs,r,m⟩:kvs.length<=sizeLine/\(p==sysModules)=false/\∃vs,KV kvs vs/\s.heap.DictOf (QQ X.prog X.w) p vs:=I.hok p _ hx;have U:kvs.length=vs.length:=Paired.length r;exact wpAny_truthy_dict hS m (by omega) ⟨H,I.tok _,by rw[Gn r];exact q⟩
 | _=>exact(show False from e).elim
theorem Jc (ha:PE X a ta)(he:∀whole,isTrue a X.env whole=(do let v <-whole;standAt a.pos;holding [v] (truthy v))) :
  PT X a (λσ H Q=>ta σ H λx H'=>∃k,Da X.K x H' k/\Q k H'):=by
 intro pins s σ H Q I h;exact isTrue_plain (A4 (ha pins s σ H _ I h) λv J ⟨x,H1,I1,r1,U⟩=>Su pins J σ H1 x v Q I1 r1 U) (he _)
theorem op_add_str:OpR X (binaryOp .Add) (λx y H Q=>∃i j,x=.str i/\y=.str j/\i.length+j.length<=sizeLine/\Q (.str (i++j)) H):=by
 intro pins s σ H x y v u Q I U ry h;obtain⟨i,j,rfl,rfl,J,q⟩:=h;obtain⟨t,rfl⟩:=U;obtain⟨t',rfl⟩:=ry;exact add_str (λt' tk=>⟨.str (i++j),H,I.tok _,⟨_,rfl⟩,q⟩) J
theorem ZK {x}(r:Vals [x] us):∃u,us=[u]/\RelV x u:=by
 cases r with
 | cons r1 r2=>cases r2;exact⟨_,rfl,r1⟩
theorem Ka {x y}(r:Vals [x,y] us):∃u w',us=[u,w']/\RelV x u/\RelV y w':=by
 cases r with
 | cons r1 r2=>
  cases r2 with
  | cons U J=>cases J;exact⟨_,_,rfl,r1,U⟩
theorem Uv:CallR X (.builtin "abs") (λxs H Q=>∃i,xs=[.int i]/\Q (.int (if i<0 then -i else i)) H):=by
 intro pins s σ H xs us Q I r h;obtain⟨i,rfl,q⟩:=h;obtain⟨u,rfl,t,rfl⟩:=ZK r;exact call_abs_int λu J=>⟨.int (if i<0 then -i else i),H,I.tok _,⟨_,rfl⟩,q⟩
theorem Ml (hc:X.calm=true):CallR X (.builtin "max") (λxs H Q=>∃i j,xs=[.int i,.int j]/\Q (.int (if j > i then j else i)) H):=by
 intro pins s σ H xs us Q I r h;obtain⟨i,j,rfl,q⟩:=h;obtain⟨u,U,rfl,⟨t,rfl⟩,⟨t',rfl⟩⟩:=Ka r;refine max_two_ints (I.ok.hd hc) λh' tk k=>⟨_,H,I.kept k,?_,q⟩
 by_cases J:j > i
 ·rw[DZ J,DZ J];exact⟨_,rfl⟩
 ·rw[DY J,DY J];exact⟨_,rfl⟩
theorem Kz:CallR X (.type "int") (λxs H Q=>(∃i,xs=[.int i]/\Q (.int i) H)∨∃k,xs=[.bl k]/\Q (.int (if k then 1 else 0)) H):=by
 intro pins s σ H xs us Q I r h;rcases h with ⟨i,rfl,q⟩|⟨k,rfl,q⟩
 ·obtain⟨u,rfl,t,rfl⟩:=ZK r;exact call_int_int ⟨.int i,H,I,⟨_,rfl⟩,q⟩
 ·obtain⟨u,rfl,r1⟩:=ZK r;cases r1;exact call_int_bool ⟨.int (if k then 1 else 0),H,I.tok _,⟨_,rfl⟩,q⟩
theorem call_str_int:CallR X (.type "str") (λxs H Q=>∃i,xs=[.int i]/\i.natAbs.log2<1920/\Q (.str (toString i)) H):=by
 intro pins s σ H xs us Q I r h;obtain⟨i,rfl,J,q⟩:=h;obtain⟨u,rfl,t,rfl⟩:=ZK r;exact PySem.P.str_of_int J ⟨.str _,H,I.tok _,⟨_,rfl⟩,q⟩
def Dc (K:W.Frag)(x:V)(H:Hp)(n:Nat):Prop:=
 match x with
 | .str y=>y.length<=sizeLine/\n=y.length
 | .byt y=>y.size<=sizeLine/\n=y.size
 | .ref p=>(∃xs,A6 K H p xs/\n=xs.length)∨∃xs,A9 K H p xs/\n=xs.length
 | _=>False
theorem Bt:CallR X (.builtin "len") (λxs H Q=>∃x n,xs=[x]/\Dc X.K x H n/\Q (.int n) H):=by
 intro pins s σ H xs us Q I r h;obtain⟨x,n,rfl,e,q⟩:=h;obtain⟨u,rfl,rx⟩:=ZK r;have hl:=Jl;have hs:sizeLine=16777216:=Cb;cases x with
 | str y=>
  obtain⟨t,rfl⟩:=rx;obtain⟨hy,U⟩:y.length<=sizeLine/\n=y.length:=e;subst U;exact len_str (by omega) ⟨.int _,H,I.tok _,⟨_,rfl⟩,q⟩
 | byt y=>
  obtain⟨t,rfl⟩:=rx;obtain⟨hy,U⟩:y.size<=sizeLine/\n=y.size:=e;subst U;exact W.len_bytes (by omega) ⟨.int _,H,I.tok _,⟨_,rfl⟩,q⟩
 | ref p=>
  cases rx;have U:(∃xs,A6 X.K H p xs/\n=xs.length)∨∃xs,A9 X.K H p xs/\n=xs.length:=e;rcases U with ⟨xs,hx,U⟩|⟨xs,hx,U⟩
  ·subst U;obtain⟨its,r',pl,hz⟩:=I.list hx;have J:=r'.length;exact Calls.call_len_list pl.isList (by simp only[CA];omega) ⟨.int xs.length,H,I.tok _,⟨_,by simp only[CA];rw[J]⟩,q⟩
  ·subst U;obtain⟨its,r',pl,hz⟩:=I.tuple hx;have J:=r'.length;exact len_tuple pl (by simp only[CA];omega) ⟨.int xs.length,H,I.tok _,⟨_,by simp only[CA];rw[J]⟩,q⟩
 | _=>exact(show False from e).elim
end
structure ObjM (h:Heap)(x dx C:Addr)(mA:Str->Option Value):Prop where
 obj:h.get? x=some (W.instObj C dx)
 ns:h.Ns1 dx mA
 ne:dx≠x
theorem Kq (n:h.Ns1 dx mA):∃od,h.get? dx=some od/\∀name,W.lookIn name od=some (mA name):=by
 obtain ⟨o,es,ep,ho,hd,hk,_,hm⟩:=n;refine ⟨o,ho,fun name=>?_⟩;have e:=hm name;unfold nsFind findBy at e;rw [<-Array.find?_toList] at e;unfold W.lookIn;rw [hd];dsimp only;split
 ·rename_i y q;rw[q] at e;exact congrArg some e
 ·rename_i q;rw[q] at e;have a:es.toList.any (·.refKey)=false:=by
   rw[List.any_eq_false];intro y U;obtain⟨z,t,J⟩:=hk y (Array.mem_toList_iff.mp U);simp[DictEntry.refKey,J]
  have a':¬es.toList.any (·.refKey)=true:=by rw[a];exact Cy
  rw[DY a'];exact congrArg some e
theorem ObjM.look {x}(I:ObjM h x dx C mA):∃od,W.InstAt h x (W.instObj C dx) C (some od)/\∀name,W.lookIn name od=some (mA name):=
 let ⟨od,ho,hl⟩:=Kq I.ns
 ⟨od,⟨I.obj,rfl,rfl,ho⟩,hl⟩
section
variable {prog:Program} {w:World} {A:Around} {E:Value->Shared->Prop} {s:Shared} {K:W.Frag} {x dx C f:Addr} {mA:Str->Option Value} {name:Str} {v:Value}
theorem Pa {expr}{Q}(X:K.In s.heap)(I:ObjM s.heap x dx C mA)(hg:W.plainGet K C name=true)(hh:W.hasDictIn K C=true)
  (ha:W.findIn K (.ref C) name=some none) (hv:mA name=some v) (hv':W.handedIn v=true) (h:Q v { s with toks:=s.toks+1 }) :
  wpAny (model prog w) A (getAttr (.ref x) name expr) Q E s:=by
 obtain⟨od,J,U⟩:=I.look;exact W.get_value X J (W.plainGet_of hg).1 (W.findObj_own hh ha rfl (by rw[U,hv])) hv' h
theorem LW {Q}(X:K.In s.heap)(I:ObjM s.heap x dx C mA)(hg:W.plainGet K C name=true)
  (hf:W.findIn K (.ref C) name=some (some (.ref f))) (ht:W.isFn K (.ref f)=true) (hv:mA name=none) (h:Q (.ref f,[.ref x]) s) :
  wpAny (model prog w) A (getMethod (.ref x) name pl) Q E s:=by
 obtain⟨od,J,U⟩:=I.look;exact W.method_fn X J (W.plainGet_of hg).1 (W.plainGet_of hg).2 hf (beq_iff_eq.mp ht) (by show(W.lookIn name od).map (·.isSome)=some false;rw[U,hv];rfl) h
theorem B5 {Q}(X:K.In s.heap)(I:ObjM s.heap x dx C mA)
  (hs:W.findIn K (.ref C) "__setattr__"=some (some (.builtin "object.__setattr__"))) (hp:W.plainOver K C=true) (ht:W.takerIn K C name=some none) (hh:W.hasDictIn K C=true)
  (hw:PySem.Within mA ns) (hsz:ns.length<=sizeLine)
  (h:∀h',ObjM h' x dx C (λy=>if y=name then some v else mA y)->Heap.SameBut dx s.heap h'->Q () { s with heap:=h',toks:=s.toks+2 }) :
  wpAny (model prog w) A (setAttr (.ref x) name v) Q E s:=by
 obtain⟨od,J,hl⟩:=I.look;refine W.set_plain X J hs (W.osa_open (s:={ s with toks:=s.toks+1 }) (r:=none) X J hp ht λb=>?_);obtain⟨cd,hc,a5⟩:=W.any_some hh;have hx:s.heap.get? x=some ⟨.ref C,some dx,.plain,#[]⟩:=I.obj;refine DX (D3 (DX (DX (wpAny_loadPart hx (DX (W.Looks.here (s:={ s with toks:=s.toks+1 }) (W.looks_clsIn X hc) ?_))))));rw[a5];refine D3 (a:=some dx) (DX (D3 (DX ?_)));refine wpAny_nsSet1 (s:={ s with toks:=s.toks+1 }) I.ns λh' a4 U=>?_
 obtain⟨oD,aa,a9,a8,a6,a7⟩:=a4.count (Within.cons name v hw);refine DX (wpAny_lookBehind a8 (by rw[a6];exact pastItsLine_dict (Co a7 (by rw[Cm];omega))) ?_);exact D3 (h _ ⟨(U.2 _ (CP I.ne)).trans I.obj,a4,I.ne⟩ U)
theorem LK {R}{vs}(X:K.In s.heap)(hm:W.makesIn K C=true)
  (hi:W.findIn K (.ref C) "__init__"=some (some (.ref f))) (hf:W.typeIn K (.ref f)=some (.type "function"))
  (h:codeAny (model prog w) (A.under (.builtin "type.__call__" ⟨.ref C::vs,kw⟩)) (.call (.ref f) ⟨.ref (s.heap.objs.size+1)::vs,kw⟩) (W.InitBack (s.heap.objs.size+1) R)
   { s with heap:=(s.heap.push W.emptyDict).push (W.instObj C s.heap.objs.size) }) :
  codeAny (model prog w) A (.call (.ref C) ⟨vs,kw⟩) R s:=by
 obtain⟨U,g,d,t,os⟩:=s;exact W.make_core (W.makes_of X hm) (W.looks_findIn X hi) (λJ=>W.bind_fn X J hf) (.inl rfl) h
end
def QI (f:Str)(v:V):List (Str×V)->List (Str×V)
 | []=>[(f,v)]
 | (g,x)::r=>if g=f then(g,v)::r else(g,x)::QI f v r
theorem Ww (f g)(v):∀fs,(QI f v fs).lookup g=if g=f then some v else fs.lookup g
 | []=>by
  show List.lookup g [(f,v)]=_;by_cases h:g=f
  ·have J:(g==f)=true:=beq_iff_eq.mpr h;simp only[List.lookup,J,DZ h]
  ·have J:(g==f)=false:=beq_eq_false_iff_ne.mpr h;simp only[List.lookup,J,DY h]
 | (k,x)::r=>by
  have ih:=Ww f g v r;rw[show QI f v ((k,x)::r)=(if k=f then(k,v)::r else(k,x)::QI f v r) from rfl];by_cases U:k=f
  ·rw[DZ U];by_cases h:g=k
   ·have J:(g==k)=true:=beq_iff_eq.mpr h;simp only[List.lookup,J,DZ (h.trans U)]
   ·have J:(g==k)=false:=beq_eq_false_iff_ne.mpr h;simp only[List.lookup,J,DY (λe:g=f=>h (e.trans U.symm))]
  ·rw[DY U];by_cases h:g=k
   ·have J:(g==k)=true:=beq_iff_eq.mpr h;simp only[List.lookup,J,DY (λe:g=f=>U (h.symm.trans e))]
   ·have J:(g==k)=false:=beq_eq_false_iff_ne.mpr h;simp only[List.lookup,J];exact ih
theorem Wl (f)(v):∀fs,f∈(QI f v fs).map (·.1)/\∀g,g∈fs.map (·.1)->g∈(QI f v fs).map (·.1)
 | []=>⟨by simp[QI],λg h=>by simp at h⟩
 | (k,x)::r=>by
  obtain⟨i1,U⟩:=Wl f v r;rw[show QI f v ((k,x)::r)=(if k=f then(k,v)::r else(k,x)::QI f v r) from rfl];by_cases J:k=f
  ·rw[DZ J];subst J;exact⟨by simp,λg h=>by simpa using h⟩
  ·rw[DY J];refine⟨?_,λg h=>?_⟩
   ·rw[CQ];exact Cu _ i1
   ·rw[CQ] at h ⊢;rcases Ca.mp h with e|e
    ·exact Ca.mpr (.inl e)
    ·exact Cu _ (U g e)
theorem Wx (f)(v):∀fs,(QI f v fs).length<=fs.length+1
 | []=>by simp[QI]
 | (k,x)::r=>by
  have U:=Wx f v r;rw[show QI f v ((k,x)::r)=(if k=f then(k,v)::r else(k,x)::QI f v r) from rfl];by_cases J:k=f
  ·rw[DZ J,Cm,Cm];omega
  ·rw[DY J,Cm,Cm];omega
theorem RelO.some_of {v}{o}(r:RelO (some v) o):∃u,o=some u/\RelV v u:=by
 cases o with
 | none=>exact(show False from r).elim
 | some u=>exact⟨u,rfl,r⟩
theorem RelO.none_of {o}(r:RelO none o):o=none:=by
 cases o with
 | none=>rfl
 | some u=>exact(show False from r).elim
theorem Kt {v}(r:RelV v u):W.handedIn u=true:=by
 cases v with
 | non=>cases(show u=Value.none from r);rfl
 | bl b=>cases(show u=Value.bool b from r);rfl
 | int i=>obtain⟨t,e⟩:=(show ∃t,u=Value.int i t from r);cases e;rfl
 | str x=>obtain⟨t,e⟩:=(show ∃t,u=Value.str x t from r);cases e;rfl
 | byt b=>obtain⟨t,e⟩:=(show ∃t,u=Value.bytes b t from r);cases e;rfl
 | flt b=>obtain⟨t,e⟩:=(show ∃t,u=Value.float b t from r);cases e;rfl
 | ref a=>cases(show u=Value.ref a from r);rfl
 | ty n=>cases(show u=Value.type n from r);rfl
section
variable {P:Program} {w:World} {H H':Hp} {h h':Heap} {a C dx:Addr} {fs fs':List (Str×V)}
theorem WX (hok:HOk P w H h)(e:H a=some (.ins C dx fs)):∃mA,ObjM h a dx C mA/\(∀f,RelO (fs.lookup f) (mA f))/\PySem.Within mA (fs.map (·.1))/\fs.length<=1000/\H dx=some (.own a):=by
 obtain⟨d,z,J,U,mA,n,r,q⟩:=(show ObjOk P w H h a (.ins C dx fs) from hok a _ e)
 exact⟨mA,⟨U,n,J⟩,r,q,z,d⟩
end
structure Cls (K:W.Frag)(C:Addr):Prop where
 pg:W.plainGet K C Str.empty=true
 hd:W.hasDictIn K C=true
 po:W.plainOver K C=true
 sa:W.findIn K (.ref C) "__setattr__"=some (some (.builtin "object.__setattr__"))
theorem Cls.get (c:Cls K C)(f):W.plainGet K C f=true:=c.pg
def NoAttr (K:W.Frag)(C:Addr)(f:Str):Prop:=W.findIn K (.ref C) f=some none
theorem NoAttr.taker {f}(n:NoAttr K C f):W.takerIn K C f=some none:=by
 unfold W.takerIn;rw[show W.findIn K (.ref C) f=some none from n];rfl
structure BF (K:W.Frag)(C:Addr)(m:Str)(f:Addr):Prop where
 at_:W.findIn K (.ref C) m=some (some (.ref f))
 fn:W.isFn K (.ref f)=true
 kp:W.keepIn K (.ref f)=true
section
variable {X:Cx} {pins:List (Addr×Obj)} {σ:St} {H:Hp} {s:Shared} {a C dx:Addr} {fs:List (Str×V)} {f:Str} {v:V} {A:Around} {E:Value->Shared->Prop}
theorem Gr {b}{Q}(I:Inv X pins σ H s)(e:H a=some (.ins C dx fs))(c:Cls X.K C)(n:NoAttr X.K C f)(l:fs.lookup f=some v)
  (h:∀u s',Inv X pins σ H s'->RelV v u->Q u s'):wpAny (model X.prog X.w) A (getAttr (.ref a) f b) Q E s:=by
 obtain ⟨mA,O,r,_,_,_⟩:=WX I.hok e;obtain ⟨u,U,J⟩:=RelO.some_of (v:=v) (o:=mA f) (by rw [<-l];exact r f);exact Pa I.kIn O (c.get f) c.hd n U (Kt J) (h u _ (I.tok _) J)
theorem Js {m}{g}{Q}(I:Inv X pins σ H s)(e:H a=some (.ins C dx fs))(c:Cls X.K C)(k:BF X.K C m g)(l:fs.lookup m=none)
  (h:Q (.ref g,[.ref a]) s):wpAny (model X.prog X.w) A (getMethod (.ref a) m pl) Q E s:=by
 obtain ⟨mA,O,r,_,_,_⟩:=WX I.hok e;have hn:mA m=none:=RelO.none_of (by rw [<-l];exact r m);exact LW I.kIn O (c.get m) k.at_ k.fn hn h
theorem U5 {y}{Q}(I:Inv X pins σ H s)(e:H a=some (.ins C dx fs))(c:Cls X.K C)(n:NoAttr X.K C f)(hl:fs.length<1000)(ry:RelV y u)
  (h:∀s',Inv X pins σ (upd H a (.ins C dx (QI f y fs))) s'->Q () s'):wpAny (model X.prog X.w) A (setAttr (.ref a) f u) Q E s:=by
 obtain⟨mA,O,r,wi,_,U⟩:=WX I.hok e;have hz:(fs.map (·.1)).length<=sizeLine:=by rw[D1,Cb];omega
 refine B5 I.kIn O c.sa c.po n.taker c.hd wi hz λh' J sb=>h _ ?_
 have hd:∃o,h'.get? dx=some o:=let ⟨o,_,_,e',_⟩:=J.ns;⟨o,e'⟩;refine I.write (x:=a) (e:=dx) (by rw[e];exact True.intro) (.inr U) (λb q hb z=>(sb.2 b hb).trans z) hd ?_;refine⟨by rw[Qj O.ne];exact U,?_,O.ne,J.obj,_,J.ns,λg=>?_,λg hg=>?_⟩
 ·have:=Wx f y fs;omega
 ·show RelO ((QI f y fs).lookup g) (if g=f then some u else mA g);rw[Ww];by_cases q:g=f
  ·rw[DZ q,DZ q];exact ry
  ·rw[DY q,DY q];exact r g
 ·by_cases q:g=f
  ·rw[q];exact(Wl f y fs).1
  ·refine(Wl f y fs).2 g (wi g λz=>hg ?_);show(if g=f then some u else mA g)=none;rw[DY q];exact z
theorem Inv.made (I:Inv X pins σ H s):Inv X pins σ (upd (upd H s.heap.objs.size (.own (s.heap.objs.size+1))) (s.heap.objs.size+1) (.ins C s.heap.objs.size []))
  { s with heap:=(s.heap.push W.emptyDict).push (W.instObj C s.heap.objs.size) }:=by
 have e1:(s.heap.push W.emptyDict).get? s.heap.objs.size=some W.emptyDict:=Cz s.heap rfl;have e2:((s.heap.push W.emptyDict).push (W.instObj C s.heap.objs.size)).get? (s.heap.objs.size+1)=some (W.instObj C s.heap.objs.size):=by
  have:=Cz (s.heap.push W.emptyDict) (o:=W.instObj C s.heap.objs.size) rfl;rwa [Heap.size_push] at this
 have e3:(s.heap.push W.emptyDict).Ns s.heap.objs.size (λ_=>none):=⟨W.emptyDict,#[],_,e1,rfl,(λe he=>absurd he (by simp)),λ_=>rfl⟩
 have I1:=I.laid (a:=s.heap.objs.size) (o:=.own (s.heap.objs.size+1)) (h':=s.heap.push W.emptyDict) (t':=s.toks) (λb u q=>D8 _ q) (D2 _) ⟨_,e1⟩;refine I1.laid (a:=s.heap.objs.size+1) (o:=.ins C s.heap.objs.size []) (t':=s.toks) (λb u q=>D8 _ q) (Nat.le_of_eq (Heap.size_push _ _)) ?_;have J:s.heap.objs.size≠s.heap.objs.size+1:=Cd (Ao _);refine⟨by rw[Qj J,Qa],CF _,J,e2,λ_=>none,(Heap.Ns1.of_empty e3).at λo q=>D8 _ q,λ_=>True.intro,λy U=>absurd rfl U⟩
theorem Nx {e}{f}{Q}(hb:attributeBase e f env (eval e env)=eval e env)
  (h:wpAny (model prog w) A (eval e env) (λo J=>wpAny (model prog w) A (getAttr o f true) Q E J) E s):wpAny (model prog w) A (eval (.Attribute e f pos) env) Q E s:=
 Attribute_any_ h (by rw[arm_eval_Attribute,hb])
end
def B1 (K:W.Frag)(ta:TE)(f:Str):TE:=λσ H Q=>ta σ H λx H1=>∃a C dx fs v,x=.ref a/\H1 a=some (.ins C dx fs)/\Cls K C/\NoAttr K C f/\fs.lookup f=some v/\Q v H1
def B6 (K:W.Frag)(ta tv:TE)(f:Str):TS:=λD σ H=>tv σ H λy H1=>ta σ H1 λx H2=>∃a C dx fs,x=.ref a/\H2 a=some (.ins C dx fs)/\Cls K C/\NoAttr K C f/\fs.length<1000 /\
 D.nx σ (upd H2 a (.ins C dx (QI f y fs)))
section
variable {X:Cx} {o e value:Expr} {f:Str} {pos pos' tpos:Pos} {ta tv:TE}
theorem SW (he:PE X e ta)(hb:attributeBase e f X.env (eval e X.env)=eval e X.env):PE X (.Attribute e f pos) (B1 X.K ta f):=by
 intro pins s σ H Q I h;refine Nx hb (A4 (he pins s σ H _ I h) λu s1 ⟨x,H1,I1,J,a,C,dx,fs,v,ex,ea,c,n,l,q⟩=>?_);subst ex;obtain rfl:u=Value.ref a:=J;exact Gr I1 ea c n l λu' s2 I2 U=>⟨v,H1,I2,U,q⟩
theorem SN (ha:PE X o ta)(hv:PE X value tv)(hs:swapsWith value (some (.Attribute o f pos')) pos.line X.env=pure false):PS X (.Assign [.Attribute o f pos'] value pos) (B6 X.K ta tv f):=by
 intro pins s σ H D I h;refine AH (A4 (hv pins s σ H _ I h) λu s1 ⟨y,H1,I1,ry,q⟩=>A4 (ha pins s1 σ H1 _ I1 q) λJ s2 ⟨x,H2,I2,rx,a,C,dx,fs,ex,ea,c,n,l,U⟩=>?_) hs;subst ex;obtain rfl:J=Value.ref a:=rx;exact U5 I2 ea c n l ry λs3 I3=>⟨σ,_,I3,U⟩
end
section
variable {X:Cx} {pins:List (Addr×Obj)} {σ:St} {H:Hp} {s:Shared} {A:Around} {E:Value->Shared->Prop} {Q:Value->Shared->Prop} {c:Value} {b:Bool}
inductive TyOf (K)(H:Hp):V->Value->Prop where
 | non:TyOf K H .non (.type "NoneType")
 | bl (x:Bool):TyOf K H (.bl x) (.type "bool")
 | int (i:Int):TyOf K H (.int i) (.type "int")
 | str (x:Str):TyOf K H (.str x) (.type "str")
 | flt (x:UInt64):TyOf K H (.flt x) (.type "float")
 | lst {a:Addr} {xs:List V} (e:H a=some (.lst xs)):TyOf K H (.ref a) (.type "list")
 | frz {a:Addr} {o:Obj} {xs:List V} (e:H a=some (.frz o (.lst xs))):TyOf K H (.ref a) (.type "list")
 | tup {a:Addr} {xs:List V} (e:H a=some (.tup xs)):TyOf K H (.ref a) (.type "tuple")
 | dK {a:Addr} {kvs:List (Key×V)} (e:H a=some (.dK kvs)):TyOf K H (.ref a) (.type "dict")
 | dT {a:Addr} {kvs:List (List Key×V)} (e:H a=some (.dT kvs)):TyOf K H (.ref a) (.type "dict")
 | ins {a C dx:Addr} {fs:List (Str×V)} (e:H a=some (.ins C dx fs)) (cl:Cls K C) (ha:W.findIn K (.ref C) "__class__"=some (some (.builtin "object.__class__")))
   (hn:W.specialIn K (.builtin "object.__class__") "__get__"=some (some (.builtin "getset_descriptor.__get__"))) (htk:W.takesIn K (.builtin "object.__class__")=some true)
   (hm:W.mroIn K C (.type "object")=some true):TyOf K H (.ref a) (.ref C)
theorem N1 {x}{t}(I:Inv X pins σ H s)(rx:RelV x u)(ty:TyOf X.K H x t)(e:W.kitOne X.K t c=some b)(h:∀tk,Q (.bool b) { s with toks:=tk }) :
  wpAny (model X.prog X.w) A (call (.builtin "isinstance") [u,c]) Q E s:=by
 cases ty with
 | non=>cases(show u=Value.none from rx);exact W.kia_one W.kitx_none I.kIn True.intro e (λz=>nomatch z) h
 | bl y=>cases(show u=Value.bool y from rx);exact W.kia_one W.kitx_bool I.kIn True.intro e (λz=>nomatch z) h
 | int i=>obtain⟨t,q⟩:=(show ∃t,u=Value.int i t from rx);cases q;exact W.kia_one W.kitx_int I.kIn True.intro e (λz=>nomatch z) h
 | str y=>obtain⟨t,q⟩:=(show ∃t,u=Value.str y t from rx);cases q;exact W.kia_one W.kitx_str I.kIn True.intro e (λz=>nomatch z) h
 | flt y=>obtain⟨t,q⟩:=(show ∃t,u=Value.float y t from rx);cases q;exact W.kia_one W.kitx_float I.kIn True.intro e (λz=>nomatch z) h
 | @lst a xs ea=>
  cases(show u=Value.ref a from rx);obtain⟨_,_,n,_,h1⟩:=(show ObjOk X.prog X.w H s.heap a (.lst xs) from I.hok a _ ea)
  exact W.kia_one W.kitx_list I.kIn ⟨_,h1,rfl⟩ e (λz=>nomatch z) h
 | @frz a ob xs ea=>
  cases(show u=Value.ref a from rx);obtain⟨_,_,_,n,_,h1⟩:=(show ObjOk X.prog X.w H s.heap a (.frz ob (.lst xs)) from I.hok a _ ea)
  exact W.kia_one W.kitx_list I.kIn ⟨_,h1,rfl⟩ e (λz=>nomatch z) h
 | @tup a xs ea=>
  cases(show u=Value.ref a from rx);obtain⟨_,_,_,p⟩:=(show ObjOk X.prog X.w H s.heap a (.tup xs) from I.hok a _ ea)
  obtain⟨o,h1,h2,_⟩:=p;exact W.kia_one W.kitx_tuple I.kIn ⟨o,h1,h2⟩ e (λz=>nomatch z) h
 | @dK a kvs ea=>
  cases(show u=Value.ref a from rx);obtain⟨_,_,vs,_,p⟩:=(show ObjOk X.prog X.w H s.heap a (.dK kvs) from I.hok a _ ea)
  obtain⟨o,es,ep,h1,h2,_⟩:=p;exact W.kia_one W.kitx_dict I.kIn ⟨o,h1,h2.1⟩ e (λz=>nomatch z) h
 | @dT a kvs ea=>
  cases(show u=Value.ref a from rx);obtain⟨_,_,xs,_,o,es,ep,h1,h2,_⟩:=(show ObjOk X.prog X.w H s.heap a (.dT kvs) from I.hok a _ ea)
  exact W.kia_one W.kitx_dict I.kIn ⟨o,h1,h2.1⟩ e (λz=>nomatch z) h
 | @ins a C dx fs ea cl ha hn U hm=>
  cases(show u=Value.ref a from rx);obtain⟨mA,O,_⟩:=WX I.hok ea;obtain⟨od,J,_⟩:=O.look;exact W.kia_one (W.kitx_own (cl.get _) cl.hd ha hn U hm) I.kIn J e (λz=>nomatch z) h
end
structure Room (k:Nat)(A:Around):Prop where
 hd:A.handled=none
 dp:A.depth+3*k+5<recursionLimit
 un:A.units+16*k+200<cLine
theorem Room.mono {k:Nat}(r:Room k A)(h:j<=k):Room j A:=⟨r.hd,by have:=r.dp;omega,by have:=r.un;omega⟩
theorem GG {k:Nat}(h:Room k A)(e:j<=k:=by decide):Room j A:=h.mono e
theorem Room.deeper {k:Nat}(r:Room (k+1) A)(env):Room k (A.deeper env):=
 ⟨r.hd,by have:=r.dp;show A.depth+1+3*k+5<_;omega,by have:=r.un;show A.units+3+16*k+200<_;omega⟩
theorem Jj:(A.under (.builtin "type.__call__" ⟨.ref C::us,kw⟩)).depth=A.depth+1:=by
 first|rfl|simp[Around.under,Code.weight,Code.isCreation,Code.isGuard,Code.isCaller,Code.frames,Code.isFrame,guardIds]
theorem Ji:(A.under (.builtin "type.__call__" ⟨.ref C::us,kw⟩)).units=A.units+1:=by
 first|rfl|simp[Around.under,Code.cUnits,Code.frames,Code.isFrame]
theorem Room.make {k:Nat}(r:Room (k+1) A)(C)(us)(kw:List (Str×Value)):Room k (A.under (.builtin "type.__call__" ⟨.ref C::us,kw⟩)):=
 ⟨r.hd,by have:=r.dp;rw[Jj];omega,by have:=r.un;rw[Ji];omega⟩
theorem Room.depth {k:Nat}(r:Room k A):A.depth<recursionLimit:=by have:=r.dp;omega
theorem Room.units {k:Nat}(r:Room k A):A.units+64<cLine:=by have:=r.un;omega
def JO:TA:=λ_ H Q=>Q [] H
def GR (ta:TE)(tr:TA):TA:=λσ H Q=>ta σ H λx H1=>tr σ H1 λxs H2=>Q (x::xs) H2
section
variable {X:Cx} {e:Expr} {es:List Expr} {te:TE} {t:TA} {pos:Pos}
theorem Qz:PA X [] JO:=λ_ _ _ _ H Q I h=>Calls.spliced_nil ⟨[],H,I,.nil,h⟩
theorem Qp (ha:PE X e te)(hr:PA X es t)(hs:starEach (e::es) X.env=(false,eval e X.env)::starEach es X.env:=by rfl):PA X (e::es) (GR te t):=by
 intro pos pins s σ H Q I h;rw[hs];show wpAny _ _ (spliced ((false,eval e X.env)::backTo pos (starEach es X.env))) _ _ s;refine Calls.spliced_cons (A4 (ha pins s σ H _ I h) λu s1 ⟨x,H1,I1,r1,J⟩=>?_);exact A4 (hr pos pins s1 σ H1 _ I1 J) λus s2 ⟨xs,H2,I2,r2,U⟩=>⟨x::xs,H2,I2,.cons r1 r2,U⟩
def BY (t:TA):TE:=λσ H Q=>t σ H λxs H1=>xs.length<=sizeLine/\∀p,H1 p=none->Q (.ref p) (upd H1 p (.tup xs))
def Sw (t:TA):TE:=λσ H Q=>t σ H λxs H1=>xs.length<=sizeLine/\∀p,H1 p=none->Q (.ref p) (upd H1 p (.lst xs))
theorem QY {x1}(h:PA X es t):PE X (.Tuple es x1 pos) (BY t):=by
 intro pins s σ H Q I hq;refine wpAny_Tuple_spliced (A4 (h pos pins s σ H _ I hq) fun us J ⟨xs,H1,U,r,z,q⟩=>⟨by rw [<-r.length];exact z,?_⟩);have hf:H1 J.heap.objs.size=none:=U.hok.fresh (D2 _);refine ⟨.ref J.heap.objs.size,upd H1 J.heap.objs.size (.tup xs),U.laid (t':=J.toks) (fun b u e=>D8 _ e) (D2 _) ?_,rfl,q _ hf⟩;exact ⟨z,us,r,⟨_,Cz _ rfl,rfl,_,rfl⟩⟩
theorem Qn (h:PA X es t):PE X (.List es pos) (Sw t):=by
 intro pins s σ H Q I hq;refine wpAny_List_spliced (A4 (h pos pins s σ H _ I hq) fun us J ⟨xs,H1,U,r,z,q⟩=>⟨by rw [<-r.length];exact z,?_⟩);have hf:H1 J.heap.objs.size=none:=U.hok.fresh (D2 _);refine ⟨.ref J.heap.objs.size,upd H1 J.heap.objs.size (.lst xs),U.laid (t':=J.toks) (fun b u e=>D8 _ e) (D2 _) ?_,rfl,q _ hf⟩;exact ⟨z,us,0,r,Cz _ rfl⟩
end
abbrev Sp:=List V->Hp->VK->XK->Prop
abbrev CXT:=List Env->Hp->Shared->XK->Value->Shared->Prop
structure Env0 (P:Program)(w:World)(K:W.Frag)(mg:Str->Option Value)(base:Heap)(A:Around)(outer:List Env)(s:Shared)(H:Hp):Prop where
 frames:A.frames=some outer
 mod:Mod K mg base
 bs:∀b o,base.get? b=some o->s.heap.get? b=some o/\H b=none
 bsz:base.objs.size<=s.heap.objs.size
 funs:s.heap.FunFrames base outer
 frf:∀b∈IA outer,H b=none
 hok:HOk P w H s.heap
 bare:AllBare s.gens
def CE (outer:List Env)(P:Program)(w:World)(H:Hp)(s:Shared)(Q:VK)(u:Value)(s':Shared):Prop:=
 ∃v H',s'.os=s.os/\AllBare s'.gens/\Un (IA outer) [] H H' s.heap s'.heap/\HOk P w H' s'.heap/\RelV v u/\Q v H'
def CR (CX:CXT)(outer:List Env)(P:Program)(w:World)(H:Hp)(s:Shared)(Q:VK)(E:XK)(r:Result)(s':Shared):Prop:=
 match r with
 | .ok (.ret u)=>CE outer P w H s Q u s'
 | .ok _=>False
 | .error e=>CX outer H s E e s'
structure FnOk (P:Program)(w:World)(K:W.Frag)(mg:Str->Option Value)(base:Heap)(CX:CXT)(k:Nat)(f:Addr)(fd:FuncData)(ps:List Str)(sp:Sp):Prop where
 len:∀vs H Q E,sp vs H Q E->vs.length=ps.length
 run:∀(A:Around) (outer:List Env) (s:Shared) (H:Hp) (args:Args) (us:List Value) (vs:List V) (Q:VK) (E:XK),Room k A->Env0 P w K mg base A outer s H->BindsTo s fd args (ps.zip us)->Vals vs us->sp vs H Q E ->
  codeAny (model P w) A (.call (.ref f) args) (CR CX outer P w H s Q E) s
theorem FnOk.imp {CX}{k:Nat}{sp sp'}(F:FnOk P w K mg base CX k f fd ps sp)
  (h:∀vs H Q E,sp' vs H Q E->sp vs H Q E):FnOk P w K mg base CX k f fd ps sp':=
 ⟨λvs H Q E q=>F.len vs H Q E (h _ _ _ _ q),λA outer s H J us vs Q E hr he U hv hs=>F.run A outer s H J us vs Q E hr he U hv (h _ _ _ _ hs)⟩
theorem Env0.make {H}(e:Env0 P w K mg base A outer s H)(C)(us)(kw:List (Str×Value)) :
  Env0 P w K mg base (A.under (.builtin "type.__call__" ⟨.ref C::us,kw⟩)) outer s H:=⟨by first|exact e.frames|(simpa[Around.under,Code.envs,Code.isFrame,pushEnvs] using e.frames),e.mod,e.bs,e.bsz,e.funs,e.frf,e.hok,e.bare⟩
section
variable {X:Cx} {pins:List (Addr×Obj)} {σ:St} {H:Hp} {s s':Shared}
theorem Inv.env0 (I:Inv X pins σ H s):Env0 X.prog X.w X.K X.mg X.base X.A X.stack s H:=
 ⟨I.ok.frames,I.ok.mod,I.bs,Co I.ok.bsz I.sz,I.stack,I.stkFree,I.hok,I.bare⟩
theorem Inv.after {Q}(I:Inv X pins σ H s)(h:CE X.stack X.prog X.w H s Q u s'):EP X pins σ Q u s':=by
 obtain⟨v,H',os,bare,un,U,r,q⟩:=h;obtain⟨hh,g,d,t,J⟩:=s';obtain rfl:J=s.os:=os;exact⟨v,H',I.call (h':=hh) (g':=g) (d':=d) (t':=t) (ch:=[]) un U bare (λb z=>absurd z (by simp)),r,q⟩
end
def Kb (sp:Sp)(dvs:List V)(E:XK)(t:TA):TE:=λσ H Q=>t σ H λvs H1=>sp (vs++dvs) H1 Q E
def W9 (C:Addr)(m:Str)(sp:Sp)(dvs:List V)(E:XK)(ta:TE)(t:TA):TE:=λσ H Q=>ta σ H λx H1=>∃a dx fs,x=.ref a/\H1 a=some (.ins C dx fs)/\fs.lookup m=none /\
 t σ H1 λvs H2=>sp (x::(vs++dvs)) H2 Q E
def Yt (C:Addr)(sp:Sp)(dvs:List V)(E:XK)(t:TA):TE:=λσ H Q=>t σ H λvs H1=>∀x dx,H1 x=none->H1 dx=none->dx≠x ->
 sp (.ref x::(vs++dvs)) (upd (upd H1 dx (.own x)) x (.ins C dx [])) (λv H2=>v=.non/\Q (.ref x) H2) E
def Binds (K:W.Frag)(fd:FuncData)(ps:List Str)(ds:List Value):Prop:=
 ∀(s:Shared) (us:List Value),K.In s.heap->(us++ds).length=ps.length->BindsTo s fd ⟨us,[]⟩ (ps.zip (us++ds))
theorem Binds.all (h:∀us:List Value,us.length=ps.length->bindArgs fd ⟨us,[]⟩=pure (ps.zip us)):Binds K fd ps []:=λs us _ hl=>by
 rw[Cs] at hl ⊢;exact .of_eq (h us hl)
def ZI (CX:CXT)(X:Cx)(E:XK):Prop:=∀(pins:List (Addr×Obj)) (σ:St) (H:Hp) (s:Shared) (e:Value) (s':Shared),Inv X pins σ H s->CX X.stack H s E e s'->X.xe e s'
section
variable {X:Cx} {CX:CXT} {k:Nat} {f C:Addr} {fd:FuncData} {ps:List Str} {sp:Sp} {dvs:List V} {ds:List Value} {E:XK} {x m:Str} {p pos apos:Pos} {e o:Expr} {es:List Expr} {ta:TE} {t:TA}
theorem U6 {σ}{H}{Q}{vs}(F:FnOk X.prog X.w X.K X.mg X.base CX k f fd ps sp)(hr:Room k X.A)(hb:Binds X.K fd ps ds)(hd:Vals dvs ds)(hx:ZI CX X E)
  (I:Inv X pins σ H s) (r:Vals vs us) (h:sp (vs++dvs) H Q E):wpAny (model X.prog X.w) X.A (call (.ref f) us) (EP X pins σ Q) X.xe s:=by
 have r2:Vals (vs++dvs) (us++ds):=r.append hd;have U:(us++ds).length=ps.length:=by rw [<-r2.length];exact F.len _ _ _ _ h
 refine wpAny_call (C5 (F.run X.A X.stack s H ⟨us,[]⟩ (us++ds) (vs++dvs) Q E hr I.env0 (hb s us I.kIn U) r2 h) λr s' J=>?_);cases r with
 | error e=>exact hx pins σ H s e s' I J
 | ok fl=>
  cases fl with
  | ret u=>exact I.after J
  | next=>exact AS J
  | brk=>exact AS J
  | cont=>exact AS J
theorem G7 (F:FnOk X.prog X.w X.K X.mg X.base CX k f fd ps sp)(hr:Room k X.A)(hg:Gl X x)(hm:X.mg x=some (.ref f))(hk:W.keepIn X.K (.ref f)=true)(hb:Binds X.K fd ps ds)(hd:Vals dvs ds)(hx:ZI CX X E)
  (ha:PA X (e::es) t) (hdb:(x==("__debug__":Str))=false:=by decide) (he:starEach (e::es) X.env=(false,eval e X.env)::starEach es X.env:=by rfl) (hpl:(backTo pos (starEach es X.env)).any (·.1)=false:=by rfl) :
  PE X (.Call (.Name x p) (e::es) [] pos) (Kb sp dvs E t):=by
 intro pins s σ H Q I h;refine Ae (Zo I hg hm ?_ hdb);refine W.callWith_K (h₀:=X.base) I.ok.mod.kin hk (A4 (ha pos pins s σ H _ I h) λus U ⟨vs,H1,J,r,q⟩=>⟨J.kIn,?_⟩) he hpl;exact U6 F hr hb hd hx J r q
theorem Rx (he:PE X o ta)(c:Cls X.K C)(hm:BF X.K C m f)(F:FnOk X.prog X.w X.K X.mg X.base CX k f fd ps sp)(hr:Room k X.A)(hb:Binds X.K fd ps ds)(hd:Vals dvs ds)(hx:ZI CX X E)(ha:PA X (e::es) t)
  (hst:starEach (e::es) X.env=(false,eval e X.env)::starEach es X.env:=by rfl) (hpl:(backTo pos (starEach es X.env)).any (·.1)=false:=by rfl)
  (ht:eval (.Call (.Attribute o m apos) (e::es) [] pos) X.env=(do
   let ov <-eval o X.env
   standAt apos.atName
   let (f,first) <-holding [ov] (getMethod ov m pl)
   callWith pos f first (backTo pos (starEach (e::es) X.env)) (backToKw pos (keywordEach [] X.env))):=by rfl) :
  PE X (.Call (.Attribute o m apos) (e::es) [] pos) (W9 C m sp dvs E ta t):=by
 intro pins s σ H Q I h;refine W.methodCall_KW (pl:=pl) (A4 (he pins s σ H _ I h) λu s1 ⟨x,H1,U,rx,a,dx,fs,ex,ea,l,q⟩=>?_) ht;subst ex;obtain rfl:u=Value.ref a:=rx;refine Js U ea c hm l ?_;refine W.callWith_K (first:=[.ref a]) (h₀:=X.base) I.ok.mod.kin hm.kp (A4 (ha pos pins s1 σ H1 _ U q) λus s2 ⟨vs,H2,J,r,q2⟩=>⟨J.kIn,?_⟩) hst hpl;exact U6 (us:=.ref a::us) (vs:=.ref a::vs) F hr hb hd hx J (.cons rfl r) q2
theorem V3 (he:PE X o ta)(c:Cls X.K C)(hm:BF X.K C m f)(F:FnOk X.prog X.w X.K X.mg X.base CX k f fd ps sp)(hr:Room k X.A)(hb:Binds X.K fd ps ds)(hd:Vals dvs ds)(hx:ZI CX X E)
  (ht:eval (.Call (.Attribute o m apos) [] [] pos) X.env=(do
   let ov <-eval o X.env
   standAt apos.atName
   let (f,first) <-holding [ov] (getMethod ov m pl)
   callWith pos f first (backTo pos (starEach [] X.env)) (backToKw pos (keywordEach [] X.env))):=by rfl) :
  PE X (.Call (.Attribute o m apos) [] [] pos) (W9 C m sp dvs E ta JO):=by
 intro pins s σ H Q I h;refine W.methodCall_KW (pl:=pl) (A4 (he pins s σ H _ I h) λu s1 ⟨x,H1,J,U,a,dx,fs,ex,ea,l,q⟩=>?_) ht;subst ex;obtain rfl:u=Value.ref a:=U;refine Js J ea c hm l ?_;exact W.callWith_K0 (first:=[.ref a]) J.kIn hm.kp (U6 (us:=[.ref a]) (vs:=[.ref a]) F hr hb hd hx J (.cons rfl .nil) q)
structure Mk (K:W.Frag)(C f:Addr):Prop where
 makes:W.makesIn K C=true
 init:W.findIn K (.ref C) "__init__"=some (some (.ref f))
 fn:W.isFn K (.ref f)=true
 kp:W.keepIn K (.ref C)=true
theorem VU {σ}{H}{Q}{vs}(M:Mk X.K C f)(F:FnOk X.prog X.w X.K X.mg X.base CX k f fd ps sp)(hr:Room (k+1) X.A)(hb:Binds X.K fd ps ds)(hd:Vals dvs ds)
  (hx:ZI CX X E) (I:Inv X pins σ H s) (r:Vals vs us)
  (h:∀x dx,H x=none->H dx=none->dx≠x->sp (.ref x::(vs++dvs)) (upd (upd H dx (.own x)) x (.ins C dx [])) (λv H2=>v=.non/\Q (.ref x) H2) E) :
  wpAny (model X.prog X.w) X.A (call (.ref C) us) (EP X pins σ Q) X.xe s:=by
 have hq:=h (s.heap.objs.size+1) s.heap.objs.size (I.hok.fresh (CY _)) (I.hok.fresh (D2 _)) (Cd (Ao _));have U:=Inv.made (C:=C) I;have r2:Vals (V.ref (s.heap.objs.size+1)::(vs++dvs)) (Value.ref (s.heap.objs.size+1)::(us++ds)):=.cons rfl (r.append hd);have hl:(Value.ref (s.heap.objs.size+1)::us++ds).length=ps.length:=by
  have e:=r2.length;rw[F.len _ _ _ _ hq] at e;exact e.symm
 refine wpAny_call (LK (f:=f) I.kIn M.makes M.init (beq_iff_eq.mp M.fn) (C5 (F.run _ X.stack _ _ ⟨Value.ref (s.heap.objs.size+1)::us,[]⟩ (Value.ref (s.heap.objs.size+1)::(us++ds)) _ _ E (hr.make C us [])
  (U.env0.make C us []) (hb _ (Value.ref (s.heap.objs.size+1)::us) U.kIn hl) r2 hq) λr s' J=>?_))
 cases r with
 | error e=>exact hx pins σ _ _ e s' U J
 | ok fl=>
  cases fl with
  | ret u=>
   obtain⟨v,H',I3,rv,ev,q3⟩:=U.after J;subst ev;exact⟨rv,⟨V.ref (s.heap.objs.size+1),H',I3,rfl,q3⟩⟩
  | next=>exact AS J
  | brk=>exact AS J
  | cont=>exact AS J
theorem G5 (M:Mk X.K C f)(F:FnOk X.prog X.w X.K X.mg X.base CX k f fd ps sp)(hr:Room (k+1) X.A)(hg:Gl X x)(hm:X.mg x=some (.ref C))(hb:Binds X.K fd ps ds)(hd:Vals dvs ds)(hx:ZI CX X E)
  (ha:PA X (e::es) t) (hdb:(x==("__debug__":Str))=false:=by decide) (he:starEach (e::es) X.env=(false,eval e X.env)::starEach es X.env:=by rfl) (hpl:(backTo pos (starEach es X.env)).any (·.1)=false:=by rfl) :
  PE X (.Call (.Name x p) (e::es) [] pos) (Yt C sp dvs E t):=by
 intro pins s σ H Q I h;refine Ae (Zo I hg hm ?_ hdb);refine W.callWith_K (h₀:=X.base) I.ok.mod.kin M.kp (A4 (ha pos pins s σ H _ I h) λus U ⟨vs,H1,J,r,q⟩=>⟨J.kIn,?_⟩) he hpl;exact VU M F hr hb hd hx J r q
theorem Lr (M:Mk X.K C f)(F:FnOk X.prog X.w X.K X.mg X.base CX k f fd ps sp)(hr:Room (k+1) X.A)(hg:Gl X x)(hm:X.mg x=some (.ref C))(hb:Binds X.K fd ps ds)(hd:Vals dvs ds)(hx:ZI CX X E)
  (hdb:(x==("__debug__":Str))=false:=by decide):PE X (.Call (.Name x p) [] [] pos) (Yt C sp dvs E JO):=by
 intro pins s σ H Q I h;refine Ae (Zo I hg hm ?_ hdb);exact W.callWith_K0 I.kIn M.kp (VU (us:=[]) M F hr hb hd hx I .nil h)
end
structure QW (N P:List Str)(sc:Scope):Prop where
 kind:sc.kind=.function
 co:sc.isCoroutine=false
 gen:sc.isGenerator=false
 nd:N.Nodup
 pre:N.take P.length=P
 par:∀x∈P,sc.names.lookup x=some .local∨sc.names.lookup x=some .cell
 nofree:∀y∈sc.names,y.2≠.free
theorem KC {kindOf}{x}:∀{binds} {m},(∀v,(x,v)∉binds)->bindL kindOf binds m x=m x
 | [],_,_=>rfl
 | (n,v)::r,m,h=>by
  unfold bindL;rw[KC λw J=>h w (Cu _ J)];split
  ·have:x≠n:=by rintro rfl;exact h v Cw
   simp[this]
  ·rfl
theorem KG {kindOf}{x}:∀{binds} {m},(∀v,(x,v)∉binds)->bindC kindOf binds m x=m x
 | [],_,_=>rfl
 | (n,v)::r,m,h=>by
  unfold bindC;rw[KG λw J=>h w (Cu _ J)];split
  ·rfl
  ·have:x≠n:=by rintro rfl;exact h v Cw
   simp[this]
theorem Wr {kindOf}{x}{v}:∀{P:List Str} {vs} {i:Nat} {m:Str->Option Value},P.Nodup->P[i]?=some x->vs[i]?=some v->kindOf x=some .local ->
  bindL kindOf (P.zip vs) m x=some v
 | [],_,_,_,_,h,_,_=>by simp at h
 | _::_,[],_,_,_,_,h,_=>by simp at h
 | p::P,w::vs,0,m,nd,h1,h2,hk=>by
  simp at h1 h2;subst h1;subst h2;show bindL kindOf ((p,w)::P.zip vs) m p=_;unfold bindL;rw[KC λv J=>(CZ.mp nd).1 (List.of_mem_zip J).1,DZ hk];simp
 | p::P,w::vs,i+1,m,nd,h1,h2,hk=>by
  show bindL kindOf ((p,w)::P.zip vs) m x=_;unfold bindL;exact Wr (i:=i) (CZ.mp nd).2 (by simpa using h1) (by simpa using h2) hk
theorem Ws {kindOf}{x}{v}:∀{P:List Str} {vs} {i:Nat} {m:Str->Option Value},P.Nodup->P[i]?=some x->vs[i]?=some v->kindOf x≠some .local ->
  bindC kindOf (P.zip vs) m x=some v
 | [],_,_,_,_,h,_,_=>by simp at h
 | _::_,[],_,_,_,_,h,_=>by simp at h
 | p::P,w::vs,0,m,nd,h1,h2,hk=>by
  simp at h1 h2;subst h1;subst h2;show bindC kindOf ((p,w)::P.zip vs) m p=_;unfold bindC;rw[KG λv J=>(CZ.mp nd).1 (List.of_mem_zip J).1,DY hk];simp
 | p::P,w::vs,i+1,m,nd,h1,h2,hk=>by
  show bindC kindOf ((p,w)::P.zip vs) m x=_;unfold bindC;exact Ws (i:=i) (CZ.mp nd).2 (by simpa using h1) (by simpa using h2) hk
def start (N:List Str)(vs:List V):St:=vs.map some++List.replicate (N.length-vs.length) none
def Xi (CX:CXT)(P:Program)(w:World)(K:W.Frag)(mg:Str->Option Value)(base:Heap)(N:List Str)(qual:Str)(scope:Scope)(f:Addr)(cd:Value)(A:Around)(outer:List Env)(s:Shared)(H:Hp)(E:XK):Cx where
 prog:=P
 w:=w
 K:=K
 mg:=mg
 base:=base
 A:=A.deeper (envOfC qual scope s.heap.objs.size f cd)
 N:=N
 s₀:=s
 H₀:=H
 env:=envOfC qual scope s.heap.objs.size f cd
 outer:=outer
 stack:=envOfC qual scope s.heap.objs.size f cd::outer
 ex:=[]
 calm:=true
 fn:=λ_=>true
 pn:=[]
 xe:=λe s'=>wpAny (model P w) (A.deeper (envOfC qual scope s.heap.objs.size f cd)) (leaving (envOfC qual scope s.heap.objs.size f cd) e) (λ_ J=>CX outer H s E e J) (λU J=>CX outer H s E U J) s'
theorem Y5 {x}(h:sc.names.lookup x=some .cell):∃c,(cellsFrom n sc.names []).lookup x=some c:=by
 have q:=W.cellsFrom_some sc.names n [] (.inl h);exact Option.isSome_iff_exists.mp q
def ib (P:Program)(w:World)(K:W.Frag)(mg:Str->Option Value)(base:Heap)(N:List Str)(qual:Str)(scope:Scope)(f:Addr)(cd:Value)(A:Around)(outer:List Env)(s:Shared)(H:Hp):Cx where
 prog:=P
 w:=w
 K:=K
 mg:=mg
 base:=base
 A:=A.deeper (envOfC qual scope s.heap.objs.size f cd)
 N:=N
 s₀:=s
 H₀:=H
 env:=envOfC qual scope s.heap.objs.size f cd
 outer:=outer
 stack:=envOfC qual scope s.heap.objs.size f cd::outer
 ex:=[]
 calm:=false
 fn:=λ_=>true
 pn:=[]
 xe:=λ_ _=>False
theorem Jq {N}{s1} 
  (S:QW N ps scope) (e0:Env0 P w K mg base A outer s H) (hl:vs.length=ps.length) (r:Vals vs us)
  (x:InCallC s s.heap.objs.size (bindL (envOfC qual scope s.heap.objs.size f cd).kindOf (ps.zip us) λ_=>none) (cellsFrom (s.heap.objs.size+1) scope.names []) (bindC (envOfC qual scope s.heap.objs.size f cd).kindOf (ps.zip us) λ_=>none) s1) :
  Inv (ib P w K mg base N qual scope f cd A outer s H) [] (start N vs) H s1:=by
 have a5:ps.length<=N.length:=by have:=congrArg List.length S.pre;rw[CC] at this;omega
 obtain⟨h1,tk,rfl,hk⟩:=x.done;have U:∀b:Addr,b∉(ib P w K mg base N qual scope f cd A outer s H).ex:=λb z=>absurd (show b∈([]:List Addr) from z) (by simp)
 refine⟨⟨e0.mod,S.kind,rfl,rfl,D2 _,λy z c h1 h2=>?_,λy J=>?_,λy c _ h=>?_,λz=>Bool.noConfusion (show false=true from z),Around.frames_deeper e0.frames,.inr ⟨rfl,rfl⟩,λb z=>absurd z (U b),e0.bs,e0.bsz,λb _ _=>U b,λb z=>absurd z (U b),e0.funs,e0.frf⟩,
  rfl,e0.bare,Un.kept hk,⟨_,x.toInCall.ns,λi y v h1 h2 h3=>?_⟩,λy c h=>⟨_,x.cell y c h⟩,e0.hok.fresh (D2 _),λy c h=>?_,λp hp=>absurd (show p∈([]:List (Addr×Obj)) from hp) (by simp),e0.hok.kept hk,?_⟩
 ·exact name_of_addr x.apart (Af h1) (Af h2)
 ·have J:scope.names.lookup y=some .cell∨scope.names.lookup y=some .free:=J;rcases J with J|J
  ·exact Y5 J
  ·exact absurd rfl (S.nofree _ (Af J))
 ·exact Ak (x.above y c (Af h))
 ·have hi:i<vs.length:=by
   unfold start at h2;by_cases hi:i<vs.length
   ·exact hi
   ·rw[CG (by simpa using hi)] at h2;rw[List.getElem?_replicate] at h2;split at h2<;>cases h2
  have ha:vs[i]?=some v:=by
   unfold start at h2;rw[CI (by simpa using hi),Ct] at h2;cases e:vs[i]? with
   | none=>rw[e] at h2;cases h2
   | some a=>rw[e] at h2;cases h2;rfl
  obtain⟨u,hu,rv⟩:=r.get ha;have hp:ps[i]?=some y:=by
   rw [<-S.pre,List.getElem?_take_of_lt (by omega)];exact h1
  have a4:ps.Nodup:=by rw [<-S.pre];exact S.nd.sublist (List.take_sublist _ _)
  refine⟨u,rv,?_⟩;rcases S.par y (C6 hp) with k|k
  ·exact .inl ⟨k,Wr a4 hp hu k⟩
  ·obtain⟨c,e⟩:=Y5 (n:=s.heap.objs.size+1) k;refine .inr ⟨.inl k,c,e,?_⟩;have q:=x.cell y c e;rw[Ws a4 hp hu (by show scope.names.lookup y≠_;rw[k];decide)] at q;exact q
 ·exact e0.hok.fresh (Ak (x.above y c (Af h)))
 ·unfold start;show _=N.length;rw[D0,D1,List.length_replicate];omega
theorem N2 {CX}{N}{s1}{H}{E}{vs} 
  (S:QW N ps scope) (hd:A.handled=none) (e0:Env0 P w K mg base A outer s H) (hl:vs.length=ps.length) (r:Vals vs us)
  (x:InCallC s s.heap.objs.size (bindL (envOfC qual scope s.heap.objs.size f cd).kindOf (ps.zip us) λ_=>none) (cellsFrom (s.heap.objs.size+1) scope.names []) (bindC (envOfC qual scope s.heap.objs.size f cd).kindOf (ps.zip us) λ_=>none) s1) :
  Inv (Xi CX P w K mg base N qual scope f cd A outer s H E) [] (start N vs) H s1:=by have J:=Jq S e0 hl r x;have o:=J.ok;exact⟨⟨o.mod,o.kind,o.glob,o.blt,o.above,o.inj,o.has,o.cab,λ_=>hd,o.frames,o.stk,o.exf,o.bs,o.bsz,o.noex,o.exfs,o.funs,o.frf⟩,J.os,J.bare,J.base,J.loc,J.cell,J.free,J.freeC,J.pin,J.hok,J.len⟩
theorem Nj {CX}{k:Nat}{name}{params}{dV kV} 
  {osl} {N ps} {sp} (lk:K.lookup f=some ⟨oc,od,.func (W.fnOf name qual params body scope dV kV doc pm an cdv ct),osl⟩) (hcd:W.codeIn K cdv qual=true) (S:QW N ps scope)
  (len:∀vs H Q E,sp vs H Q E->vs.length=ps.length)
  (hbody:∀(A:Around) (outer:List Env) (s:Shared) (H:Hp) (vs:List V) (Q:VK) (E:XK),Room k (A.deeper (envOfC qual scope s.heap.objs.size f cdv))->sp vs H Q E ->
   ∃t,PSs (Xi CX P w K mg base N qual scope f cdv A outer s H E) body t/\t { nx:=λ_ H'=>Q .non H',rt:=Q } (start N vs) H) :
  FnOk P w K mg base CX (k+1) f (W.fnOf name qual params body scope dV kV doc pm an cdv ct) ps sp:=by
 refine⟨len,λA outer s H a6 us vs Q E hr e0 hb r a4=>?_⟩;have hl:=len _ _ _ _ a4;have KX:K.In s.heap:=e0.mod.kin.keeps λb o e=>(e0.bs b o e).1
 have a5:s.heap.NoLimit:=e0.mod.nolimit.keeps λb o e=>(e0.bs b o e).1
 have U:∀y∈ps.zip us,scope.names.lookup y.1=some .local∨(scope.names.lookup y.1=some .cell/\((cellsFrom (s.heap.objs.size+1) scope.names []).lookup y.1).isSome=true):=λ⟨n,v⟩ hy=>by
  rcases S.par n (List.of_mem_zip hy).1 with q|q
  ·exact .inl q
  ·exact .inr ⟨q,W.cellsFrom_some _ _ _ (.inl q)⟩
 refine codeAny_call_function hr.depth (KX _ _ lk) rfl S.co S.gen rfl (W.codeRec_of KX hcd) (hb _ _ _ _ ?_);refine wpAny_newFunctionEnv_cells S.kind U λenv he s1 x=>?_
 subst he;refine⟨a5.keeps x.toInCall.keep,codeAny_func ?_⟩;obtain⟨t,ht,hq⟩:=hbody A outer s H vs Q E (hr.deeper _) a4;have I:Inv (Xi CX P w K mg base N qual scope f cdv A outer s H E) [] (start N vs) H s1:=N2 S hr.hd e0 hl r x;refine Cf (ht [] s1 (start N vs) H _ I hq) (λfl s' hs=>?_) λe s' hs=>hs
 have fin:∀{σ':St} {H':Hp} {v:V} {u:Value},Inv (Xi CX P w K mg base N qual scope f cdv A outer s H E) [] σ' H' s'->RelV v u->Q v H'->CE outer P w H s Q u s':=
  λ{σ' H' v u} J rv q=>⟨v,H',J.os,J.bare,J.base,J.hok,rv,q⟩
 cases fl with
 | ret u=>
  obtain⟨v,σ',H',J,rv,q⟩:=hs;exact fin J rv q
 | next=>
  obtain⟨σ',H',J,q⟩:=hs;exact fin (v:=V.non) (u:=Value.none) J rfl q
 | brk=>
  obtain⟨_,_,_,q⟩:=hs;exact AS q
 | cont=>
  obtain⟨_,_,_,q⟩:=hs;exact AS q
section
variable {X:Cx} {x:Str} {p pos:Pos} {e:Expr} {es:List Expr} {t:TA} {id T:String} {r:List V->Hp->VK->Prop}
def mK (r:List V->Hp->VK->Prop)(t:TA):TE:=λσ H Q=>t σ H λvs H1=>r vs H1 Q
theorem Qw (hc:CallR X (.builtin id) r)(hg:Gl X x)(hm:X.mg x=none)(hv:bootBuiltins x=some (.builtin id))(ha:PA X (e::es) t)(hn:x≠"__name__":=by decide)(hdb:(x==("__debug__":Str))=false:=by decide)
  (he:starEach (e::es) X.env=(false,eval e X.env)::starEach es X.env:=by rfl) (hpl:(backTo pos (starEach es X.env)).any (·.1)=false:=by rfl):PE X (.Call (.Name x p) (e::es) [] pos) (mK r t):=by
 intro pins s σ H Q I h;refine Ae (Wk I hg hm hv ?_ hn hdb);exact PyProof.Rows.callWith_builtin1 (A4 (ha pos pins s σ H _ I h) λus J ⟨vs,H1,I1,r1,U⟩=>hc pins J σ H1 vs us Q I1 r1 U) he hpl
theorem Qv (hc:CallR X (.type T) r)(hg:Gl X x)(hm:X.mg x=none)(hv:bootBuiltins x=some (.type T))(ha:PA X (e::es) t)(hn:x≠"__name__":=by decide)(hdb:(x==("__debug__":Str))=false:=by decide)
  (he:starEach (e::es) X.env=(false,eval e X.env)::starEach es X.env:=by rfl) (hpl:(backTo pos (starEach es X.env)).any (·.1)=false:=by rfl):PE X (.Call (.Name x p) (e::es) [] pos) (mK r t):=by
 intro pins s σ H Q I h;refine Ae (Wk I hg hm hv ?_ hn hdb);exact AD (A4 (ha pos pins s σ H _ I h) λus J ⟨vs,H1,I1,r1,U⟩=>hc pins J σ H1 vs us Q I1 r1 U) he hpl
end
end L2
variable {g:L2.TG}{c b v:L2.V}{H H' H1 H2 H0:L2.Hp}{Q:L2.VK}{X:L2.Cx}{σ σ0:L2.St}{te ta tl te0 te1 te2:L2.TE}{tb:L2.TS}{vs cvs:List L2.V}{R:L2.It->L2.Hp->Prop}{wi:L2.TI}{CX:L2.CXT}{tt:L2.TT}{kvs:List (L2.Key×L2.V)}{E':L2.XK}
namespace HT
open PyProof.Rows
section
variable {prog:Program} {w:World} {A:Around} {E:Value->Shared->Prop} {s:Shared}
theorem cat_tup {t b}{vs ws}{Q}(ht:IsTup s.heap t vs.toArray)(hb:IsTup s.heap b ws.toArray)(hv:vs≠[])
  (h1:ws=[]->Q (.ref t) s) (h2:ws≠[]->Q (.ref s.heap.objs.size) { s with heap:=s.heap.push { cls:=.type "tuple",data:=.seq (vs++ws).toArray } })
  (hsz:vs.length+ws.length<=sizeLine):wpAny (model prog w) A (binaryOp .Add (.ref t) (.ref b)) Q E s:=by
 obtain⟨⟨cls,dd,data,sl⟩,ho,hc,n,hd⟩:=id ht;obtain⟨⟨a8,a5,a7,a6⟩,J,U,n2,a4⟩:=id hb;simp only at hc hd U a4;subst hc hd U a4;have e:vs.toArray++ws.toArray=(vs++ws).toArray:=by simp
 by_cases hw:ws=[]
 ·exact concat_meets ⟨_,ho,rfl⟩ ⟨_,J,rfl⟩ noFill_tuple_add seq_tuple_add PySem.F.slot_tuple_add PySem.F.entry_tuple_add (PySem.F.args_tuple_add_2 _ _)
   (tuple_addW1 t b vs.toArray ws.toArray n n2 dd a5 sl a6 (by simpa using hv) (by simp[hw])) ⟨ho,J,h1 hw⟩
 ·refine concat_meets ⟨_,ho,rfl⟩ ⟨_,J,rfl⟩ noFill_tuple_add seq_tuple_add PySem.F.slot_tuple_add PySem.F.entry_tuple_add (PySem.F.args_tuple_add_2 _ _)
   (tuple_addW2 t b vs.toArray ws.toArray n n2 dd a5 sl a6 (by simpa using hv) (by simpa using hw) (by rw[CA,CA];exact hsz)) ⟨ho,J,?_⟩
  rw[e];exact h2 hw
def sIx (n d:Nat):Option Int->Nat
 | none=>d
 | some v=>if v<0 then(v+(n:Int)).toNat else min v.toNat n
theorem sIx_none (n d:Nat):sIx n d none=d:=rfl
theorem sIx_nat (n d k:Nat):sIx n d (some (k:Int))=min k n:=by
 show(if(k:Int)<0 then((k:Int)+(n:Int)).toNat else min (k:Int).toNat n)=min k n;rw[DY (by omega),Int.toNat_natCast]
end
end HT
namespace L2
open Spec PyProof.Rows
abbrev TO:=St->Hp->(Option Int->Hp->Prop)->Prop
def PO (X:Cx)(e:Option Expr)(t:TO):Prop:=
 ∀(pins:List (Addr×Obj)) (s:Shared) (σ:St) (H:Hp) (Q:Option Int->Hp->Prop),Inv X pins σ H s->t σ H Q ->
  wpAny (model X.prog X.w) X.A (evalPart e X.env) (λu s'=>∃o H',Inv X pins σ H' s'/\IsPart u o/\Q o H') X.xe s
def GN:TO:=λ_ H Q=>Q none H
def P1 (t:TE):TO:=λσ H Q=>t σ H λx H1=>∃i,x=.int i/\Q (some i) H1
theorem Gp {ns}:∀{us},Vals (ns.map V.int) us->IntsAre us ns:=by
 induction ns with
 | nil=>intro us r;rw[List.map_nil] at r;cases r;exact .nil
 | cons n ns J=>
  intro us r;rw[CQ] at r;cases r with
  | cons r1 r2=>
   obtain⟨t,e⟩:=r1;subst e;exact .cons n t (J r2)
section
variable {X:Cx} {e:Expr} {te:TE} {lo hi:Option Expr} {tl th:TO} {pos p2:Pos}
theorem Q8:PO X none GN:=by
 intro pins s σ H Q I h;rw[evalPart_none];exact D3 ⟨none,H,I,.none,h⟩
theorem QL (h:PE X e te):PO X (some e) (P1 te):=by
 intro pins s σ H Q I J;rw[evalPart_some];refine A4 (h pins s σ H _ I J) λu s1 ⟨x,H1,I1,r1,U⟩=>?_
 obtain⟨i,rfl,q⟩:=U;obtain⟨t,rfl⟩:=r1;exact⟨some i,H1,I1,.int i t,q⟩
def mj (X:Cx)(r:V->Option Int->Option Int->Hp->VK->Prop):Prop:=
 ∀(pins:List (Addr×Obj)) (s:Shared) (σ:St) (H:Hp) (x:V) (v vl vu:Value) (lo hi:Option Int) (sl:Addr) (Q:VK),Inv X pins σ H s->RelV x v->s.heap.IsSliceOf sl vl vu .none->IsPart vl lo->IsPart vu hi->r x lo hi H Q ->
  ∃T id,typeLookup (.type T) "__getitem__"=pure (some (.builtin id))/\s.TypeIs v T/\wpAny (model X.prog X.w) X.A (getItem v (.ref sl)) (EP X pins σ Q) X.xe s
def mz (r:V->Option Int->Option Int->Hp->VK->Prop)(te:TE)(tl th:TO):TE:=λσ H Q=>te σ H λx H1=>tl σ H1 λl H2=>th σ H2 λu H3=>r x l u H3 Q
theorem QJ {r}(hr:mj X r)(he:PE X e te)(hl:PO X lo tl)(hu:PO X hi th):PE X (.Subscript e (.Slice lo hi none p2) pos) (mz r te tl th):=by
 intro pins s σ H Q I h;refine Subscript_ (A4 (he pins s σ H _ I h) λv s1 ⟨x,H1,I1,r1,q1⟩=>?_);refine wpAny_Slice (A4 (hl pins s1 σ H1 _ I1 q1) λvl s2 ⟨l,H2,I2,pl,q2⟩=>A4 (hu pins s2 σ H2 _ I2 q2) λU J ⟨u,H3,I3,pu,q3⟩=>?_);rw[evalPart_none];refine D3 ?_;have I4:Inv X pins σ H3 { J with heap:=J.heap.push { cls:=.type "slice",data:=.fields #[vl,U,.none] } }:=I3.kept (t':=J.toks) λb ob q=>D8 _ q
 obtain⟨T,id,hT,ht,hg⟩:=hr pins { J with heap:=J.heap.push { cls:=.type "slice",data:=.fields #[vl,U,.none] } } σ H3 x v vl U l u J.heap.objs.size Q I4 r1 (Heap.IsSliceOf.new ..) pl pu q3;show wpAny (model X.prog X.w) X.A (subscriptTail e (.Slice lo hi none p2) v (.ref J.heap.objs.size)) (EP X pins σ Q) X.xe { J with heap:=J.heap.push { cls:=.type "slice",data:=.fields #[vl,U,.none] } };exact tail_any (ops:=[.ref J.heap.objs.size,v]) ht hT hg (by with_unfolding_all rfl)
def ZW (xs:List V)(lo hi:Option Int):List V:=(xs.drop (HT.sIx xs.length 0 lo)).take (HT.sIx xs.length xs.length hi-HT.sIx xs.length 0 lo)
theorem Up (xs)(lo hi):(ZW xs lo hi).length<=xs.length:=by
 unfold ZW;rw[CC,Ag];omega
def VX (K:W.Frag):R2:=λx y H Q=>∃a b xs ys,x=.ref a/\y=.ref b/\A9 K H a xs/\A9 K H b ys/\xs≠[]/\xs.length+ys.length<=sizeLine /\
 (ys=[]->Q (.ref a) H)/\(ys≠[]->∀p,H p=none->Q (.ref p) (upd H p (.tup (xs++ys))))
theorem Vals.nil_iff {xs}(r:Vals xs us):us=[]↔xs=[]:=by
 cases r with
 | nil=>simp
 | cons _ _=>simp
theorem RJ:OpR X (binaryOp .Add) (VX X.K):=by
 intro pins s σ H x y v u Q I rx ry h;obtain ⟨a,b,xs,ys,rfl,rfl,ha,hb,hx,U,q1,q2⟩:=h;cases rx;cases ry;obtain ⟨its,r1,p1,_⟩:=I.tuple ha;obtain ⟨J,r2,p2,_⟩:=I.tuple hb;refine HT.cat_tup p1 p2 (fun z=>hx (r1.nil_iff.mp z)) (fun z=>⟨.ref a,H,I,rfl,q1 (r2.nil_iff.mp z)⟩) (fun z=>?_) (by rw [<-r1.length,<-r2.length];exact U);refine ⟨.ref s.heap.objs.size,_,I.laid (t':=s.toks) (o:=.tup (xs++ys)) (fun b ob q=>D8 _ q) (D2 _) ?_,rfl,q2 (fun w=>z (r2.nil_iff.mpr w)) _ (I.hok.fresh (D2 _))⟩;exact ⟨by rw [D0];exact U,_,r1.append r2,IsTup.new _ _⟩
end
def jc (n:Nat)(i:Int):Option Nat:=if 0<=i then(if i<n then some i.toNat else none) else if -(n:Int)<=i then some (i+n).toNat else none
def IL (xs:List α)(i:Int):Option α:=(jc xs.length i).bind λj=>xs[j]?
theorem RV {i:Int}(h:jc n i=some j):seqIndex? i n=some j/\j<n/\-(n:Int)<=i/\i<n:=by
 unfold jc at h;by_cases J:0<=i
 ·rw[DZ J] at h;by_cases h1:i<n
  ·rw[DZ h1] at h;have e:i.toNat=j:=CD h;exact⟨by rw[seqIndex_of J h1,e],by omega,by omega,h1⟩
  ·rw[DY h1] at h;cases h
 ·rw[DY J] at h;by_cases h1:-(n:Int)<=i
  ·rw[DZ h1] at h;have e:(i+n).toNat=j:=CD h;exact⟨by rw[seqIndex_neg (by omega) h1,e],by omega,h1,by omega⟩
  ·rw[DY h1] at h;cases h
theorem VD {xs:List α}{i:Int}{v:α}(h:IL xs i=some v):∃j,seqIndex? i xs.length=some j/\xs[j]?=some v/\j<xs.length/\-(xs.length:Int)<=i/\i<xs.length:=by
 unfold IL at h;cases e:jc xs.length i with
 | none=>rw[e] at h;cases h
 | some j=>
  rw[e] at h;obtain⟨h1,h2,h3,h4⟩:=RV e;exact⟨j,h1,h,h2,h3,h4⟩
theorem QV {xs:List α}{v:α}(h:xs[j]?=some v):IL xs (j:Int)=some v:=by
 have hj:j<xs.length:=(Cg.mp h).1;have e:jc xs.length (j:Int)=some j:=by
  unfold jc;rw[DZ (by omega),DZ (by omega)];simp
 unfold IL;rw[e];exact h
theorem Q5 (xs)(v:α):IL (xs++[v]) (-1)=some v:=by
 have J:(xs++[v]).length=xs.length+1:=by simp
 have e:jc (xs++[v]).length (-1)=some xs.length:=by
  unfold jc;rw[J,DY (by decide),DZ (by omega)]
  congr 1
  omega
 unfold IL;rw[e];show(xs++[v])[xs.length]?=some v;simp
def NA (b:Expr):Prop:=∀o i,subscripted b false o i=operate [o,i] (getItem o i)
def IxR (X:Cx)(r:R2):Prop:=
 ∀(value slice:Expr) (pins:List (Addr×Obj)) (s:Shared) (σ:St) (H:Hp) (x y:V) (v u:Value) (Q:VK),Inv X pins σ H s->RelV x v->RelV y u->r x y H Q ->
  subscripted slice false v u=operate [v,u] (getItem v u)->wpAny (model X.prog X.w) X.A (subscriptTail value slice v u) (EP X pins σ Q) X.xe s
def kA (X:Cx)(id:String)(r:V->List V->Hp->VK->Prop):Prop:=
 ∀(pins:List (Addr×Obj)) (s:Shared) (σ:St) (H:Hp) (x:V) (xs:List V) (v:Value) (us:List Value) (Q:VK),Inv X pins σ H s->RelV x v->Vals xs us->r x xs H Q ->
  wpAny (model X.prog X.w) X.A (call (.builtin id) (v::us)) (EP X pins σ Q) X.xe s
section
variable {X:Cx} {a b:Expr} {ta tb:TE} {pos:Pos}
theorem IxR.or {r r'}(h:IxR X r)(h':IxR X r'):IxR X (λx y H Q=>r x y H Q∨r' x y H Q):=by
 intro value J pins s σ H x y v u Q I rx ry q U;rcases q with q|q
 ·exact h value J pins s σ H x y v u Q I rx ry q U
 ·exact h' value J pins s σ H x y v u Q I rx ry q U
theorem Ez {r}(hr:IxR X r)(ha:PE X a ta)(hb:PE X b tb)(hs:NA b):PE X (.Subscript a b pos) (IS r ta tb):=by
 intro pins s σ H Q I h;exact Subscript_ (HI ha hb I h λv u U x y H2 I2 J ry q=>hr a b pins U σ H2 x y v u Q I2 J ry q (hs _ _))
def Ep (K:W.Frag):R2:=λx y H Q=>∃p xs i v,x=.ref p/\y=.int i/\A6 K H p xs/\IL xs i=some v/\Q v H
def En (K:W.Frag):R2:=λx y H Q=>∃p xs i v,x=.ref p/\y=.int i/\A9 K H p xs/\IL xs i=some v/\Q v H
def Eo:R2:=λx y H Q=>∃z i c,x=.str z/\y=.int i/\z.length<=sizeLine/\IL z.cps.toList i=some c/\Q (.str ⟨#[c]⟩) H
theorem ix_list:IxR X (Ep X.K):=by
 intro value U pins s σ H x y v u Q I rx ry h hs;obtain⟨p,xs,i,z,rfl,rfl,hq,he,q⟩:=h;cases rx;obtain⟨t,rfl⟩:=ry;obtain⟨its,r,pl,hz⟩:=I.list hq;obtain⟨j,h1,h2,h3,h4,h5⟩:=VD he;obtain⟨w,ew,a4⟩:=r.get h2;have hl:=r.length;have hn:=Jl;have fin:EP X pins σ Q w s:=⟨z,H,I,a4,q⟩
 by_cases h0:0<=i
 ·have J:i.toNat=j:=by
   rw[seqIndex_of h0 h5] at h1;exact CD h1
  exact item_listR pl.isList h0 (by omega) (by rw[J];simpa using ew) fin hs
 ·have J:(i+(its.toArray.size:Int)).toNat=j:=by
   rw[seqIndex_neg (by omega) h4] at h1;rw[CA,<-hl];exact CD h1
  exact subscriptTail_builtinR (x:=w) pl.isList.typeIs slot_list_getitem.lookup
   (wpAny_getItem_list_neg (Q:=λr s'=>r=w/\EP X pins σ Q r s') pl.isList (by omega) (by rw[CA]<;>omega) (by omega) (by rw[J];simpa using ew) ⟨rfl,fin⟩) hs
theorem ix_tup:IxR X (En X.K):=by
 intro value J pins s σ H x y v u Q I rx ry h hs;obtain⟨p,xs,i,z,rfl,rfl,hq,he,q⟩:=h;cases rx;obtain⟨t,rfl⟩:=ry;obtain⟨its,r,pl,hz⟩:=I.tuple hq;obtain⟨j,h1,h2,h3,h4,h5⟩:=VD he;obtain⟨w,ew,U⟩:=r.get h2;have hl:=r.length;have hn:=Jl;have fin:EP X pins σ Q w s:=⟨z,H,I,U,q⟩
 exact subscriptTail_builtinR (x:=w) pl.typeIs slot_tuple_getitem.lookup
  (getItem_tuple (j:=j) (Q:=λr s'=>r=w/\EP X pins σ Q r s') pl (by omega) (by omega) (by rw[CA,<-hl];exact h1) (by simpa using ew) ⟨rfl,fin⟩) hs
theorem Hm:IxR X Eo:=by
 intro value J pins s σ H x y v u Q I rx ry h hs;obtain⟨z,i,c,rfl,rfl,hz,he,q⟩:=h;obtain⟨t,rfl⟩:=rx;obtain⟨t',rfl⟩:=ry;obtain⟨j,h1,h2,h3,h4,U⟩:=VD he;have hl:z.cps.toList.length=z.length:=by simp[Str.length]
 rw[hl] at h1 h4 U;have hn:=Jl;exact tail_any (typeIs_str s z t) slot_str_getitem.lookup (getItem_str (c:=c) (by
  have e1:decide (i < -(2 ^ 63:Int))=false:=Ce (by omega);have e2:decide (i≥2 ^ 63)=false:=Ce (by omega);rw[e1,e2,Bool.or_false]) (by rw[h1];simpa using h2) ⟨.str ⟨#[c]⟩,H,I.tok _,⟨_,rfl⟩,q⟩) hs
def O3 (K:W.Frag):R2:=λx y H Q=>Ep K x y H Q∨En K x y H Q∨Eo x y H Q
theorem Hn:IxR X (O3 X.K):=ix_list.or (ix_tup.or Hm)
theorem K1 (lo hi)(n:Nat):(sliceBounds lo hi none n).1=((HT.sIx n 0 lo:Nat):Int)/\(sliceBounds lo hi none n).2.1=((HT.sIx n n hi:Nat):Int)/\(sliceBounds lo hi none n).2.2=1:=by
 refine⟨?_,?_,rfl⟩
 ·cases lo with
  | none=>simp[sliceBounds,HT.sIx]
  | some i=>
   simp only[sliceBounds,HT.sIx,Option.getD_none,show(1:Int) > 0 by decide,if_true];by_cases h:i<0
   ·simp only[h,if_true]<;>omega
   ·simp only[h,if_false]<;>omega
 ·cases hi with
  | none=>simp[sliceBounds,HT.sIx]
  | some i=>
   simp only[sliceBounds,HT.sIx,Option.getD_none,show(1:Int) > 0 by decide,if_true];by_cases h:i<0
   ·simp only[h,if_true]<;>omega
   ·simp only[h,if_false]<;>omega
theorem JQ (its:List Value)(lo hi):slicePick its.toArray lo hi none=((its.drop (HT.sIx its.length 0 lo)).take (HT.sIx its.length its.length hi-HT.sIx its.length 0 lo)).toArray:=by
 obtain⟨h1,h2,J⟩:=K1 lo hi its.toArray.size;unfold slicePick;rw[h1,h2,J];simp only[sliceRange_one,pick_run,CA]<;>rfl
def SH (K:W.Frag):V->Option Int->Option Int->Hp->VK->Prop:=λx lo hi H Q=>∃a xs,x=.ref a/\A6 K H a xs/\∀p,H p=none->Q (.ref p) (upd H p (.lst (ZW xs lo hi)))
theorem B4:mj X (SH X.K):=by
 intro pins s σ H x v vl vu lo hi sl Q I rx hs pl pu h;obtain⟨a,xs,rfl,hx,q⟩:=h;cases rx;obtain⟨its,r,U,hz⟩:=I.list hx;have J:=r.length;refine⟨"list",_,slot_list_getitem.lookup,U.isList.typeIs,?_⟩;refine wpAny_getItem_list_slice U.isList hs pl pu .none (by simp) ?_ (by rw[CA]<;>omega);rw[JQ,<-J];refine⟨.ref s.heap.objs.size,_,I.laid (t':=s.toks) (o:=.lst (ZW xs lo hi)) (λb ob q=>D8 _ q) (D2 _) ?_,rfl,q _ (I.hok.fresh (D2 _))⟩;exact⟨Co (Up xs lo hi) hz,_,0,(r.drop (HT.sIx xs.length 0 lo)).take (HT.sIx xs.length xs.length hi-HT.sIx xs.length 0 lo),Cz _ rfl⟩
def Y0:V->Bool
 | .non=>true
 | .bl _=>true
 | .int _=>true
 | .str _=>true
 | _=>false
def gx:V->V->Bool
 | .non,.non=>true
 | .bl a,.bl b=>a==b
 | .bl a,.int b=>(if a then 1 else 0)==b
 | .int a,.bl b=>a==(if b then 1 else 0)
 | .int a,.int b=>a==b
 | .str a,.str b=>a==b
 | _,_=>false
theorem HB {y x}{v}(ry:RelV y u)(rx:RelV x v)(fy:Y0 y=true)(fx:Y0 x=true):SeqAt.EqAt A s u v (gx y x):=by
 cases y with
 | non=>
  cases ry;cases x with
  | non=>cases rx;exact SeqAt.EqAt.same _
  | bl b=>cases rx;exact SeqAt.EqAt.none_bool b
  | int b=>obtain⟨t,rfl⟩:=rx;exact SeqAt.EqAt.none_int b t
  | str b=>obtain⟨t,rfl⟩:=rx;exact SeqAt.EqAt.none_str b t
  | _=>exact absurd (show false=true from fx) Cy
 | bl a=>
  cases ry;cases x with
  | non=>cases rx;exact SeqAt.EqAt.bool_none a
  | bl b=>cases rx;exact SeqAt.EqAt.bool_bool a b
  | int b=>obtain⟨t,rfl⟩:=rx;exact SeqAt.EqAt.bool_int a b t
  | str b=>obtain⟨t,rfl⟩:=rx;exact SeqAt.EqAt.bool_str a b t
  | _=>exact absurd (show false=true from fx) Cy
 | int a=>
  obtain⟨t',rfl⟩:=ry;cases x with
  | non=>cases rx;exact SeqAt.EqAt.int_none a t'
  | bl b=>cases rx;exact SeqAt.EqAt.int_bool a t' b
  | int b=>obtain⟨t,rfl⟩:=rx;exact SeqAt.EqAt.int_int a t' b t
  | str b=>obtain⟨t,rfl⟩:=rx;exact SeqAt.EqAt.int_str a t' b t
  | _=>exact absurd (show false=true from fx) Cy
 | str a=>
  obtain⟨t',rfl⟩:=ry;cases x with
  | non=>cases rx;exact SeqAt.EqAt.str_none a t'
  | bl b=>cases rx;exact SeqAt.EqAt.str_bool a t' b
  | int b=>obtain⟨t,rfl⟩:=rx;exact SeqAt.EqAt.str_int a t' b t
  | str b=>obtain⟨t,rfl⟩:=rx;exact SeqAt.EqAt.str_str a t' b t
  | _=>exact absurd (show false=true from fx) Cy
 | _=>exact absurd (show false=true from fy) Cy
def Im (x:V)(u:Value):Bool:=match u with
 | .none=>gx .non x
 | .bool b=>gx (.bl b) x
 | .int i _=>gx (.int i) x
 | .str z _=>gx (.str z) x
 | _=>false
theorem L9 {x y}(r:RelV y u)(f:Y0 y=true):Im x u=gx y x:=by
 cases y with
 | non=>cases r;rfl
 | bl b=>cases r;rfl
 | int i=>obtain⟨t,rfl⟩:=r;rfl
 | str z=>obtain⟨t,rfl⟩:=r;rfl
 | _=>exact absurd (show false=true from f) Cy
theorem Y7:∀{xs} {us},Vals xs us->xs.all Y0=true->us.any (Im x)=xs.any λy=>gx y x
 | _,_,.nil,_=>rfl
 | y::xs,u::us,.cons r t,f=>by
  rw[List.all_cons,CV] at f;rw[List.any_cons,List.any_cons,L9 r f.1,Y7 t f.2]
theorem X5 {A}{s}{x}{v}(rx:RelV x v)(fx:Y0 x=true):∀{xs} {us:List Value},Vals xs us->xs.all Y0=true->∀u∈us,SeqAt.EqAt A s u v (Im x u)
 | _,_,.nil,_=>λu J=>by cases J
 | y::xs,u::us,.cons r t,f=>λU J=>by
  rw[List.all_cons,CV] at f;rcases Ca.mp J with rfl|J
  ·rw[L9 r f.1];exact HB r rx f.1 fx
  ·exact X5 rx fx t f.2 U J
def lP (x:V)(xs:List V):Bool:=xs.any λy=>gx y x
def mM (K:W.Frag)(neg:Bool):R2:=λx y H Q=>∃p xs,y=.ref p/\(A6 K H p xs∨A9 K H p xs)/\Y0 x=true/\xs.all Y0=true/\Q (.bl (if neg then !lP x xs else lP x xs)) H
theorem op_in_seq:OpR X (compareOp .In) (mM X.K false):=by
 intro pins s σ H x y v u Q I rx ry h;obtain⟨p,xs,rfl,J,fx,fs,q⟩:=h;cases ry;rcases J with J|J
 ·obtain⟨its,r,pl,hz⟩:=I.list J;refine SeqAt.in_listAt (Im x) pl.isList (λw U=>X5 rx fx r fs w (by simpa using U)) ⟨.bl _,H,I,rfl,?_⟩;rw[show its.toArray.any (Im x)=its.any (Im x) by simp,Y7 r fs];exact q
 ·obtain⟨its,r,pl,hz⟩:=I.tuple J;refine SeqAt.in_tupleAt (Im x) pl (λw U=>X5 rx fx r fs w (by simpa using U)) ⟨.bl _,H,I,rfl,?_⟩;rw[show its.toArray.any (Im x)=its.any (Im x) by simp,Y7 r fs];exact q
theorem op_notIn_seq:OpR X (compareOp .NotIn) (mM X.K true):=by
 intro pins s σ H x y v u Q I rx ry h;obtain⟨p,xs,rfl,J,fx,fs,q⟩:=h;cases ry;rcases J with J|J
 ·obtain⟨its,r,pl,hz⟩:=I.list J;refine SeqAt.notIn_listAt (Im x) pl.isList (λw U=>X5 rx fx r fs w (by simpa using U)) ⟨.bl _,H,I,rfl,?_⟩;rw[show its.toArray.any (Im x)=its.any (Im x) by simp,Y7 r fs];exact q
 ·obtain⟨its,r,pl,hz⟩:=I.tuple J;refine SeqAt.notIn_tupleAt (Im x) pl (λw U=>X5 rx fx r fs w (by simpa using U)) ⟨.bl _,H,I,rfl,?_⟩;rw[show its.toArray.any (Im x)=its.any (Im x) by simp,Y7 r fs];exact q
theorem CallR.or {f}{r r'}(h:CallR X f r)(h':CallR X f r'):CallR X f (λxs H Q=>r xs H Q∨r' xs H Q):=by
 intro pins s σ H xs us Q I rs q;rcases q with q|q
 ·exact h pins s σ H xs us Q I rs q
 ·exact h' pins s σ H xs us Q I rs q
theorem VA:CallR X (.type "list") (λxs H Q=>∃p ys,xs=[.ref p]/\(A6 X.K H p ys∨A9 X.K H p ys)/\∀l,H l=none->Q (.ref l) (upd H l (.lst ys))):=by
 intro pins s σ H xs us Q I r h;obtain⟨p,ys,rfl,hq,q⟩:=h;obtain⟨u,rfl,rx⟩:=ZK r;cases rx;have fin:∀(its:List Value),Vals ys its->ys.length<=sizeLine->∀(h':Heap) (J:Nat),(∀b o',s.heap.get? b=some o'->h'.get? b=some o') ->
   h'.get? s.heap.objs.size=some { cls:=.type "list",dict:=none,data:=.seq its.toArray J,slots:=#[] }->EP X pins σ Q (.ref s.heap.objs.size) { s with heap:=h' }:=λits U hz h' J kp e=>
  ⟨.ref s.heap.objs.size,_,I.laid (t':=s.toks) kp (D2 _) (show ObjOk X.prog X.w _ h' _ (.lst ys) from⟨hz,its,J,U,e⟩),rfl,q _ (I.hok.fresh (D2 _))⟩
 rcases hq with hq|hq
 ·obtain⟨its,U,pl,hz⟩:=I.list hq;have a4:=U.length;obtain⟨o,ho,hc,n,hd⟩:=pl.isList;exact call_list_seq p (.inl rfl) ho hc hd (λh' J kp e=>fin its U hz h' J kp e) (by simp only[CA]<;>omega)
 ·obtain⟨its,U,pl,hz⟩:=I.tuple hq;have a4:=U.length;obtain⟨o,ho,hc,n,hd⟩:=pl;exact call_list_seq p (.inr rfl) ho hc hd (λh' J kp e=>fin its U hz h' J kp e) (by simp only[CA]<;>omega)
theorem JT:CallR X (.type "tuple") (λxs H Q=>∃p ys,xs=[.ref p]/\((A6 X.K H p ys/\∀l,H l=none->Q (.ref l) (upd H l (.tup ys)))∨(A9 X.K H p ys/\Q (.ref p) H))):=by
 intro pins s σ H xs us Q I r h;obtain⟨p,ys,rfl,h⟩:=h;obtain⟨u,rfl,rx⟩:=ZK r;cases rx;rcases h with ⟨J,q⟩|⟨J,q⟩
 ·obtain⟨its,U,pl,hz⟩:=I.list J;have a4:=U.length;refine call_tuple_list pl.isList (λh' kp=>?_) (by simp only[CA]<;>omega);have I1:Inv X pins σ H { s with heap:=h' }:=I.kept (t':=s.toks) kp;have I2:Inv X pins σ (upd H h'.objs.size (.tup ys)) { s with heap:=h'.push { cls:=.type "tuple",data:=.seq its.toArray } }:=
   I1.laid (t':=s.toks) (λb o e=>D8 _ e) (D2 _) (show ObjOk X.prog X.w _ _ _ (.tup ys) from⟨hz,its,U,IsTup.new _ _⟩)
  exact⟨.ref h'.objs.size,_,I2,rfl,q _ (I1.hok.fresh (D2 _))⟩
 ·obtain⟨its,U,pl,hz⟩:=I.tuple J;exact call_tuple_same pl ⟨.ref p,H,I,rfl,q⟩
def lX (K:W.Frag)(T:String)(x:V)(H:Hp):Prop:=match x with
 | .str _=>T="str"
 | .int _=>T="int"
 | .ref p=>(T="list"/\∃xs,A6 K H p xs)∨(T="tuple"/\∃o,K.lookup p=some o/\o.cls=.type "tuple"/\o.dict=none) ∨
   (T="dict"/\((∃kvs,H p=some (.dK kvs))∨∃kvs,H p=some (.dT kvs)))∨(T="set"/\∃S n,H p=some (.set S n))
 | _=>False
theorem So {x}{v}(I:Inv X pins σ H s)(r:RelV x v)(ty:lX X.K T x H) :
  s.TypeIs v T/\∀a,v=.ref a->∃ob,s.heap.get? a=some ob/\ob.dict=none:=by
 cases x with
 | str z=>
  obtain⟨t,rfl⟩:=r;cases(show T="str" from ty);exact⟨typeIs_str s z t,λ_ e=>nomatch e⟩
 | int i=>
  obtain⟨t,rfl⟩:=r;cases(show T="int" from ty);exact⟨typeIs_int s i t,λ_ e=>nomatch e⟩
 | ref p=>
  cases r;rcases ty with ⟨rfl,xs,hq⟩|⟨rfl,o,J,hc,U⟩|⟨rfl,J⟩|⟨rfl,S,n,J⟩
  ·obtain⟨its,_,pl,_⟩:=I.list hq;refine⟨pl.isList.typeIs,λa e=>?_⟩;cases e;obtain⟨o,n,e,c,U,_⟩:=pl;exact⟨o,e,U⟩
  ·refine⟨⟨o,I.kIn p o J,hc⟩,λa e=>?_⟩;cases e;exact⟨o,I.kIn _ o J,U⟩
  ·have z:∃o,s.heap.get? p=some o/\o.ExactDict:=by
    rcases J with ⟨kvs,J⟩|⟨kvs,J⟩
    ·obtain⟨_,_,_,_,o,_,_,e,ex,_⟩:=I.hok p _ J;exact⟨o,e,ex⟩
    ·obtain⟨_,_,_,_,o,_,_,e,ex,_⟩:=I.hok p _ J;exact⟨o,e,ex⟩
   obtain⟨o,e,ex⟩:=z;refine⟨⟨o,e,ex.1⟩,λa e2=>?_⟩;cases e2;exact⟨o,e,ex.2.1⟩
  ·obtain⟨o,_,_,_,e,ex,_⟩:=I.hok p _ J;refine⟨⟨o,e,ex.1⟩,λa e2=>?_⟩;cases e2;exact⟨o,e,ex.2.1⟩
 | _=>exact AS ty
def mL (K:W.Frag)(T:String)(r:V->List V->Hp->VK->Prop)(to:TE)(t:TA):TE:=λσ H Q=>to σ H λx H1=>lX K T x H1/\t σ H1 λxs H2=>r x xs H2 Q
variable {o e:Expr} {es:List Expr} {to:TE} {t:TA} {name:Str} {apos cpos:Pos} {T id:String} {r:V->List V->Hp->VK->Prop}
theorem EA (pa:PlainAttrs T)(slot:Slot T name id)(hty:typeOf (.builtin id)=pure (.type "method_descriptor"))(hm:kA X id r)(ho:PE X o to)(ha:PA X (e::es) t)
  (hbase:attributeBase o name X.env (eval o X.env)=eval o X.env:=by rfl)
  (hfew:((backTo cpos (starEach (e::es) X.env)).all (λx=>!x.1)&&(backToKw cpos (keywordEach [] X.env)).all (λx=>x.1.isSome)
   && decide ((e::es).length+([]:List Keyword).length+(if([]:List Keyword).isEmpty then 0 else 1)<30))=true:=by rfl)
  (hline:(apos.endLine==cpos.line)=true:=by rfl) (hs:starEach (e::es) X.env=(false,eval e X.env)::starEach es X.env:=by rfl) (hplain:(backTo cpos (starEach es X.env)).any (·.1)=false:=by rfl) :
  PE X (.Call (.Attribute o name apos) (e::es) [] cpos) (mL X.K T r to t):=by
 intro pins s σ H Q I h;refine wpAny_Call_method_late hbase hfew hline rfl (A4 (ho pins s σ H _ I h) λv s1 ⟨x,H1,U,r1,ty,q1⟩=>?_);obtain⟨h1,h2⟩:=So U r1 ty;refine⟨T,id,pa,slot,hty,h1,h2,?_⟩;have J:=ha cpos pins s1 σ H1 _ U q1;rw[hs] at J ⊢;refine Calls.callWith_builtin (by show(false||(backTo cpos (starEach es X.env)).any (·.1))=false;rw[hplain]<;>rfl) (Calls.evalArgs_plain ?_);exact A4 J λus s2 ⟨vs,H2,I2,r2,q2⟩=>hm pins s2 σ H2 x vs v us Q I2 r1 r2 q2
end
def nZ (X:Cx)(id:String)(r:V->List V->Hp->VK->Prop):Prop:=
 ∀(pins:List (Addr×Obj)) (s:Shared) (σ:St) (H:Hp) (x:V) (xs:List V) (v:Value) (us:List Value) (Q:VK),Inv X pins σ H s->RelV x v->Vals xs us->r x xs H Q ->
  wpAny (model X.prog X.w) X.A (call (.builtin id) (v::us)) (EP X pins σ Q) X.xe s
theorem Vals.one:∀{x} {us},Vals [x] us->∃u,us=[u]/\RelV x u
 | _,_,.cons r .nil=>⟨_,rfl,r⟩
section
variable {X:Cx} {pins:List (Addr×Obj)} {σ:St} {H:Hp} {s:Shared} {l b:Addr} {xs ys zs:List V}
theorem Inv.lset {its'}{f}(I:Inv X pins σ H s)(hH:H l=some (.lst xs))
  (e:s.heap.get? l=some { cls:=.type "list",data:=.seq its.toArray n }) (hf:f its.toArray=its'.toArray) (hv:Vals ys its') (hz:ys.length<=sizeLine) :
  Inv X pins σ (upd H l (.lst ys)) { s with heap:=s.heap.update l (Obj.mapSeq f),toks:=t' }:=by
 have q:=PySem.IsL.update e f;rw[hf] at q;refine I.write (x:=l) (e:=l) (by rw[hH];exact trivial) (.inl rfl) (λb' u U J=>(Heap.get?_update_other s.heap (Obj.mapSeq f) (CP U)).trans J) ⟨_,q⟩ ?_;exact⟨hz,its',_,hv,q⟩
theorem Inv.lnew (I:Inv X pins σ H s)(hv:Vals ys its)(hz:ys.length<=sizeLine) :
  Inv X pins σ (upd H s.heap.objs.size (.lst ys)) { s with heap:=s.heap.push { cls:=.type "list",data:=.seq its.toArray },toks:=t' }:=
 I.laid (λ_ _ q=>D8 _ q) (D2 _) ⟨hz,its,0,hv,Cz _ rfl⟩
theorem Inv.fresh (I:Inv X pins σ H s):H s.heap.objs.size=none:=I.hok.fresh (D2 _)
theorem Inv.lstM (I:Inv X pins σ H s)(hH:H l=some (.lst xs)):xs.length<=sizeLine/\∃(its:List Value) (n:Nat),Vals xs its/\xs.length=its.length/\s.heap.get? l=some { cls:=.type "list",data:=.seq its.toArray n }:=by
 obtain⟨z,its,n,r,e⟩:=I.hok l _ hH;exact⟨z,its,n,r,r.length,e⟩
theorem LA (h:n<=sizeLine):Builtin.List.listTooLong n=false:=by
 unfold Builtin.List.listTooLong;exact Ce (by omega)
end
section
variable {X:Cx}
def Rg:V->List V->Hp->VK->Prop:=λx vs H Q=>∃l xs y,x=.ref l/\vs=[y]/\H l=some (.lst xs)/\xs.length<sizeLine/\Q .non (upd H l (.lst (xs++[y])))
theorem Qy:nZ X "list.append" Rg:=by
 intro pins s σ H x vs v us Q I U rv h;obtain⟨l,xs,y,rfl,rfl,J,hz,q⟩:=h;cases U;obtain⟨u,rfl,ru⟩:=rv.one;obtain⟨z,its,n,r,hl,e⟩:=I.lstM J;refine call_meets F.slot_list_append ⟨_,e,rfl⟩ F.entry_list_append (F.args_list_append_2 _ _) (PySem.list_append l its.toArray n u (by rw[CA];omega)) ⟨e,?_⟩;refine⟨.non,_,I.lset (its':=its++[u]) J e (by simp) (r.append (.cons ru .nil)) ?_,rfl,q⟩;rw[D0,D6];omega
def Rc:V->List V->Hp->VK->Prop:=λx vs H Q=>∃l b xs zs,x=.ref l/\vs=[.ref b]/\H l=some (.lst xs)/\H b=some (.lst zs)/\xs.length+zs.length<=sizeLine/\Q .non (upd H l (.lst (xs++zs)))
theorem Ko:nZ X "list.extend" Rc:=by
 intro pins s σ H x vs v us Q I rx rv h;obtain⟨l,b,xs,zs,rfl,rfl,hH,hB,hz,q⟩:=h;cases rx;obtain⟨u,rfl,ru⟩:=rv.one;cases ru;obtain⟨z,its,n,r,hl,e⟩:=I.lstM hH;obtain⟨z2,J,n2,r2,a4,e2⟩:=I.lstM hB;have hsz:its.toArray.size+J.toArray.size<=sizeLine:=by rw[CA,CA];omega
 have U:¬(!its.toArray.isEmpty&&Builtin.List.listTooLong (its.toArray.size+J.toArray.size))=true:=by
  rw[LA hsz,Aa];exact Cy
 refine call_meets F.slot_list_extend ⟨_,e,rfl⟩ F.entry_list_extend (F.args_list_extend_2 _ _)
  (AutoSeq1.list_extend_list_list_0 l its.toArray n b J.toArray n2 U (by rw[CA];omega) (by omega)) ⟨e,e2,?_⟩
 refine⟨.non,_,I.lset (its':=its++J) hH e (by simp) (r.append r2) ?_,rfl,q⟩;rw[D0];omega
def Rf:R2:=λx y H Q=>∃l b xs zs,x=.ref l/\y=.ref b/\H l=some (.lst xs)/\H b=some (.lst zs)/\xs.length+zs.length<=sizeLine/\∀p,H p=none->Q (.ref p) (upd H p (.lst (xs++zs)))
theorem S8:OpR X (binaryOp .Add) Rf:=by
 intro pins s σ H x y v u Q I rx ry h;obtain⟨l,b,xs,zs,rfl,rfl,hH,hB,hz,q⟩:=h;cases rx;cases ry;obtain⟨z,its,n,r,hl,e⟩:=I.lstM hH;obtain⟨z2,J,n2,r2,U,e2⟩:=I.lstM hB;refine PySem.P.add_list e e2 ?_ (by rw[CA,CA];omega);have ea:its.toArray++J.toArray=(its++J).toArray:=by simp
 rw[ea];exact⟨.ref _,_,I.lnew (t':=s.toks) (r.append r2) (by rw[D0];omega),rfl,q _ I.fresh⟩
end
end L2
namespace Att
open W Calls PyProof.Rows
theorem WD {P}:∀ns vs,WellAll P h vs (ns.map WData.int)->IntsAre vs ns:=by
 intro ns
 induction ns with
 | nil=>
  intro vs w;rw[List.map_nil] at w;cases w;exact .nil
 | cons n ns J=>
  intro vs w;rw[CQ] at w;cases w with
  | cons a b=>
   cases a;exact .cons _ _ (J _ b)
theorem NJ {l:OpenLaw}(hn:l.most=some n){P:Params}{h:Heap}{args:List WData}{vals:List Value}
  (hpre:l.row.toRowW.claim.pre args=true) (hwl:WellAll P h vals args) :
  ∃a vs ns,vals=[Value.ref a]/\args=[WData.list (ns.map WData.int)]/\h.get? a=some { cls:=.type "list",data:=.seq vs.toArray }/\IntsAre vs ns/\ns.length<=n:=by
 have a4:WShape.hasAll [] args [.list .int]=true:=(pre_splitW hpre).1;have hc:l.pre.holds [] { args:=args }=true:=(pre_splitW hpre).2;obtain⟨d,r,rfl,h1,h2⟩:=hasAllW_cons a4;obtain rfl:=hasAllW_nil h2;obtain⟨xs,rfl,h3⟩:=hasW_list h1;obtain⟨ns,rfl⟩:=items_int h3;have J:ns.length<=n:=by
  unfold OpenLaw.pre at hc;have h4:(WTm.not (.lt (.lit (.int (n:Int))) (.len (.arg 0)))).holds [] { args:=[.list (ns.map .int)] }=true:=by
   have h4:=(holds_andW hc).1;rw[hn] at h4;exact h4
  have h5:=condW_of h4 (w_not (w_lt w_lit (w_len_list (w_arg rfl))));rw[D1] at h5;refine Nat.le_of_not_lt λq=>?_
  have q':(n:Int)<((ns.length:Nat):Int):=by omega
  first
   | (rw[Ck q'] at h5;exact absurd h5 (by decide))
   | (simp at h5;omega)
 cases hwl with
 | cons w1 w2=>
  cases w2;cases w1 with
  | list ho U=>exact⟨_,_,ns,rfl,rfl,ho,WD ns _ U,J⟩
theorem NO (l:OpenLaw)(args):l.row.toRowW.claim.post args (.bool true) args=true:=
 postW_of (r:=l.row.toRowW) (X:=(true==true))
  (show WShape.has [] (.bool true) .bool=true by first|rfl|decide|simp[WShape.has,WShape.arms,WShape.armsAll])
  (show(WTm.eq .res (.lit (.bool true))).value [] { args:=args,res:=some (.bool true),after:=args }=some (.bool (true==true)) from w_eq_bool (w_res rfl) w_lit) rfl
theorem attach_call {l:OpenLaw}{q:Program}{d:DefRec} 
  (hn:l.most=some n) (hdf:d.params.defaults=[])
  (call:∀(w:World) (s₀ J:Shared) (mg mb:Str->Option Value) (fa:Addr) (o:Obj) (pm cd doc:Value) (a:Addr) (vs:List Value) (ns:List Int),
   Ground q loose [] XP w s₀ mg mb J.heap->YP w J.heap ->
   J.heap.get? fa=some o->o.data=.func (docDef d.name d.params d.body d.scope pm cd doc)->J.heap.CodeRec cd d.name->mg d.name=some (.ref fa) ->
   J.heap.get? a=some { cls:=.type "list",data:=.seq vs.toArray }->IntsAre vs ns->ns.length<=n->J.gens=#[] ->
   codeAny (model l.prog w) callerA (.call (.ref fa) ⟨[.ref a],[]⟩) (λr s'=>r=.ok (.ret (.bool true))/\OldK J.heap s'.heap/\s'.os=J.os/\AllBare s'.gens) J) :
  WalkO q loose XP YP l.row.toRowW d [] (λf vs=>PySem.call f vs):=by
 intro w s₀ J mg mb G Y fa o pm cd doc dV kV ho hd a8 hD a9 hg af aa as a4 ae ah a7 ag;obtain rfl:dV=.none:=Dflts.none hD hdf;obtain rfl:kV=.none:=Dflts.noKw hD;obtain⟨a,vs,ns,rfl,rfl,a5,U,a6⟩:=NJ hn a4 a7;refine enter_call (C5 (call w s₀ J mg mb fa o pm cd doc a vs ns G Y ho (fd_plain hd) a8 a9 a5 U a6 hg) λr s' hq=>?_);obtain⟨rfl,h2,h3,h4⟩:=hq;exact⟨.inl ⟨.bool true,.bool true,[],rfl,λ_=>rfl,.bool true,NO l _,λ_=>⟨List.Pairwise.nil,λ_ hm=>(nomatch hm)⟩⟩,h2,h3,h4⟩
end Att
namespace L2
open Spec PyProof.Rows
theorem JY:∀{vs} {ns},IntsAre vs ns->Vals (ns.map V.int) vs
 | _,_,.nil=>.nil
 | _,_,.cons n t h=>.cons ⟨t,rfl⟩ (JY h)
def PH (H:Hp):Prop:=∀b,H b=none∨∃o xs,H b=some (.frz o (.lst xs))
theorem LN {mb}{k:Nat}{fa}{x}{sp}{s₁}{vs}{ns} 
  (KX:K.In s₁.heap) (hns:s₁.heap.Ns mainGlobals mg) (U:s₁.heap.Ns builtinsNs mb) (hbb:∀x:Str,x≠"__name__"->mb x=bootBuiltins x) (hlim:s₁.heap.NoLimit) (hg:s₁.gens=#[])
  (ha:s₁.heap.get? a=some { cls:=.type "list",data:=.seq vs.toArray }) (hi:IntsAre vs ns) (hl:ns.length<=sizeLine) (hr:Room k callerA)
  (F:∀base:Heap,K.In base->base.Ns mainGlobals mg->FnOk P w K mg base CX k fa fd [x] sp) (hbind:∀(s:Shared) (u:Value),BindsTo s fd ⟨[u],[]⟩ [(x,u)])
  (hsp:∀H:Hp,PH H->A6 K H a (ns.map V.int)->sp [.ref a] H (λv _=>v=.bl true) λ_ _ _=>False)
  (hCX:∀H e s',CX [] H s₁ (λ_ _ _=>False) e s'->False) :
  codeAny (model P w) callerA (.call (.ref fa) ⟨[.ref a],[]⟩) (λr s'=>r=.ok (.ret (.bool true))/\OldK s₁.heap s'.heap/\s'.os=s₁.os/\AllBare s'.gens) s₁:=by
 have rv:=JY hi;have a9:=hi.length;have a5:∀H:Hp,PH H->A6 K H a (ns.map V.int)->HOk P w H s₁.heap->(∀b,H b≠none->b=a)->(H a≠none->K.lookup a=none) ->
   codeAny (model P w) callerA (.call (.ref fa) ⟨[.ref a],[]⟩) (λr s'=>r=.ok (.ret (.bool true))/\OldK s₁.heap s'.heap/\s'.os=s₁.os/\AllBare s'.gens) s₁:=by
  intro H hO hS a8 hA hK;have J:∀{b:Addr} {o:Obj},s₁.heap.get? b=some o->H b=none->(Vo s₁.heap H).get? b=some o:=λe n=>LR e n
  have aa:∀{b:Addr} {o:Obj} {es:Array DictEntry} {ep:Nat},s₁.heap.get? b=some o->o.data=.dict es ep->H b=none:=λ{b o es ep} e d=>by
   cases q:H b with
   | none=>rfl
   | some u=>
    have e':b=a:=hA b (by rw[q];simp);subst e';rw[ha] at e;cases e;have d':Data.seq vs.toArray _=Data.dict es ep:=d;cases d'
  have a4:∀{b:Addr} {m:Str->Option Value},s₁.heap.Ns b m->(Vo s₁.heap H).Ns b m:=λ{b m} ⟨o,es,ep,e,d,r⟩=>⟨o,es,ep,J e (aa e d),d,r⟩
  have a7:K.In (Vo s₁.heap H):=λb o e=>J (KX b o e) (by
   cases q:H b with
   | none=>rfl
   | some u=>
    have e':b=a:=hA b (by rw[q];simp);subst e';rw[hK (by rw[q];simp)] at e;cases e)
  have hM:Mod K mg (Vo s₁.heap H):=⟨a7,a4 hns,⟨mb,a4 U,hbb⟩,let ⟨mc,h1,h2⟩:=hlim;⟨mc,a4 h1,h2⟩⟩
  have e0:Env0 P w K mg (Vo s₁.heap H) callerA [] s₁ H:=⟨rfl,hM,λb o e=>RK e,Nat.le_of_eq (N3 _ _),trivial,λb U=>absurd (show b∈([]:List Addr) from U) (by simp),a8,.of_eq hg⟩
  refine C5 ((F _ a7 (a4 hns)).run callerA [] s₁ H ⟨[.ref a],[]⟩ [.ref a] [.ref a] _ _ hr e0 (hbind s₁ (.ref a)) (.cons rfl .nil) (hsp H hO hS)) λr s' h=>?_
  cases r with
  | error e=>exact(hCX H e s' h).elim
  | ok fl=>
   cases fl with
   | next=>exact AS h
   | brk=>exact AS h
   | cont=>exact AS h
   | ret u=>
    obtain⟨v,H',os,bare,un,a6,r',q⟩:=h;have q':v=.bl true:=q;subst q';obtain rfl:u=Value.bool true:=r';refine⟨rfl,OldK.of_keep λb o e=>?_,os,bare⟩;cases q:H b with
    | none=>exact un.keep b o e q (by intro z;exact absurd (show b∈([]:List Addr) from z) (by simp)) (by simp)
    | some u=>
     rcases hO b with z|⟨ob,xs,z⟩
     ·rw[q] at z;cases z
     ·have z2:=un.frzs b ob _ z;obtain⟨e1,_⟩:=a8 b _ z;obtain⟨e2,_⟩:=a6 b _ z2;rw[e] at e1;cases e1;exact e2
 cases hk:K.lookup a with
 | some o=>
  have e:=KX a o hk;rw[ha] at e;cases e;refine a5 (λ_=>none) (λ_=>.inl rfl) (.inr ⟨_,vs.toArray,_,hk,rfl,rfl,rfl,by rw[CA,a9];exact hl,by simpa using rv⟩) (λb u z=>by have z':(none:Option HO)=some u:=z;cases z') (λb z=>absurd rfl z) λz=>absurd rfl z
 | none=>
  refine a5 (λb=>if b=a then some (.frz { cls:=.type "list",data:=.seq vs.toArray } (.lst (ns.map V.int))) else none) (λb=>?_) (.inl (.inr ⟨{ cls:=.type "list",data:=.seq vs.toArray },DZ rfl⟩)) (λb u z=>?_) (λb z=>?_) λ_=>hk
  ·by_cases U:b=a
   ·exact .inr ⟨_,_,DZ U⟩
   ·exact .inl (DY U)
  ·by_cases U:b=a
   ·have z':=(DZ U).symm.trans z;cases z';subst U;exact⟨ha,by rw[D1];exact hl,vs,_,rv,ha⟩
   ·have z':=(DY U).symm.trans z;cases z'
  ·by_cases U:b=a
   ·exact U
   ·exact absurd (DY U) z
theorem walk_of {l:W.OpenLaw}{k:Nat}{q:Program}{d:DefRec}{K:Params->W.Frag}{CX:World->CXT}{sp:World->Sp}{x:Str} 
  (hn:l.most=some n) (hn2:n<=sizeLine) (hdf:d.params.defaults=[]) (hr:Room k callerA)
  (hY:∀(w:World) (h:Heap),YP w h->(K w.params).In h)
  (F:∀(w:World) (mg:Str->Option Value) (fa:Addr) (h:Heap),(K w.params).In h->h.Ns mainGlobals mg->mg d.name=some (.ref fa) ->
   ∃fd:FuncData,(∀(s:Shared) (u:Value),BindsTo s fd ⟨[u],[]⟩ [(x,u)]) /\
    ∀base:Heap,(K w.params).In base->base.Ns mainGlobals mg->FnOk l.prog w (K w.params) mg base (CX w) k fa fd [x] (sp w))
  (hsp:∀(w:World) (H:Hp) (a:Addr) (ns:List Int),ns.length<=n->PH H->A6 (K w.params) H a (ns.map V.int)->sp w [.ref a] H (λv _=>v=.bl true) λ_ _ _=>False)
  (hCX:∀(w:World) (H:Hp) (s:Shared) (e:Value) (s':Shared),CX w [] H s (λ_ _ _=>False) e s'->False) :
  W.WalkO q loose XP YP l.row.toRowW d [] (λf vs=>PySem.call f vs):=by
 refine Att.attach_call hn hdf λw s₀ s₁ mg mb fa o pm cd doc a vs ns G Y ho hd a6 a5 a4 U J hg=>?_
 have KX:=hY w _ Y;obtain⟨fd,hb,hF⟩:=F w mg fa _ KX G.T.g a5;exact LN KX G.T.g G.T.b G.T.builtins G.T.nolimit hg a4 U (Co J hn2) hr hF hb (λH hO hS=>hsp w H a ns J hO hS) λH e s'=>hCX w H s₁ e s'
abbrev Ih:CXT:=λ_ _ _ _ _ _=>False
abbrev E0:XK:=λ_ _ _=>False
theorem Kj:ZI Ih X E0:=λ_ _ _ _ _ _ _ h=>h.elim
structure Fun (K:W.Frag)(x qual:Str)(st:Stmt)(f:Addr)(fd:FuncData):Prop where
 ex:∃(oc:Value) (od:Option Addr) (kV doc pm:Value) (an:Option Addr) (cdv ct:Value) (osl:Array (Option Value)),
  fd=W.fnOf x qual (Zp st) (QN st) (Qm st) .none kV doc pm an cdv ct/\K.lookup f=some ⟨oc,od,.func fd,osl⟩/\W.codeIn K cdv qual=true
 kp:W.keepIn K (.ref f)=true
section
variable {P:Program} {w:World} {K:W.Frag} {mg:Str->Option Value} {base:Heap}
theorem Fun.ok {x}{N}{k:Nat}{sp}(F:Fun K x qual st f fd)(S:QW N ps (Qm st))(len:∀vs H Q E,sp vs H Q E->vs.length=ps.length)
  (hbody:∀(cdv:Value) (A:Around) (outer:List Env) (s:Shared) (H:Hp) (vs:List V) (Q:VK) (E:XK),Room k (A.deeper (envOfC qual (Qm st) s.heap.objs.size f cdv))->sp vs H Q E ->
   ∃t,PSs (Xi Ih P w K mg base N qual (Qm st) f cdv A outer s H E).nox (QN st) t/\t { nx:=λ_ H'=>Q .non H',rt:=Q } (start N vs) H):FnOk P w K mg base Ih (k+1) f fd ps sp:=by
 obtain⟨oc,od,kV,doc,pm,an,cdv,ct,a4,rfl,lk,U⟩:=F.ex;refine Nj lk U S len λA outer s H vs Q E hr J=>?_
 obtain⟨t,h,q⟩:=hbody cdv A outer s H vs Q E hr J;exact⟨t,h.nox,q⟩
theorem Fun.binds {x:Str}(F:Fun K x qual st f fd)
  (h:∀(kV doc pm:Value) (an:Option Addr) (cdv ct:Value) (us:List Value),us.length=ps.length->bindArgs (W.fnOf x qual (Zp st) (QN st) (Qm st) .none kV doc pm an cdv ct) ⟨us,[]⟩=pure (ps.zip us)):Binds K fd ps []:=by
 obtain⟨oc,od,kV,doc,pm,an,cdv,ct,osl,rfl,lk,hcd⟩:=F.ex;exact .all (h kV doc pm an cdv ct)
theorem fun_mk {x}{osl}{kV}(l:K.lookup f=some ⟨oc,od,.func (W.fnOf x qual (Zp st) (QN st) (Qm st) .none kV doc pm an cdv ct),osl⟩)
  (c:W.codeIn K cdv qual=true) (k:W.keepIn K (.ref f)=true):Fun K x qual st f (W.fnOf x qual (Zp st) (QN st) (Qm st) .none kV doc pm an cdv ct):=⟨⟨oc,od,kV,doc,pm,an,cdv,ct,osl,rfl,l,c⟩,k⟩
end
theorem ZV {k:Nat}(hr:Room k A):A.units+1<cLine:=Aq (Nat.add_le_add_left (by decide:1<=64) _) hr.units
theorem Z7 (h:n<=1000):n<sizeLine:=Aq h (by decide)
section
variable {X:Cx}
theorem pv (i:Nat)(hN:X.N[i]?=some x:=by rfl)(hv:lS X.env.scope x:=by first|exact Or.inl rfl|exact Or.inr (Or.inl rfl)|exact Or.inr (Or.inr rfl))(hd:(x==("__debug__":Str))=false:=by decide)
  (hcd:(x==("__classdict__":Str))=false:=by decide):PE X (.Name x pos) (F5 i):=SU hN hv hd hcd
end
def Same (H H':Hp):Prop:=∀b o,H b=some o->H' b=some o
theorem AK (H):Same H H:=λ_ _ h=>h
theorem Same.trans (a:Same H H1)(b:Same H1 H2):Same H H2:=λc o h=>b c o (a c o h)
theorem Same.free (e:Same H H'){l}(h:H' l=Option.none):H l=Option.none:=by
 cases q:H l with
 | none=>rfl
 | some o=>
  rw[e l o q] at h;cases h
theorem Same.seq {xs}(e:Same H H')(h:A6 K H a xs):A6 K H' a xs:=by
 rcases h with (h|⟨o,h⟩)|h
 ·exact .inl (.inl (e _ _ h))
 ·exact .inl (.inr ⟨o,e _ _ h⟩)
 ·exact .inr h
def Bd (n:Nat)(i:Int):Prop:=i.natAbs<2 ^ n
theorem Bd.mono {i:Int}(h:Bd m i)(hl:m<=n):Bd n i:=Cn h (Nat.pow_le_pow_right (by decide) hl)
theorem Bd.mul {i j:Int}(h:Bd m i)(h':Bd n j):Bd (m+n) (i*j):=by
 unfold Bd at *;rw[Aw,Nat.pow_add];exact Nat.mul_lt_mul'' h h'
theorem Bd.le {i j:Int}(h:Bd m j)(hl:i.natAbs<=j.natAbs):Bd m i:=Aq hl h
theorem Bd.bits {i:Int}(h:Bd m i):Builtin.Int.intBits i<=m:=by
 unfold Builtin.Int.intBits;split
 ·exact CF _
 ·rename_i U;have J:i.natAbs≠0:=by
   intro e;apply U;have:i=0:=Int.natAbs_eq_zero.mp e;rw[this];rfl
  have:i.natAbs.log2<m:=(Nat.log2_lt J).mpr h;omega
theorem Bd.log2 {i:Int}(h:Bd m i)(hm:0<m):i.natAbs.log2<m:=by
 rcases Nat.eq_zero_or_pos i.natAbs with h0|hp
 ·rw[h0];simpa using hm
 ·exact(Nat.log2_lt (AC hp)).mpr h
def CMulB (i j:Int):Prop:=Bd 60000 i/\Bd 60000 j
def UV (j:Int):Prop:=j≠0/\Bd 9000 j
section
variable {X:Cx}
theorem CMulB.ok {i j:Int}(h:CMulB i j):IntMulOk i j:=by
 refine IntMulOk.of_bits ?_ ?_
 ·exact Co h.1.bits (by decide)
 ·exact Co h.2.bits (by decide)
theorem op_mulB:OpR X (binaryOp .Mult) (rI CMulB λi j=>.int (i*j)):=lO λ_ _ _ _ _ _ _ hc q=>mul_int q hc.ok
theorem op_fdivB:OpR X (binaryOp .FloorDiv) (rI (λ_ j=>UV j) λi j=>.int (i.fdiv j)):=lO λ_ _ _ _ _ _ _ J q=>floordiv_int J.1 q (.inl (PyProof.noPylong_of_log2 (J.2.log2 (by decide))))
end
def SI (K:W.Frag):List V->Hp->VK->Prop:=λxs H Q=>∃x c t b u,xs=[x,c]/\RelV c u/\(∀u',RelV c u'->u'=u)/\TyOf K H x t/\W.kitOne K t u=some b/\Q (.bl b) H
section
variable {X:Cx}
theorem Bu:CallR X (.builtin "isinstance") (SI X.K):=by
 intro pins s σ H xs us Q I r h;obtain⟨x,c,t,b,u,rfl,rc,U,ty,e,q⟩:=h;obtain⟨u1,u2,rfl,r1,r2⟩:=Ka r;obtain rfl:=U _ r2;exact N1 I r1 ty e λJ=>⟨.bl b,H,I.tok J,rfl,q⟩
end
structure GF (P:Program)(w:World)(K:W.Frag)(mg:Str->Option Value)(base:Heap)(k:Nat)(name:Str)(ps:List Str)(sp:Sp):Prop where
 ex:∃(f:Addr) (fd:FuncData),FnOk P w K mg base Ih k f fd ps sp/\Binds K fd ps []/\W.keepIn K (.ref f)=true/\mg name=some (.ref f)
section
variable {X:Cx} {k:Nat} {name:Str} {ps:List Str} {sp:Sp} {p pos:Pos} {e:Expr} {es:List Expr} {t:TA}
theorem SX (C:GF X.prog X.w X.K X.mg X.base k name ps sp)(hr:Room k X.A)(hg:Gl X name)(ha:PA X (e::es) t)(hdb:(name==("__debug__":Str))=false:=by decide)
  (he:starEach (e::es) X.env=(false,eval e X.env)::starEach es X.env:=by rfl) (hpl:(backTo pos (starEach es X.env)).any (·.1)=false:=by rfl) :
  PE X (.Call (.Name name p) (e::es) [] pos) (Kb sp [] E0 t):=by
 obtain⟨f,fd,F,b,kp,m⟩:=C.ex;exact G7 F hr hg m kp b .nil Kj ha hdb he hpl
end
theorem Qc (h:H p=none)(o):Same H (upd H p o):=λb u q=>by rw[Qj (Qi q h)];exact q
theorem ng:tC v σ H Q=Q v H:=rfl
theorem FE {r}{tb}:IS r ta tb σ H Q=ta σ H λx H1=>tb σ H1 λy H2=>r x y H2 Q:=rfl
theorem Dk {r}:mJ r ta σ H Q=ta σ H λx H1=>r x H1 Q:=rfl
theorem FX {i j:Int}:jb (.int i) (.int j) H Q=Q (.bl (decide (i=j))) H:=by
 have e:decide (V.int i=V.int j)=decide (i=j):=by
  rw[W1,Bool.beq_eq_decide_eq]
 unfold jb;rw[e];exact propext ⟨λh=>h.2,λh=>⟨rfl,h⟩⟩
theorem FI {i j:Int}:jZ (.int i) (.int j) H Q=Q (.bl (!decide (i=j))) H:=by
 have e:decide (V.int i=V.int j)=decide (i=j):=by
  rw[W1,Bool.beq_eq_decide_eq]
 unfold jZ;rw[e];exact propext ⟨λh=>h.2,λh=>⟨rfl,h⟩⟩
theorem Dr {b}{P:Bool->Prop}:(∃k,V.bl b=V.bl k/\P k)=P b:=by
 refine propext ⟨λ⟨k,e,q⟩=>?_,λq=>⟨b,rfl,q⟩⟩;cases e;exact q
theorem F1 {t u}{Q}:KY t u σ H Q=t σ H λc H1=>if c=true then u σ H1 Q else Q false H1:=rfl
theorem Do {t u}{Q}:nA t u σ H Q=t σ H λc H1=>if c=true then Q true H1 else u σ H1 Q:=rfl
theorem FF {t}{Q}:F7 t σ H Q=t σ H λc H1=>Q (!c) H1:=rfl
theorem FU {t}{tb}:nB t ta tb σ H Q=t σ H λc H1=>if c=true then ta σ H1 Q else tb σ H1 Q:=rfl
theorem TV:P3 D σ H=D.nx σ H:=rfl
theorem FA {t u}{D}:W8 t u D σ H=t { D with nx:=u D } σ H:=rfl
theorem PR:BZ te D σ H=te σ H D.rt:=rfl
theorem Sk:P5 te D σ H=te σ H λ_ H1=>D.nx σ H1:=rfl
theorem FT {c}{t u}{D}:JP c t u D σ H=c σ H λb H1=>if b=true then t D σ H1 else u D σ H1:=rfl
theorem F0:VQ te g D σ H=te σ H λx H1=>g x σ H1 D.nx:=rfl
theorem T3 {Q}:XW i v σ H Q=Q (σ.set i (some v)) H:=rfl
theorem FD {ta}{D}:F6 i j ta D σ H=ta σ H λvs H1=>∃v w,vs=[v,w]/\D.nx ((σ.set i (some v)).set j (some w)) H1:=rfl
theorem FH {Q}:JO σ H Q=Q [] H:=rfl
theorem Sl {tr}{Q}:GR ta tr σ H Q=ta σ H λx H1=>tr σ H1 λxs H2=>Q (x::xs) H2:=rfl
theorem Sm {sp}{dvs}{E}{t}:Kb sp dvs E t σ H Q=t σ H λvs H1=>sp (vs++dvs) H1 Q E:=rfl
theorem Dq {r}{t}:mK r t σ H Q=t σ H λvs H1=>r vs H1 Q:=rfl
theorem Fq:BY t σ H Q=t σ H λxs H1=>xs.length<=sizeLine/\∀p,H1 p=none->Q (.ref p) (upd H1 p (.tup xs)):=rfl
theorem FM:Sw t σ H Q=t σ H λxs H1=>xs.length<=sizeLine/\∀p,H1 p=none->Q (.ref p) (upd H1 p (.lst xs)):=rfl
theorem Qq (h:n<=1000):n<=sizeLine:=Ak (Z7 h)
theorem TQ {a}{P:α->Prop}:(∃v,some (some a)=some (some v)/\P v)=P a:=by
 refine propext ⟨λ⟨k,e,q⟩=>?_,λq=>⟨a,rfl,q⟩⟩;cases e;exact q
theorem FQ {a:Int}{P:Int->Prop}:(∃v,[V.int a]=[V.int v]/\P v)=P a:=by
 refine propext ⟨λ⟨k,e,q⟩=>?_,λq=>⟨a,rfl,q⟩⟩;cases e;exact q
theorem Fp {a}{P:V->V->Prop}:(∃v w,[a,b]=[v,w]/\P v w)=P a b:=by
 refine propext ⟨λ⟨k,l,e,q⟩=>?_,λq=>⟨a,b,rfl,q⟩⟩;cases e;exact q
theorem Sd {a b:Int}{P:Int->Int->Prop}:(∃v w,[V.int a,V.int b]=[V.int v,V.int w]/\P v w)=P a b:=by
 refine propext ⟨λ⟨k,l,e,q⟩=>?_,λq=>⟨a,b,rfl,q⟩⟩;cases e;exact q
theorem Same.sqT {xs}(e:Same H H')(h:A9 K H a xs):A9 K H' a xs:=by
 rcases h with (h|⟨o,h⟩)|h
 ·exact .inl (.inl (e _ _ h))
 ·exact .inl (.inr ⟨o,e _ _ h⟩)
 ·exact .inr h
def Td:R2:=λx y H Q=>ja (λi j=>.int (i+j)) x y H Q∨(∃i j,x=.str i/\y=.str j/\i.length+j.length<=sizeLine/\Q (.str (i++j)) H)∨Rf x y H Q
section
variable {X:Cx}
theorem op_addA:OpR X (binaryOp .Add) Td:=op_add.or (op_add_str.or S8)
theorem V2 {x}(hm:X.mg x=none)(hv:bootBuiltins x=some (.type T))(hg:Gl X x:=by rfl)(hn:x≠"__name__":=by decide)(hdb:(x==("__debug__":Str))=false:=by decide):PE X (.Name x pos) (tC (.ty T)):=
 RE hg hm hv rfl hn hdb
end
theorem Zq {k:Int}{xs}(h:A9 K H p xs)(e:IL xs k=some v)(q:Q v H):O3 K (.ref p) (.int k) H Q:=.inr (.inl ⟨p,xs,k,v,rfl,rfl,h,e,q⟩)
theorem QA {k:Int}{xs}(h:A6 K H p xs)(e:IL xs k=some v)(q:Q v H):O3 K (.ref p) (.int k) H Q:=.inl ⟨p,xs,k,v,rfl,rfl,h,e,q⟩
def lp (φ:V->Hp->VK->Prop):Sp:=λvs H Q _=>∃a,vs=[a]/\φ a H Q
def mi (φ:V->V->Hp->VK->Prop):Sp:=λvs H Q _=>∃a b,vs=[a,b]/\φ a b H Q
def mh (φ:V->V->V->Hp->VK->Prop):Sp:=λvs H Q _=>∃a b c,vs=[a,b,c]/\φ a b c H Q
def mf (φ:V->V->V->V->Hp->VK->Prop):Sp:=λvs H Q _=>∃a b c d,vs=[a,b,c,d]/\φ a b c d H Q
theorem Fz {N}{a}:start N [a]=some a::List.replicate (N.length-1) none:=rfl
theorem Fy {N}{a}:start N [a,b]=some a::some b::List.replicate (N.length-2) none:=rfl
theorem Fx {N}{a}:start N [a,b,c]=some a::some b::some c::List.replicate (N.length-3) none:=rfl
theorem Fw {N}{a d}:start N [a,b,c,d]=some a::some b::some c::some d::List.replicate (N.length-4) none:=rfl
theorem Se {t}{xs}{Q}(h:A9 K H p xs)(hl:xs.length=n)(q:t xs σ H Q):Hv K n t (.ref p) σ H Q:=⟨p,xs,rfl,h,hl,q⟩
def Lh (K:W.Frag):List V->Hp->VK->Prop:=λxs H Q=>∃x n,xs=[x]/\Dc K x H n/\Q (.int n) H
theorem Mn:CallR X (.builtin "len") (Lh X.K):=Bt
theorem Q0 {xs}(h:A6 K H p xs)(q:Q (.int xs.length) H):Lh K [.ref p] H Q:=⟨.ref p,xs.length,rfl,.inl ⟨xs,h,rfl⟩,q⟩
theorem T7 {xs}(h:A9 K H p xs)(q:Q (.int xs.length) H):Lh K [.ref p] H Q:=⟨.ref p,xs.length,rfl,.inr ⟨xs,h,rfl⟩,q⟩
theorem FZ {N}{E}:(Xi CX P w K mg base N qual sc f cdv A outer s H E).K=K:=rfl
theorem FN {x}{t}{b}(ty:TyOf K H x t)(e:W.kitOne K t (.type T)=some b)(q:Q (.bl b) H):SI K [x,.ty T] H Q:=
 ⟨x,.ty T,t,b,.type T,rfl,rfl,λ_ h=>h,ty,e,q⟩
theorem FW {i j}:jb (.str i) (.str j) H Q=Q (.bl (decide (i=j))) H:=by
 have e:decide (V.str i=V.str j)=decide (i=j):=by
  by_cases h:i=j
  ·subst h;simp
  ·rw[Ce h];exact Ce λq=>h (V.str.inj q)
 unfold jb;rw[e];exact propext ⟨λh=>h.2,λh=>⟨rfl,h⟩⟩
theorem GI {i j}:jZ (.str i) (.str j) H Q=Q (.bl (!decide (i=j))) H:=by
 have e:decide (V.str i=V.str j)=decide (i=j):=by
  by_cases h:i=j
  ·subst h;simp
  ·rw[Ce h];exact Ce λq=>h (V.str.inj q)
 unfold jZ;rw[e];exact propext ⟨λh=>h.2,λh=>⟨rfl,h⟩⟩
theorem FY {i j}:jb (.bl i) (.bl j) H Q=Q (.bl (decide (i=j))) H:=by
 have e:decide (V.bl i=V.bl j)=decide (i=j):=by cases i<;>cases j<;>rfl
 unfold jb;rw[e];exact propext ⟨λh=>h.2,λh=>⟨rfl,h⟩⟩
theorem FK {i j}:jZ (.bl i) (.bl j) H Q=Q (.bl (!decide (i=j))) H:=by
 have e:decide (V.bl i=V.bl j)=decide (i=j):=by cases i<;>cases j<;>rfl
 unfold jZ;rw[e];exact propext ⟨λh=>h.2,λh=>⟨rfl,h⟩⟩
theorem Zt {xs}{lo hi}(h:A6 K H p xs)(q:∀r,H r=none->Q (.ref r) (upd H r (.lst (ZW xs lo hi)))):SH K (.ref p) lo hi H Q:=⟨p,xs,rfl,h,q⟩
theorem Dm {r}{tl th}:mz r te tl th σ H Q=te σ H λx H1=>tl σ H1 λl H2=>th σ H2 λu H3=>r x l u H3 Q:=rfl
theorem FG {Q}:GN σ H Q=Q none H:=rfl
theorem TU {t}{Q}:P1 t σ H Q=t σ H λx H1=>∃i,x=.int i/\Q (some i) H1:=rfl
theorem Dp {a:Int}{P:Int->Prop}:(∃v,V.int a=V.int v/\P v)=P a:=by
 refine propext ⟨λ⟨k,e,q⟩=>?_,λq=>⟨a,rfl,q⟩⟩;cases e;exact q
theorem BU {ta}:Th ta σ H R=ta σ H λvs H1=>∃j:Int,vs=[.int j]/\-(2 ^ 62)<=j/\j<2 ^ 62/\R (ie 0 j.toNat) H1:=rfl
theorem BQ {j c:Int}{P:Int->Int->Prop}:(∃j' c':Int,[V.int 0,V.int j,V.int c]=[V.int 0,V.int j',V.int c']/\P j' c')=P j c:=by
 refine propext ⟨λ⟨_,_,e,q⟩=>?_,λq=>⟨j,c,rfl,q⟩⟩;cases e;exact q
theorem Fs {r}{to}{t}:mL K T r to t σ H Q=to σ H λx H1=>lX K T x H1/\t σ H1 λxs H2=>r x xs H2 Q:=rfl
theorem BV:Nf K tl σ H R=tl σ H λx H1=>∃a,x=.ref a/\(∃xs,A6 K H1 a xs)/\R (O2 K a) H1:=rfl
theorem Qs {p:Prop}[Decidable p]{A B:Prop}(h:p->A)(h2:¬p->B):if p then A else B:=by
 by_cases c:p
 ·rw[DZ c];exact h c
 ·rw[DY c];exact h2 c
def KN (J:It)(g:TG)(tb:TS)(D:QO)(σ:St)(H1:Hp):Prop:=∃W:Nat->Nat->St->Hp->Prop,(∃m,W 0 m σ H1)/\∀i m σ H,W i m σ H ->
 (J.stop i H/\D.nx σ H)∨(J.go i H/\∃N:St->Hp->Prop,(∀σ' H',N σ' H'->∃m',m'<m/\W (i+1) m' σ' H')/\∀x H',J.yld i H x H'->g x σ H' λU H2=>tb { D with nx:=N,ct:=N,bk:=D.nx } U H2)
theorem Sf:B0 wi g tb D σ H=wi σ H λJ H1=>KN J g tb D σ H1:=rfl
theorem Hz {D}(Pv:Nat->St->Hp->Prop)(h0:Pv 0 σ H)
  (hs:∀i σ H,i<n->Pv i σ H->g (.int (lo+i)) σ H λJ H2=>tb { D with nx:=Pv (i+1),ct:=Pv (i+1),bk:=D.nx } J H2) (hd:∀σ H,Pv n σ H->D.nx σ H):KN (ie lo n) g tb D σ H:=N6 Pv h0 hs hd
inductive D where
 | non|int (i:Int)|str (x:Str)|tup (ds:List D)|lst (ds:List D)
inductive Rep (K)(H):D->V->Prop where
 | non:Rep K H .non .non
 | int (i:Int):Rep K H (.int i) (.int i)
 | bl (c:Bool):Rep K H (.int (if c then 1 else 0)) (.bl c)
 | str (x:Str):Rep K H (.str x) (.str x)
 | tup {p:Addr} {xs:List V} {ds:List D} (h:A9 K H p xs) (hl:ds.length=xs.length) (hr:∀(i:Nat) d x,ds[i]?=some d->xs[i]?=some x->Rep K H d x):Rep K H (.tup ds) (.ref p)
 | lst {p:Addr} {xs:List V} {ds:List D} (h:A6 K H p xs) (hl:ds.length=xs.length) (hr:∀(i:Nat) d x,ds[i]?=some d->xs[i]?=some x->Rep K H d x):Rep K H (.lst ds) (.ref p)
inductive DB:Nat->D->Prop where
 | non {n:Nat}:DB n .non
 | int {n:Nat} (i:Int):DB n (.int i)
 | str {n:Nat} (x:Str):DB n (.str x)
 | tup {n:Nat} {ds:List D} (h:∀d∈ds,DB n d):DB (n+1) (.tup ds)
 | lst {n:Nat} {ds:List D} (h:∀d∈ds,DB n d):DB (n+1) (.lst ds)
section
variable {X:Cx} {pins:List (Addr×Obj)} {σ:St} {H:Hp} {s:Shared}
theorem Inv.lt_ne (I:Inv X pins σ H s){p}{xs ys}(h:A6 X.K H p xs)(h':A9 X.K H p ys):False:=by
 obtain⟨its,_,pl,_⟩:=I.list h;obtain⟨its',_,pt,_⟩:=I.tuple h';exact SeqAt.ne_of_list_tuple (s:=s) pl.isList pt rfl
theorem Rep.inj (I:Inv X pins σ H s){d}{v}(r:Rep X.K H d v):∀{e},Rep X.K H e v->d=e:=by
 induction r with
 | non=>intro e U;cases U;rfl
 | int i=>intro e U;cases U;rfl
 | bl c=>intro e U;cases U;rfl
 | str x=>intro e U;cases U;rfl
 | @tup p xs ds h hl hr ih=>
  intro e U;cases U with
  | @tup _ ys es h' a4 J=>
   have e1:=I.tuple_inj h h';subst e1;refine congrArg D.tup (AB λi=>?_);by_cases hi:i<ds.length
   ·have h2:i<xs.length:=by omega
    have h3:i<es.length:=by omega
    rw[D4 hi,D4 h3];exact congrArg some (ih i _ _ (D4 hi) (D4 h2) (J i _ _ (D4 h3) (D4 h2)))
   ·rw[Ad (by omega),Ad (by omega)]
  | lst h' a4 J=>exact(I.lt_ne h' h).elim
 | @lst p xs ds h hl hr ih=>
  intro e U;cases U with
  | tup h' a4 J=>exact(I.lt_ne h h').elim
  | @lst _ ys es h' a4 J=>
   have e1:=I.list_inj h h';subst e1;refine congrArg D.lst (AB λi=>?_);by_cases hi:i<ds.length
   ·have h2:i<xs.length:=by omega
    have h3:i<es.length:=by omega
    rw[D4 hi,D4 h3];exact congrArg some (ih i _ _ (D4 hi) (D4 h2) (J i _ _ (D4 h3) (D4 h2)))
   ·rw[Ad (by omega),Ad (by omega)]
open Classical in
def IQ (ds es:List D)(j:Nat):Bool:=decide (ds[j]?=es[j]?)
open Classical in
theorem eqIt_iff {ds es}:IQ ds es j=true↔ds[j]?=es[j]?:=by
 unfold IQ;exact decide_eq_true_iff
theorem XE {ds es}(hl:ds.length=es.length):(List.range ds.length).all (IQ ds es)=true↔ds=es:=by
 rw[C1];constructor
 ·intro h;refine AB λi=>?_
  by_cases hi:i<ds.length
  ·exact eqIt_iff.mp (h i (List.mem_range.mpr hi))
  ·rw[Ad (by omega),Ad (by omega)]
 ·intro h i _;subst h;exact eqIt_iff.mpr rfl
theorem RelV.ref_of (r:RelV (.ref p) u):u=.ref p:=r
theorem SE (I:Inv X pins σ H s){d}{x}(r:Rep X.K H d x):∀{n:Nat} {A:Around} {e:D} {y:V} {u v:Value} {b:Bool},DB n d->A.units+n<cLine->Rep X.K H e y->RelV x u->RelV y v->(b=true↔d=e)->SeqAt.EqAt A s u v b:=by
 induction r with
 | non=>
  intro n A e y u v b _ hn r' ru U J;obtain rfl:u=Value.none:=ru;cases r' with
  | non=>obtain rfl:v=Value.none:=U;have:b=true:=J.mpr rfl;subst this;exact SeqAt.EqAt.same _
  | int j=>obtain⟨t,rfl⟩:=U;have:b=false:=Cc.mpr λz=>nomatch (J.mp z);subst this;exact SeqAt.EqAt.none_int _ _
  | bl c=>obtain rfl:v=Value.bool c:=U;have:b=false:=Cc.mpr λz=>nomatch (J.mp z);subst this;exact SeqAt.EqAt.none_bool _
  | str j=>obtain⟨t,rfl⟩:=U;have:b=false:=Cc.mpr λz=>nomatch (J.mp z);subst this;exact SeqAt.EqAt.none_str _ _
  | tup h' a5 a4=>
   obtain rfl:=U.ref_of;have:b=false:=Cc.mpr λz=>nomatch (J.mp z)
   subst this;obtain⟨its,_,pt,_⟩:=I.tuple h';exact SeqAt.EqAt.none_tuple pt (by omega)
  | lst h' a5 a4=>
   obtain rfl:=U.ref_of;have:b=false:=Cc.mpr λz=>nomatch (J.mp z)
   subst this;obtain⟨its,_,pt,_⟩:=I.list h';exact SeqAt.EqAt.none_list pt.isList (by omega)
 | int i=>
  intro n A e y u v b _ hn r' ru U J;obtain⟨tu,rfl⟩:=ru;cases r' with
  | non=>obtain rfl:v=Value.none:=U;have:b=false:=Cc.mpr λz=>nomatch (J.mp z);subst this;exact SeqAt.EqAt.int_none _ _
  | int j=>
   obtain⟨t,rfl⟩:=U;have:b=(i==j):=by
    by_cases q:i=j
    ·subst q;rw[J.mpr rfl];simp
    ·have:b=false:=Cc.mpr λz=>q (by have:=J.mp z;injection this)
     rw[this];simp[q]
   subst this;exact SeqAt.EqAt.int_int _ _ _ _
  | bl c=>
   obtain rfl:v=Value.bool c:=U;have:b=(i==if c=true then 1 else 0):=by
    generalize (if c=true then(1:Int) else 0)=j at *;by_cases q:i=j
    ·subst q;rw[J.mpr rfl];simp
    ·have:b=false:=Cc.mpr λz=>q (by have:=J.mp z;injection this)
     rw[this];simp[q]
   subst this;exact SeqAt.EqAt.int_bool _ _ _
  | str j=>obtain⟨t,rfl⟩:=U;have:b=false:=Cc.mpr λz=>nomatch (J.mp z);subst this;exact SeqAt.EqAt.int_str _ _ _ _
  | tup h' a5 a4=>
   obtain rfl:=U.ref_of;have:b=false:=Cc.mpr λz=>nomatch (J.mp z)
   subst this;obtain⟨its,_,pt,_⟩:=I.tuple h';exact SeqAt.EqAt.int_tuple _ _ pt (by omega)
  | lst h' a5 a4=>
   obtain rfl:=U.ref_of;have:b=false:=Cc.mpr λz=>nomatch (J.mp z)
   subst this;obtain⟨its,_,pt,_⟩:=I.list h';exact SeqAt.EqAt.int_list _ _ pt.isList (by omega)
 | bl k=>
  intro n A e y u v b _ hn r' ru U J;obtain rfl:u=Value.bool k:=ru;cases r' with
  | non=>obtain rfl:v=Value.none:=U;have:b=false:=Cc.mpr λz=>nomatch (J.mp z);subst this;exact SeqAt.EqAt.bool_none _
  | int j=>
   obtain⟨t,rfl⟩:=U;have:b=((if k=true then 1 else 0)==j):=by
    generalize (if k=true then(1:Int) else 0)=i at *;by_cases q:i=j
    ·subst q;rw[J.mpr rfl];simp
    ·have:b=false:=Cc.mpr λz=>q (by have:=J.mp z;injection this)
     rw[this];simp[q]
   subst this;exact SeqAt.EqAt.bool_int _ _ _
  | bl c=>
   obtain rfl:v=Value.bool c:=U;have:b=(k==c):=by
    rw[C9,J,beq_iff_eq];cases k<;>cases c<;>simp
   subst this;exact SeqAt.EqAt.bool_bool _ _
  | str j=>obtain⟨t,rfl⟩:=U;have:b=false:=Cc.mpr λz=>nomatch (J.mp z);subst this;exact SeqAt.EqAt.bool_str _ _ _
  | tup h' a5 a4=>
   obtain rfl:=U.ref_of;have:b=false:=Cc.mpr λz=>nomatch (J.mp z);subst this
   obtain⟨its,_,pt,_⟩:=I.tuple h';exact SeqAt.EqAt.bool_tuple _ pt (by omega)
  | lst h' a5 a4=>
   obtain rfl:=U.ref_of;have:b=false:=Cc.mpr λz=>nomatch (J.mp z);subst this
   obtain⟨its,_,pt,_⟩:=I.list h';exact SeqAt.EqAt.bool_list _ pt.isList (by omega)
 | str i=>
  intro n A e y u v b _ hn r' ru U J;obtain⟨tu,rfl⟩:=ru;cases r' with
  | non=>obtain rfl:v=Value.none:=U;have:b=false:=Cc.mpr λz=>nomatch (J.mp z);subst this;exact SeqAt.EqAt.str_none _ _
  | int j=>obtain⟨t,rfl⟩:=U;have:b=false:=Cc.mpr λz=>nomatch (J.mp z);subst this;exact SeqAt.EqAt.str_int _ _ _ _
  | bl c=>obtain rfl:v=Value.bool c:=U;have:b=false:=Cc.mpr λz=>nomatch (J.mp z);subst this;exact SeqAt.EqAt.str_bool _ _ _
  | str j=>
   obtain⟨t,rfl⟩:=U;have:b=(i==j):=by
    by_cases q:i=j
    ·subst q;rw[J.mpr rfl];simp
    ·have:b=false:=Cc.mpr λz=>q (by have:=J.mp z;injection this)
     rw[this];simp[q]
   subst this;exact SeqAt.EqAt.str_str _ _ _ _
  | tup h' a5 a4=>
   obtain rfl:=U.ref_of;have:b=false:=Cc.mpr λz=>nomatch (J.mp z)
   subst this;obtain⟨its,_,pt,_⟩:=I.tuple h';exact SeqAt.EqAt.str_tuple _ _ pt (by omega)
  | lst h' a5 a4=>
   obtain rfl:=U.ref_of;have:b=false:=Cc.mpr λz=>nomatch (J.mp z)
   subst this;obtain⟨its,_,pt,_⟩:=I.list h';exact SeqAt.EqAt.str_list _ _ pt.isList (by omega)
 | @tup p xs ds h hl hr ih=>
  intro n A e y u v b a6 hn r' ru U J;obtain rfl:=ru.ref_of;obtain⟨its,rI,pt,_⟩:=I.tuple h;cases a6 with
  | @tup n' _ a6=>
  cases r' with
  | non=>obtain rfl:v=Value.none:=U;have:b=false:=Cc.mpr λz=>nomatch (J.mp z);subst this;exact SeqAt.EqAt.tuple_none pt (by omega)
  | int j=>obtain⟨t,rfl⟩:=U;have:b=false:=Cc.mpr λz=>nomatch (J.mp z);subst this;exact SeqAt.EqAt.tuple_int _ _ pt (by omega)
  | bl c=>obtain rfl:v=Value.bool c:=U;have:b=false:=Cc.mpr λz=>nomatch (J.mp z);subst this;exact SeqAt.EqAt.tuple_bool _ pt (by omega)
  | str j=>obtain⟨t,rfl⟩:=U;have:b=false:=Cc.mpr λz=>nomatch (J.mp z);subst this;exact SeqAt.EqAt.tuple_str _ _ pt (by omega)
  | @tup p' ys es h' a5 a4=>
   obtain rfl:=U.ref_of;obtain⟨its',a7,a9,_⟩:=I.tuple h';by_cases hp:p=p'
   ·subst hp;have:D.tup ds=D.tup es:=Rep.inj I (.tup h hl hr) (.tup h' a5 a4);rw[J.mpr this];exact SeqAt.EqAt.same _
   ·have z1:its.length=xs.length:=rI.length.symm;have z2:its'.length=ys.length:=a7.length.symm;have a8:=SeqAt.RcAt.tuples (A:=A) (s:=s) (e:=IQ ds es) pt a9 (by omega) (λj h1 h2=>by
     have g1:j<its.length:=by simpa using h1
     have g2:j<its'.length:=by simpa using h2
     have k1:ds[j]?=some ds[j]:=D4 (by omega);have k2:es[j]?=some es[j]:=D4 (by omega);obtain⟨w1,e1,aa⟩:=rI.get (D4 (show j<xs.length by omega));obtain⟨w2,e2,ae⟩:=a7.get (D4 (show j<ys.length by omega));have f1:its.toArray[j]=w1:=by
      have:=D4 g1;rw[e1] at this;simpa using(CD this).symm
     have f2:its'.toArray[j]=w2:=by
      have:=D4 g2;rw[e2] at this;simpa using(CD this).symm
     rw[f1,f2];refine ih j _ _ k1 (D4 (show j<xs.length by omega)) (a6 _ (List.getElem_mem _)) (by show A.units+1+n'<cLine;omega) (a4 j _ _ k2 (D4 (show j<ys.length by omega))) aa ae ?_;rw[eqIt_iff,k1,k2,Option.some.injEq])
    refine SeqAt.EqAt.of_refs hp ?_;have eb:((List.range (min its.toArray.size its'.toArray.size)).all (IQ ds es)&&its.toArray.size==its'.toArray.size)=b:=by
     have s1:its.toArray.size=ds.length:=by simp;omega
     have s2:its'.toArray.size=es.length:=by simp;omega
     rw[s1,s2];by_cases hs:ds.length=es.length
     ·rw[hs,Nat.min_self,beq_self_eq_true,Bool.and_true,<-hs];rw[C9,XE hs,J];exact⟨λz=>by rw[z],λz=>by injection z⟩
     ·have f:(ds.length==es.length)=false:=by simpa using hs
      rw[f,Aa];exact(Cc.mpr λz=>hs (by have:=J.mp z;injection this with this;rw[this])).symm
    rw[eb] at a8;exact a8
  | @lst p' ys es h' a5 a4=>
   obtain rfl:=U.ref_of;have:b=false:=Cc.mpr λz=>nomatch (J.mp z)
   subst this;obtain⟨its',_,pl,_⟩:=I.list h';exact SeqAt.EqAt.tuple_list pt pl.isList (by omega)
 | @lst p xs ds h hl hr ih=>
  intro n A e y u v b a6 hn r' ru U J;obtain rfl:=ru.ref_of;obtain⟨its,rI,pt,_⟩:=I.list h;cases a6 with
  | @lst n' _ a6=>
  cases r' with
  | non=>obtain rfl:v=Value.none:=U;have:b=false:=Cc.mpr λz=>nomatch (J.mp z);subst this;exact SeqAt.EqAt.list_none pt.isList (by omega)
  | int j=>obtain⟨t,rfl⟩:=U;have:b=false:=Cc.mpr λz=>nomatch (J.mp z);subst this;exact SeqAt.EqAt.list_int _ _ pt.isList (by omega)
  | bl c=>obtain rfl:v=Value.bool c:=U;have:b=false:=Cc.mpr λz=>nomatch (J.mp z);subst this;exact SeqAt.EqAt.list_bool _ pt.isList (by omega)
  | str j=>obtain⟨t,rfl⟩:=U;have:b=false:=Cc.mpr λz=>nomatch (J.mp z);subst this;exact SeqAt.EqAt.list_str _ _ pt.isList (by omega)
  | @tup p' ys es h' a5 a4=>
   obtain rfl:=U.ref_of;have:b=false:=Cc.mpr λz=>nomatch (J.mp z)
   subst this;obtain⟨its',_,pl,_⟩:=I.tuple h';exact SeqAt.EqAt.list_tuple pt.isList pl (by omega)
  | @lst p' ys es h' a5 a4=>
   obtain rfl:=U.ref_of;obtain⟨its',a7,a9,_⟩:=I.list h';by_cases hp:p=p'
   ·subst hp;have:D.lst ds=D.lst es:=Rep.inj I (.lst h hl hr) (.lst h' a5 a4);rw[J.mpr this];exact SeqAt.EqAt.same _
   ·have z1:its.length=xs.length:=rI.length.symm;have z2:its'.length=ys.length:=a7.length.symm;refine SeqAt.EqAt.of_refs hp ?_;have s1:its.toArray.size=ds.length:=by simp;omega
    have s2:its'.toArray.size=es.length:=by simp;omega
    by_cases hs:ds.length=es.length
    ·have a8:=SeqAt.RcAt.lists (A:=A) (s:=s) (e:=IQ ds es) pt.isList a9.isList (by rw[s1,s2,hs]) (by omega) (λj h1 h2=>by
      have g1:j<its.length:=by simpa using h1
      have g2:j<its'.length:=by simpa using h2
      have k1:ds[j]?=some ds[j]:=D4 (by omega);have k2:es[j]?=some es[j]:=D4 (by omega);obtain⟨w1,e1,aa⟩:=rI.get (D4 (show j<xs.length by omega));obtain⟨w2,e2,ae⟩:=a7.get (D4 (show j<ys.length by omega));have f1:its.toArray[j]=w1:=by
       have:=D4 g1;rw[e1] at this;simpa using(CD this).symm
      have f2:its'.toArray[j]=w2:=by
       have:=D4 g2;rw[e2] at this;simpa using(CD this).symm
      rw[f1,f2];refine ih j _ _ k1 (D4 (show j<xs.length by omega)) (a6 _ (List.getElem_mem _)) (by show A.units+1+n'<cLine;omega) (a4 j _ _ k2 (D4 (show j<ys.length by omega))) aa ae ?_;rw[eqIt_iff,k1,k2,Option.some.injEq])
     have eb:(List.range its.toArray.size).all (IQ ds es)=b:=by
      rw[s1,C9,XE hs,J];exact⟨λz=>by rw[z],λz=>by injection z⟩
     rw[eb] at a8;exact a8
    ·have:b=false:=Cc.mpr λz=>hs (by have:=J.mp z;injection this with this;rw[this])
     subst this;exact SeqAt.RcAt.lists_lengths pt.isList a9.isList (by rw[s1,s2];simpa using hs) (by omega)
theorem Vn (I:Inv X pins σ H s){A:Around}{n:Nat}{ds es:List D}{xs ys:List V}{its its':List Value}(hdb:∀d∈ds,DB n d)(hn:A.units+1+n<cLine)
  (hl:ds.length=xs.length) (hr:∀(i:Nat) d x,ds[i]?=some d->xs[i]?=some x->Rep X.K H d x) (hl':es.length=ys.length) (hr':∀(i:Nat) d x,es[i]?=some d->ys[i]?=some x->Rep X.K H d x)
  (rI:Vals xs its) (rI':Vals ys its'):∀j (h1:j<its.toArray.size) (h2:j<its'.toArray.size),SeqAt.EqAt A.in1 s its.toArray[j] its'.toArray[j] (IQ ds es j):=λj h1 h2=>by
 have z1:its.length=xs.length:=rI.length.symm;have z2:its'.length=ys.length:=rI'.length.symm;have g1:j<its.length:=by simpa using h1
 have g2:j<its'.length:=by simpa using h2
 have k1:ds[j]?=some ds[j]:=D4 (by omega);have k2:es[j]?=some es[j]:=D4 (by omega);obtain⟨w1,e1,J⟩:=rI.get (D4 (show j<xs.length by omega));obtain⟨w2,e2,U⟩:=rI'.get (D4 (show j<ys.length by omega));have f1:its.toArray[j]=w1:=by
  have:=D4 g1;rw[e1] at this;simpa using(CD this).symm
 have f2:its'.toArray[j]=w2:=by
  have:=D4 g2;rw[e2] at this;simpa using(CD this).symm
 rw[f1,f2];refine SE I (hr j _ _ k1 (D4 (show j<xs.length by omega))) (hdb _ (List.getElem_mem _)) (by show A.units+1+n<cLine;omega) (hr' j _ _ k2 (D4 (show j<ys.length by omega))) J U ?_;rw[eqIt_iff,k1,k2,Option.some.injEq]
def Re (K:W.Frag)(neg:Bool):R2:=λx y H Q=>∃p r d e b,x=.ref p/\y=.ref r/\Rep K H d x/\Rep K H e y/\DB 30 d/\(b=true↔d=e)/\Q (.bl (if neg then !b else b)) H
theorem nD {c:Bool}(hu:X.A.units+64<cLine):OpR X (compareOp (bif c then .NotEq else .Eq)) (Re X.K c):=by
 intro pins s σ H x y v u Q I rx ry h;obtain⟨p,r,d,e,b,rfl,rfl,rd,re,U,hb,q⟩:=h;obtain rfl:=rx.ref_of;obtain rfl:=ry.ref_of;have q:Q (.bl (if c then !b else b)) H:=q;cases rd with
 | @tup _ xs ds h1 hl hr=>
  obtain⟨its,rI,pt,_⟩:=I.tuple h1;cases U with
  | tup U=>
  cases re with
  | @tup _ ys es h2 a6 a4=>
   obtain⟨its',J,a5,_⟩:=I.tuple h2;have z1:its.length=xs.length:=rI.length.symm;have z2:its'.length=ys.length:=J.length.symm;have eb:((List.range (min its.toArray.size its'.toArray.size)).all (IQ ds es)&&its.toArray.size==its'.toArray.size)=b:=by
    have s1:its.toArray.size=ds.length:=by simp;omega
    have s2:its'.toArray.size=es.length:=by simp;omega
    rw[s1,s2];by_cases hs:ds.length=es.length
    ·rw[hs,Nat.min_self,beq_self_eq_true,Bool.and_true,<-hs];rw[C9,XE hs,hb];exact⟨λz=>by rw[z],λz=>by injection z⟩
    ·have f:(ds.length==es.length)=false:=by simpa using hs
     rw[f,Aa];exact(Cc.mpr λz=>hs (by have:=hb.mp z;injection this with this;rw[this])).symm
   subst eb;cases c;exact SeqAt.eq_tupleAt pt a5 (by omega) (Vn I U (by omega) hl hr a6 a4 rI J) ⟨.bl _,H,I,rfl,q⟩;exact SeqAt.RcNeAt.tuples pt a5 (by omega) (Vn I U (by omega) hl hr a6 a4 rI J) _ _ _ _ ⟨.bl _,H,I,rfl,q⟩
  | @lst _ ys es h2 a6 a4=>
   obtain⟨its',J,pl,_⟩:=I.list h2;have:b=false:=Cc.mpr λz=>nomatch (hb.mp z)
   subst this;cases c;exact SeqAt.RcAt.tuple_list pt pl.isList (by omega) _ _ _ _ ⟨.bl _,H,I,rfl,q⟩;exact SeqAt.RcNeAt.tuple_list pt pl.isList (by omega) _ _ _ _ ⟨.bl _,H,I,rfl,q⟩
 | @lst _ xs ds h1 hl hr=>
  obtain⟨its,rI,pt,_⟩:=I.list h1;cases U with
  | lst U=>
  cases re with
  | @tup _ ys es h2 a6 a4=>
   obtain⟨its',J,pl,_⟩:=I.tuple h2;have:b=false:=Cc.mpr λz=>nomatch (hb.mp z)
   subst this;cases c;exact SeqAt.RcAt.list_tuple pt.isList pl (by omega) _ _ _ _ ⟨.bl _,H,I,rfl,q⟩;exact SeqAt.RcNeAt.list_tuple pt.isList pl (by omega) _ _ _ _ ⟨.bl _,H,I,rfl,q⟩
  | @lst _ ys es h2 a6 a4=>
   obtain⟨its',J,a5,_⟩:=I.list h2;have z1:its.length=xs.length:=rI.length.symm;have z2:its'.length=ys.length:=J.length.symm;have s1:its.toArray.size=ds.length:=by simp;omega
   have s2:its'.toArray.size=es.length:=by simp;omega
   by_cases hs:ds.length=es.length
   ·have eb:(List.range its.toArray.size).all (IQ ds es)=b:=by
     rw[s1,C9,XE hs,hb];exact⟨λz=>by rw[z],λz=>by injection z⟩
    subst eb;cases c;exact SeqAt.eq_listAt pt.isList a5.isList (by rw[s1,s2,hs]) (by omega) (Vn I U (by omega) hl hr a6 a4 rI J) ⟨.bl _,H,I,rfl,q⟩;exact SeqAt.RcNeAt.lists pt.isList a5.isList (by rw[s1,s2,hs]) (by omega) (Vn I U (by omega) hl hr a6 a4 rI J) _ _ _ _ ⟨.bl _,H,I,rfl,q⟩
   ·have:b=false:=Cc.mpr λz=>hs (by have:=hb.mp z;injection this with this;rw[this])
    subst this;cases c;exact SeqAt.eq_list_lengthsAt pt.isList a5.isList (by rw[s1,s2];simpa using hs) (by omega) ⟨.bl _,H,I,rfl,q⟩;exact SeqAt.RcNeAt.lists_lengths pt.isList a5.isList (by rw[s1,s2];simpa using hs) (by omega) _ _ _ _ ⟨.bl _,H,I,rfl,q⟩
theorem S6 (hu:X.A.units+64<cLine):OpR X (compareOp .Eq) (Re X.K false):=nD (c:=false) hu
theorem SY (hu:X.A.units+64<cLine):OpR X (compareOp .NotEq) (Re X.K true):=nD (c:=true) hu
def K8 (K:W.Frag):R2:=λx y H Q=>jb x y H Q∨Re K false x y H Q
def K6 (K:W.Frag):R2:=λx y H Q=>jZ x y H Q∨Re K true x y H Q
theorem S7 (hu:X.A.units+64<cLine):OpR X (compareOp .Eq) (K8 X.K):=op_eq.or (S6 hu)
theorem SZ (hu:X.A.units+64<cLine):OpR X (compareOp .NotEq) (K6 X.K):=op_ne.or (SY hu)
end
theorem Si {i j:Int}:K8 K (.int i) (.int j) H Q=Q (.bl (decide (i=j))) H:=by
 refine Eq.trans ?_ FX;exact propext ⟨λh=>h.resolve_right (λ⟨_,_,_,_,_,e,_⟩=>nomatch e),.inl⟩
theorem TZ {i j:Int}:K6 K (.int i) (.int j) H Q=Q (.bl (!decide (i=j))) H:=by
 refine Eq.trans ?_ FI;exact propext ⟨λh=>h.resolve_right (λ⟨_,_,_,_,_,e,_⟩=>nomatch e),.inl⟩
theorem Sh {i j}:K8 K (.str i) (.str j) H Q=Q (.bl (decide (i=j))) H:=by
 refine Eq.trans ?_ FW;exact propext ⟨λh=>h.resolve_right (λ⟨_,_,_,_,_,e,_⟩=>nomatch e),.inl⟩
theorem TY {i j}:K6 K (.str i) (.str j) H Q=Q (.bl (!decide (i=j))) H:=by
 refine Eq.trans ?_ GI;exact propext ⟨λh=>h.resolve_right (λ⟨_,_,_,_,_,e,_⟩=>nomatch e),.inl⟩
theorem Sj {i j}:K8 K (.bl i) (.bl j) H Q=Q (.bl (decide (i=j))) H:=by
 refine Eq.trans ?_ FY;exact propext ⟨λh=>h.resolve_right (λ⟨_,_,_,_,_,e,_⟩=>nomatch e),.inl⟩
theorem T2 {i j}:K6 K (.bl i) (.bl j) H Q=Q (.bl (!decide (i=j))) H:=by
 refine Eq.trans ?_ FK;exact propext ⟨λh=>h.resolve_right (λ⟨_,_,_,_,_,e,_⟩=>nomatch e),.inl⟩
theorem PV {d e}{b}(h1:Rep K H d (.ref p))(h2:Rep K H e (.ref r))(hd:DB 30 d)(hb:b=true↔d=e)(q:Q (.bl b) H):K8 K (.ref p) (.ref r) H Q:=.inr ⟨p,r,d,e,b,rfl,rfl,h1,h2,hd,hb,q⟩
theorem FJ {d e}{b}(h1:Rep K H d (.ref p))(h2:Rep K H e (.ref r))(hd:DB 30 d)(hb:b=true↔d=e)(q:Q (.bl (!b)) H):K6 K (.ref p) (.ref r) H Q:=.inr ⟨p,r,d,e,b,rfl,rfl,h1,h2,hd,hb,q⟩
abbrev fr (t b:Int):D:=.tup [.int t,.int b]
theorem Uh {a b:Int}(ha:0<=a)(hb:0<b):Int.gcd b (a % b)=Int.gcd a b:=by
 obtain ⟨n,rfl⟩:=CT ha;obtain ⟨m,rfl⟩:=CT (Int.le_of_lt hb);show Nat.gcd ((m:Int).natAbs) (((n:Int) % (m:Int)).natAbs)=Nat.gcd (n:Int).natAbs (m:Int).natAbs;rw [<-Int.natCast_emod,Int.natAbs_natCast,Int.natAbs_natCast,Int.natAbs_natCast,Nat.gcd_comm n m,Nat.gcd_comm m (n % m)];exact (Nat.gcd_rec m n).symm
theorem Ug {a:Int}(ha:0<=a):(Int.gcd a 0:Int)=a:=by
 show((Nat.gcd a.natAbs 0:Nat):Int)=a;rw[Nat.gcd_zero_right];omega
theorem Pb (a b:Int):Int.gcd (if a<0 then -a else a) (if b<0 then -b else b)=Int.gcd a b:=by
 have e:∀z:Int,(if z<0 then -z else z).natAbs=z.natAbs:=λz=>by split<;>omega
 show Nat.gcd _ _=Nat.gcd _ _;rw[e,e]
theorem BA (a:Int):0<=(if a<0 then -a else a):=by split<;>omega
def GH (t b:Int):Int:=if b<0 then -(Int.gcd t b:Int) else(Int.gcd t b:Int)
def XY (t b:Int):Int:=t.fdiv (GH t b)
def XZ (t b:Int):Int:=b.fdiv (GH t b)
theorem Nh {t b:Int}(hb:b≠0):0<(Int.gcd t b:Int):=by
 have h:0<Nat.gcd t.natAbs b.natAbs:=Nat.gcd_pos_of_pos_right _ (by omega);exact Int.natCast_pos.mpr h
theorem Gs {t b:Int}(hb:b≠0):GH t b≠0:=by
 have:=Nh (t:=t) hb;unfold GH;split<;>omega
theorem Hy {t b:Int}:GH t b∣t:=by
 unfold GH;split
 ·exact Int.neg_dvd.mpr (Int.gcd_dvd_left ..)
 ·exact Int.gcd_dvd_left ..
theorem Hx {t b:Int}:GH t b∣b:=by
 unfold GH;split
 ·exact Int.neg_dvd.mpr (Int.gcd_dvd_right ..)
 ·exact Int.gcd_dvd_right ..
theorem Jv {x d:Int}(h:d∣x):d*x.fdiv d=x:=by
 obtain⟨c,rfl⟩:=h;by_cases hd:d=0
 ·subst hd;simp
 ·rw[Int.mul_fdiv_cancel_left _ hd]
theorem Vp {t b:Int}:GH t b*XY t b=t:=Jv Hy
theorem W0 {t b:Int}:GH t b*XZ t b=b:=Jv Hx
theorem L4 {t b:Int}(hb:b≠0):0<XZ t b:=by
 have h:=W0 (t:=t) (b:=b);have J:=Nh (t:=t) hb;by_cases hn:b<0
 ·have e:GH t b<0:=by unfold GH;rw[DZ hn];omega
  rcases Int.lt_trichotomy (XZ t b) 0 with z|z|z
  ·have:=Int.mul_pos_of_neg_of_neg e z;omega
  ·rw[z] at h;simp at h;omega
  ·exact z
 ·have e:0<GH t b:=by unfold GH;rw[DY hn];omega
  rcases Int.lt_trichotomy (XZ t b) 0 with z|z|z
  ·have:=Int.mul_neg_of_pos_of_neg e z;omega
  ·rw[z] at h;simp at h;omega
  ·exact z
theorem Pk {t b:Int}(hb:b≠0):XY t b*b=t*XZ t b:=by
 have h1:=Vp (t:=t) (b:=b);have h2:=W0 (t:=t) (b:=b);have:XY t b*(GH t b*XZ t b)=GH t b*XY t b*XZ t b:=by
  rw [<-Int.mul_assoc,Int.mul_comm (XY t b)]
 rw[h1,h2] at this;exact this
theorem Pf {t b:Int}(hb:b≠0):(XY t b).natAbs<=t.natAbs:=by
 have h:(GH t b*XY t b).natAbs=t.natAbs:=by rw[Vp]
 rw[Aw] at h;have g:=Gs (t:=t) hb;have:1<=(GH t b).natAbs:=by omega
 calc (XY t b).natAbs=1*(XY t b).natAbs:=by omega
  _<=(GH t b).natAbs*(XY t b).natAbs:=Nat.mul_le_mul_right _ this
  _=t.natAbs:=h
theorem Pj {t b:Int}(hb:b≠0):(XZ t b).natAbs<=b.natAbs:=by
 have h:(GH t b*XZ t b).natAbs=b.natAbs:=by rw[W0]
 rw[Aw] at h;have g:=Gs (t:=t) hb;have:1<=(GH t b).natAbs:=by omega
 calc (XZ t b).natAbs=1*(XZ t b).natAbs:=by omega
  _<=(GH t b).natAbs*(XZ t b).natAbs:=Nat.mul_le_mul_right _ this
  _=b.natAbs:=h
theorem Ni {t b:Int}:(GH t b).natAbs=Int.gcd t b:=by unfold GH;split<;>omega
theorem Hw {t b:Int}(hb:b≠0):(GH t b).natAbs<=b.natAbs:=by
 rw[Ni];show Nat.gcd t.natAbs b.natAbs<=b.natAbs;exact Nat.gcd_le_right _ (by omega)
theorem L6 {t b:Int}(hb:b≠0):Int.gcd (XY t b) (XZ t b)=1:=by
 have U:0<Nat.gcd t.natAbs b.natAbs:=Nat.gcd_pos_of_pos_right _ (by omega);have e1:(GH t b).natAbs*(XY t b).natAbs=t.natAbs:=by rw [<-Aw,Vp]
 have e2:(GH t b).natAbs*(XZ t b).natAbs=b.natAbs:=by rw [<-Aw,W0]
 have J:(GH t b).natAbs=Nat.gcd t.natAbs b.natAbs:=Ni;rw[J] at e1 e2;have h:=Nat.gcd_mul_left (Nat.gcd t.natAbs b.natAbs) (XY t b).natAbs (XZ t b).natAbs;rw[e1,e2] at h;show Nat.gcd _ _=1;have h':Nat.gcd t.natAbs b.natAbs*1=Nat.gcd t.natAbs b.natAbs*Nat.gcd (XY t b).natAbs (XZ t b).natAbs:=by rw[Nat.mul_one];exact h
 exact(Nat.eq_of_mul_eq_mul_left U h').symm
end L2
set_option maxHeartbeats 4000000
namespace L2
open Spec PyProof.Rows
structure ZQ (X:Cx)(scope:Scope)(cl:List (Str×Addr))(N:List Str)(caps:List (Option Nat)):Prop where
 clos:closureFor scope X.env=pure cl
 kind:scope.kind=.function
 nocell:∀y∈scope.names,y.2≠.cell
 names:∀y∈scope.names,y.2=.local->scope.names.lookup y.1=some .local
 sub:∀x c,cl.lookup x=some c->X.env.cells.lookup x=some c
 has:∀x,((relabel scope X.env).names.lookup x=some .cell∨(relabel scope X.env).names.lookup x=some .free)->∃c,cl.lookup x=some c
 cap:∀(i j:Nat) x,N[i]?=some x->caps[i]?=some (some j)->X.N[j]?=some x/\X.env.kindOf x=some .cell/\(relabel scope X.env).names.lookup x=some .cell
 len:caps.length=N.length
def JE (caps:List (Option Nat))(σ:St):St:=caps.map λo=>match o with|some j=>(σ[j]?).join|none=>none
abbrev GC (X:Cx)(scope:Scope)(cl:List (Str×Addr))(N:List Str)(C:Addr)(s:Shared)(H:Hp)(ex:List Addr):Cx:=
 { X with N:=N,s₀:=s,H₀:=H,env:=compEnvC scope cl C X.env,outer:=X.stack,stack:=X.stack,ex:=ex,fn:=λx=>(cl.lookup x).isNone,pn:=[],xe:=λ_ _=>False }
section
variable {X:Cx} {pins:List (Addr×Obj)} {σ:St} {H:Hp} {s:Shared} {scope:Scope} {cl:List (Str×Addr)} {N:List Str} {caps:List (Option Nat)} {fp:List Addr} {C:Addr}
theorem HH (I:Inv X pins σ H s)(O:ZQ X scope cl N caps)(hf:∀b∈fp,XT X pins H b)(hC:s.heap.objs.size<=C)(hlt:∀b∈fp,b<s.heap.objs.size):(GC X scope cl N C s H fp).Ok where
 mod:=I.ok.mod
 kind:=O.kind
 glob:=I.ok.glob
 blt:=I.ok.blt
 above:=hC
 inj:=λx y c h1 h2=>I.ok.inj x y c (O.sub x c h1) (O.sub y c h2)
 has:=λx h=>O.has x h
 cab:=λx c h1 h2=>by
  have h1:(cl.lookup x).isNone=true:=h1;have h2:cl.lookup x=some c:=h2;rw[h2] at h1;cases h1
 hd:=I.ok.hd
 frames:=I.ok.frames
 stk:=.inl rfl
 exf:=λb J=>⟨Cd (Cn (hlt b J) hC),λx c h=>(hf b J).2.2.2.2.1 x c (O.sub x c h)⟩
 bs:=I.bs
 bsz:=Co I.ok.bsz I.sz
 noex:=λb o e J=>by
  rcases(hf b J).2.2.2.1 with z|z
  ·exact I.ok.noex b o e z
  ·exact absurd (Cn (Cn (D5 e) I.ok.bsz) z) (CB _)
 exfs:=λb J z=>by
  rcases Ca.mp (I.stkSub b z) with q|q
  ·exact(hf b J).2.1 q
  ·exact(hf b J).2.2.1 q
 funs:=I.stack
 frf:=I.stkFree
theorem Bp (h:(JE caps σ)[i]?=some (some v)):∃j,caps[i]?=some (some j)/\σ[j]?=some (some v):=by
 unfold JE at h;rw[Ct] at h;cases e:caps[i]? with
 | none=>rw[e] at h;cases h
 | some o=>
  rw[e] at h;cases o with
  | none=>cases h
  | some j=>
   refine⟨j,rfl,?_⟩;have h:(σ[j]?).join=some v:=CD h;cases e2:σ[j]? with
   | none=>rw[e2] at h;cases h
   | some q=>rw[e2] at h;rw[show q=some v from h]
theorem KB (I:Inv X pins σ H s)(O:ZQ X scope cl N caps)(hf:∀b∈fp,XT X pins H b)(hlt:∀b∈fp,b<s.heap.objs.size){h'}{t':Nat}{m}(keep:∀b o,s.heap.get? b=some o->h'.get? b=some o)(hC:s.heap.objs.size<=C)(ns:h'.Ns C m) :
  Inv (GC X scope cl N C s H fp) [] (JE caps σ) H { s with heap:=h',toks:=t' }:=by
 refine⟨HH I O hf hC hlt,rfl,I.bare,Un.kept keep,⟨m,ns,λi x v h1 h2 h3=>?_⟩,λx c e=>?_,I.hok.fresh hC,λx c e=>I.freeC x c (O.sub x c e),λp hp=>absurd (show p∈([]:List (Addr×Obj)) from hp) (by simp),I.hok.kept keep,?_⟩
 ·obtain⟨j,e1,e2⟩:=Bp h2;obtain⟨k1,k2,k3⟩:=O.cap i j x h1 e1;obtain⟨m0,_,hl⟩:=I.loc;obtain⟨u,r,l⟩:=hl j x v k1 e2 (.inr (.inl k2));refine⟨u,r,?_⟩;rcases l with ⟨z,_⟩|⟨_,c,e,z⟩
  ·rw[k2] at z;cases z
  ·obtain⟨U,J⟩:=O.has x (.inl k3);have:=O.sub x U J;rw[e] at this;cases this;exact .inr ⟨.inl k3,c,J,z.keeps keep⟩
 ·obtain⟨v,z⟩:=I.cell x c (O.sub x c e);exact⟨v,z.keeps keep⟩
 ·show(JE caps σ).length=N.length;unfold JE;rw[D1,O.len]
theorem VC (I:Inv X pins σ H s)(hf:∀b∈fp,XT X pins H b){pins'}{σ'}{H'}{s'}{h'}(J:Inv (GC X scope cl N C s H fp) pins' σ' H' s')(hC:s.heap.objs.size<=C)(sb:Heap.SameBut C s'.heap h') :
  Inv X pins σ H' { s' with heap:=h' }:=by
 have ne:∀b o,s.heap.get? b=some o->b≠C:=λb o e=>Cd (Cn (D5 e) hC)
 have u:Un (IA X.stack) fp H H' s.heap s'.heap:=J.base;have U:H' C=none:=J.free;refine I.call' (s':={ s' with heap:=h' }) (ch:=fp) J.os ⟨λb o e n h1 h2=>(sb.2 b (ne b o e)).trans (u.keep b o e n h1 h2),λb o e n h1 h2=>?_,u.free,λb o e h1=>?_,u.tups,u.frzs,u.tbls⟩ (λb o e=>?_) J.bare λb hb=>(hf b hb).2.2.2 |> λz=>⟨z.1,(hf b hb).2.1,z.2.1,z.2.2⟩
 ·obtain⟨sl,q⟩:=u.slot b o e n h1 h2;exact⟨sl,(sb.2 b (ne b o e)).trans q⟩
 ·obtain⟨o',q⟩:=u.there b o e h1;exact⟨o',(sb.2 b (ne b o e)).trans q⟩
 ·refine(J.hok b o e).stay (λc w' hc q=>(sb.2 c ?_).trans q) (λ_ q=>q) λ_ _ q=>q
  rintro rfl;rcases hc with rfl|hc
  ·rw[U] at e;cases e
  ·rw[U] at hc;cases hc
theorem Inv.track {D}{o}(I:Inv X pins σ H s)(h0:X.s₀.heap.objs.size<=D)(hn:H D=none)(hL:D≠X.env.locals)(h2:∀x c,X.env.cells.lookup x=some c->c≠D)(h3:∀p∈X.pn++pins,p.1≠D)(new:ObjOk X.prog X.w (upd H D o) s.heap D o) :
  Inv X pins σ (upd H D o) s:=by
 have U:∀b u,H b=some u->b≠D:=λb u e=>Qi e hn
 have:=I.step (h':=s.heap) (H':=upd H D o) (g':=s.gens) (t':=s.toks) (d':=s.drawn) (ch:=[D]) (λb J=>?_) (λb o _ _ _ e _=>e) (λb o _ _ _ e _=>⟨o.slots,e⟩) (λb u J _ n=>by rw[Qj (by simpa using J)];exact n) (λb o _ e=>⟨o,e⟩)
  (λb xs e=>by rw[Qj (U b _ e)];exact e) (λb o' u e=>by rw[Qj (U b _ e)];exact e) (λb ps e=>⟨#[],by rw[Qj (U b _ e),e];simp⟩) (λ_ z=>z) (λb u e=>?_) I.bare
 ·exact this
 ·have e:b=D:=by simpa using J
  subst e;exact⟨.inr h0,hL,h2,h3⟩
 ·by_cases J:b=D
  ·subst J;rw[Qa] at e;cases e;exact new
  ·rw[Qj J] at e;exact(I.hok b u e).stay (λ_ _ _ q=>q) (λc q=>by rw[Qj (U c _ q)];exact q) λc xs q=>by rw[Qj (U c _ q)];exact q
end
def gv (X:Cx)(ifs:List Expr)(t:TT):Prop:=
 ∀(pins:List (Addr×Obj)) (s:Shared) (σ:St) (H:Hp) (Q:Bool->Hp->Prop),Inv X pins σ H s->t σ H Q ->
  wpAny (model X.prog X.w) X.A (forIn ifs true λc r=>if r=true then do let ok <-isTrue c X.env (eval c X.env);pure (ForInStep.yield ok) else pure (ForInStep.yield r)) (TP X pins σ Q) X.xe s
def MY:TT:=λ_ H Q=>Q true H
theorem QU:gv X [] MY:=λ_ _ _ H _ I h=>wpAny_tests_nil ⟨H,I,h⟩
theorem Va {c}{t}(h:PT X c t):gv X [c] t:=λpins s σ H Q I q=>wpAny_tests_one (h pins s σ H Q I q)
def Y9 (J:It)(g:TG)(tt:TT)(te:TE)(σ0:St)(H1:Hp)(Q:VK):Prop:=
 ∃W:Nat->Nat->List V->St->Hp->Prop,(∃m,W 0 m [] σ0 H1)/\∀i m acc σ H,W i m acc σ H ->
  (J.stop i H/\∀p,H p=none->Q (.ref p) (upd H p (.lst acc))) ∨
  (J.go i H/\acc.length<sizeLine/\∀x H',J.yld i H x H'->g x σ H' λU H2=>tt U H2 λb H3=>
   if b=true then te U H3 λv H4=>∃m',m'<m/\W (i+1) m' (acc++[v]) U H4 else ∃m',m'<m/\W (i+1) m' acc U H3)
def X1 (caps:List (Option Nat))(wi:TI)(g:TG)(tt:TT)(te:TE):TE:=λσ H Q=>wi σ H λJ H1=>Y9 J g tt te (JE caps σ) H1 Q
theorem Yw {R}{target}{it}{Ex}(hE:∀e s,Ex e s->notedBy (model prog w) A env (λx s'=>R (.error x) s') e s)(I:Nat->Shared->Prop)
  (turn:∀n s,I n s->wpAny (model prog w) A (pyNext it) (λr J=>match r with
   | none=>R (.ok .next) J
   | some v=>wpAny (model prog w) A (letOwnedTupleGo target it v) (λ_ s₀=>wpAny (model prog w) A (assign target env v) (λ_ s₂=>
     wpAny (model prog w) A (forIn ifs true λc r=>if r=true then do let ok <-isTrue c env (eval c env);pure (ForInStep.yield ok) else pure (ForInStep.yield r)) (λok U=>
      if ok=true then wpAny (model prog w) A (eval elt env) (λx s₄=>
       wpAny (model prog w) A (call (.builtin "list.append") [acc,x]) (λ_ s₅=>∃m,m<n/\I m s₅) (λ_ _=>False) s₄) Ex U
      else ∃m,m<n/\I m U) (λ_ _=>False) s₂) (λ_ _=>False) s₀) (λ_ _=>False) J) (λ_ _=>False) s)
  (n:Nat) (h:I n s):codeAny (model prog w) A (.compLoop (.ListComp elt [⟨target,iter,ifs,0⟩] scope pos) 0 it acc env) R s:=by
 refine codeAny_loop rfl I (λn s hI=>?_) n h;show wpAny _ A ((compTurn (.ListComp elt [⟨target,iter,ifs,0⟩] scope pos) 0 it acc env).onRaise (λx=>do noteFrame x env;theTreesLotGoes x)) _ _ s;refine wpAny_noted ?_;rw[compTurn_list];refine DX (wpAny_standAt (DX (Cf (turn n s hI) (λr J h₁=>?_) λ_ _ h'=>AS h')));cases r with
 | none=>exact D3 h₁
 | some v=>
  refine DX (Cf h₁ (λ_ s₀ h₀=>?_) λ_ _ h'=>AS h');refine DX (Cf h₀ (λ_ s₂ h₂=>DX (Cf h₂ (λok U h₃=>?_) λ_ _ h'=>AS h')) λ_ _ h'=>AS h');cases ok with
  | false=>exact D3 ⟨rfl,h₃⟩
  | true=>
   exact DX (DX (Cf h₃ (λx s₄ h₄=>DX (Cf h₄ (λ_ s₅ h₅=>D3 (D3 ⟨rfl,h₅⟩)) λ_ _ h'=>AS h')) λe s' h'=>hE e s' h'))
theorem Vw {R}{target}{it}(I:Nat->Shared->Prop)
  (turn:∀n s,I n s->wpAny (model prog w) A (pyNext it) (λr J=>match r with
   | none=>R (.ok .next) J
   | some v=>wpAny (model prog w) A (letOwnedTupleGo target it v) (λ_ s₀=>wpAny (model prog w) A (assign target env v) (λ_ s₂=>
     wpAny (model prog w) A (forIn ifs true λc r=>if r=true then do let ok <-isTrue c env (eval c env);pure (ForInStep.yield ok) else pure (ForInStep.yield r)) (λok U=>
      if ok=true then wpAny (model prog w) A (eval elt env) (λx s₄=>
       wpAny (model prog w) A (call (.builtin "list.append") [acc,x]) (λ_ s₅=>∃m,m<n/\I m s₅) (λ_ _=>False) s₄) (λ_ _=>False) U
      else ∃m,m<n/\I m U) (λ_ _=>False) s₂) (λ_ _=>False) s₀) (λ_ _=>False) J) (λ_ _=>False) s)
  (n:Nat) (h:I n s):codeAny (model prog w) A (.compLoop (.ListComp elt [⟨target,iter,ifs,0⟩] scope pos) 0 it acc env) R s:=Yw (λ_ _ z=>z.elim) I turn n h
section
variable {X:Cx}
def ju (X:Cx)(C:Addr)(e:Value)(s':Shared):Prop:=
 wpAny (model X.prog X.w) X.A (noteFrame e X.env) (λ_ J=>∃m,J.heap.Ns C m/\∀h',Heap.SameBut C J.heap h'->∀cenv:Env,cenv.locals=C ->
  wpAny (model X.prog X.w) X.A (passOn "comprehension.variables-let-go" e cenv:Sem Value) (λ_ _=>False) X.xe { J with heap:=h' }) (λ_ _=>False) s'
theorem Md {cl}{R}{e}(h:ju X C e s) :
  notedBy (model X.prog X.w) X.A (compEnvC scope cl C X.env) (λx s'=>compPost (model X.prog X.w) X.A X.xe use R acc C (.error x) s') e s:=
 Cf h (λ_ _ q=>q) λ_ _ z=>z.elim
theorem Jw {cl}{N}{p1}{R}(hc:X.calm=true)(O:ZQ X scope cl N caps)
  (hi:PI X tg iter wi) (hg:∀C s H ex,PG (GC X scope cl N C s H ex) tg g) (ht:∀C s H ex,gv (GC X scope cl N C s H ex) ifs tt) (he:∀{pins σ} C s H ex,Inv X pins σ H s->(∀b∈ex,XT X pins H b)->s.heap.objs.size<=C->PE ((GC X scope cl N C s H ex).wish (ju X C)) elt te)
  (hs:∀v,foldedSetIterable iter X.env v=pure v) (I:Inv X pins σ H s) (h:X1 caps wi g tt te σ H Q)
  (fin:∀{C Dl:Addr} {s4:Shared} {H':Hp} {m:Str->Option Value} {r:Flow},Inv X pins σ H' s4->s4.heap.Ns C m->Q (.ref Dl) H'->H' C=none->C≠X.env.locals->X.s₀.heap.objs.size<=C->(∀x c,X.env.cells.lookup x=some c->c≠C)->(∀p∈X.pn++pins,p.1≠C)->compPost (model X.prog X.w) X.A X.xe use R (.ref Dl) C (.ok r) s4) :
  wpAny (model X.prog X.w) X.A (comprehension (.ListComp elt [⟨tg,iter,ifs,0⟩] scope pos) scope X.env p1 (newList []) false (eval iter X.env) use) R X.xe s:=by
 refine wpAny_comprehension_free (use:=use) rfl hs O.clos O.kind O.names (A4 (hi pins s σ H _ I h) fun v s1 h1=>A4 h1 fun bb s2 h2=>?_);obtain ⟨it,fp,tn,J,H2,e,I2,T,aw,f2,W,⟨m0,w0⟩,av⟩:=h2;subst e;refine wpAny_newObj_type (wpAny_newFunctionEnv O.nocell (by intro y hy;simp at hy) (fun h₁ aa a6=>?_) O.kind);dsimp only at aa a6 ⊢;generalize ak:s2.heap.push { cls:=.type "list",dict:=none,data:=.seq ([]:List Value).toArray }=P2 at aa a6 ⊢;have hC:P2.objs.size=s2.heap.objs.size+1:=by rw [<-ak,Heap.size_push]
 have a8:s2.heap.objs.size≠P2.objs.size:=by rw[hC];exact Cd (Ao _)
 have a5:s2.heap.objs.size<=P2.objs.size:=by rw[hC];exact CY _
 have au:∀b o,s2.heap.get? b=some o->h₁.get? b=some o:=λb o e=>a6.extBut b o (Cd (Cn (D5 e) a5)) (D8 _ (ak▸D8 _ e))
 have ar:h₁.PlainList s2.heap.objs.size #[]:=⟨_,a6.extBut _ _ a8 (D8 _ (ak▸Cz _ rfl))⟩
 have a7:∀b∈fp,b<s2.heap.objs.size:=λb U=>by
  obtain⟨o,e,_⟩:=T.obj 0 _ aw b U;exact D5 e
 generalize ba:P2.objs.size=C at *;generalize a4:s2.heap.objs.size=Dl at *;have I3:Inv (GC X scope cl N C s2 H2 fp) [] (JE caps σ) H2 { s2 with heap:=h₁,toks:=s2.toks+([]:List (Str×Value)).length }:=KB I2 O f2 (by rw[a4];exact a7) au (by rw[a4];exact a5) aa;have a9:tn 0 h₁:=T.keep 0 _ _ aw λb _ o e=>au b o e
 have b0:H2 Dl=none:=I2.hok.fresh (by rw[a4];exact D2 _);have b7:∀b∈fp,b∉IA X.stack:=λb U z=>by
  rcases Ca.mp (I2.stkSub b z) with q|q
  ·exact(f2 b U).2.1 q
  ·exact(f2 b U).2.2.1 q
 have af:∀{H':Hp},(∀b∈fp,H' b=none)->∀b∈fp,XT (GC X scope cl N C s2 H2 fp) [] H' b:=λhn b U=>
  ⟨hn b U,Cd (Cn (a7 b U) a5),b7 b U,.inl U,λx c e=>(f2 b U).2.2.2.2.1 x c (O.sub x c e),λp hp=>absurd (show p∈([]:List (Addr×Obj)) from hp) (by simp)⟩
 have aq:∀x c,cl.lookup x=some c->c≠Dl:=λx c e z=>by
  obtain⟨v,q⟩:=I2.cell x c (O.sub x c e);have:=q.lt;rw[a4] at this;exact CB _ (z▸this)
 have ae:Dl∉IA X.stack:=λz=>by
  have:=I2.stkSub Dl z;rcases Ca.mp this with q|q
  ·have:=I2.lt;rw[a4] at this;exact CB _ (q▸this)
  ·exact I2.nofs (by rw[a4];exact D2 _) q
 have aj:∀{H':Hp},H' Dl=none->XT (GC X scope cl N C s2 H2 fp) [] H' Dl:=λhn=>⟨hn,a8,ae,.inr (Nat.le_of_eq a4),aq,λp hp=>absurd (show p∈([]:List (Addr×Obj)) from hp) (by simp)⟩
 have ah:∀s₃:Shared,s₃={ s2 with heap:=h₁,toks:=s2.toks+([]:List (Str×Value)).length } ->
   codeAny (model X.prog X.w) X.A (.compLoop (.ListComp elt [⟨tg,iter,ifs,0⟩] scope pos) 0 (.ref it) (.ref Dl) (compEnvC scope cl C X.env))
    (compPost (model X.prog X.w) X.A X.xe use R (.ref Dl) C) s₃:=by
  intro s₃ az;subst az;refine Yw (Ex:=ju X C) (λe s' h'=>Md h') (λn s'=>∃i σ' H' acc its,Inv (GC X scope cl N C s2 H2 fp) [] σ' H' s'/\tn i s'.heap/\(∀b∈fp,H' b=none)/\H' Dl=none/\Vals acc its/\s'.heap.PlainList Dl its.toArray/\acc.length<=sizeLine/\W i n acc σ' H') ?_ m0
   ⟨0,JE caps σ,H2,[],[],I3,a9,λb U=>(f2 b U).1,b0,.nil,ar,CF _,w0⟩
  rintro n s3 ⟨i,σ3,H3,acc,its,J3,a9,fr3,d3,va,pl3,la,w3⟩;rcases av i n acc σ3 H3 w3 with ⟨ax,qn⟩|⟨go,la2,step⟩
  ·refine A4 (T.done (GC X scope cl N C s2 H2 fp) rfl rfl rfl hc i [(Dl,{ cls:=.type "list",data:=.seq its.toArray (Classical.choose pl3) })] s3 σ3 H3 (λ_ _=>False) (J3.pins_of λp hp=>?_) (λb U=>?_) a9 ax) λr s4 ⟨hr,J4⟩=>?_
   ·have e:=D7.mp (show p∈[_] from hp);subst e;exact⟨Ax pl3,d3,a8,ae,λv z=>by cases z⟩
   ·obtain ⟨q1,q2,q3,q4,q5,q6⟩:=af fr3 b U;refine ⟨q1,q2,q3,q4,q5,fun p hp z=>?_⟩;have e:=D7.mp (show p∈[_] from hp);subst e;exact absurd (a7 b U) (by rw [<-z];exact CB _)
   ·subst hr;obtain⟨m,hn,_⟩:=J4.loc;have pD:=J4.pin (Dl,_) (by simp;rfl);have J5:=VC I2 f2 J4 (by rw[a4];exact a5) (⟨rfl,λ_ _=>rfl⟩:Heap.SameBut C s4.heap s4.heap);have ai:∀{z:Addr},z<Dl->z≠Dl/\z≠C:=λq=>⟨Cd q,Cd (Cn q a5)⟩
    have eL:=ai (a4▸I2.lt);have eC:∀y c,X.env.cells.lookup y=some c->c≠Dl/\c≠C:=λy c e=>by
     obtain⟨v,q⟩:=I2.cell y c e;exact ai (a4▸q.lt)
    have eP:∀p∈X.pn++pins,p.1≠Dl/\p.1≠C:=λp hp=>ai (a4▸D5 (I2.pin p hp).1)
    have sz:=I2.sz;rw[a4] at sz;exact fin (J5.track (o:=.lst acc) sz d3 eL.1.symm (λy c e=>(eC y c e).1) (λp hp=>(eP p hp).1) ⟨la,its,_,va,pD.1⟩) hn (qn _ d3) ((Qj (CP a8)).trans J4.free) eL.2.symm (Co sz a5) (λy c e=>(eC y c e).2) (λp hp=>(eP p hp).2)
  ·refine A4 (T.item (GC X scope cl N C s2 H2 fp) rfl rfl rfl hc i [(Dl,{ cls:=.type "list",data:=.seq its.toArray (Classical.choose pl3) })] s3 σ3 H3 (λ_ _=>False) (J3.pins_of λp hp=>?_) (λb U=>?_) a9 go) λr s4 ⟨u,hr,h4⟩=>?_
   ·have e:=D7.mp (show p∈[_] from hp);subst e;exact⟨Ax pl3,d3,a8,ae,λv z=>by cases z⟩
   ·obtain ⟨q1,q2,q3,q4,q5,q6⟩:=af fr3 b U;refine ⟨q1,q2,q3,q4,q5,fun p hp z=>?_⟩;have e:=D7.mp (show p∈[_] from hp);subst e;exact absurd (a7 b U) (by rw [<-z];exact CB _)
   ·subst hr;refine A4 h4 λ_ s5 ⟨y,H5,J5,r5,y5,ao,b5⟩=>?_
    have b8:Inv (GC X scope cl N C s2 H2 fp) ([(Dl,{ cls:=.type "list",data:=.seq its.toArray (Classical.choose pl3) })]++X3 fp s5.heap) σ3 H5 s5:=J5.pinned (λb U=>by
     obtain ⟨q1,q2,q3,q4,q5,q6⟩:=af b5 b U;refine ⟨q1,q2,q3,q4,q5,fun p hp z=>?_⟩;have e:=D7.mp (show p∈[_] from hp);subst e;exact absurd (a7 b U) (by rw [<-z];exact CB _)) (T.obj _ _ ao)
    refine A4 (hg C s2 H2 fp _ s5 σ3 H5 y u _ b8 r5 (step y H5 y5)) λ_ s6 ⟨σ6,H6,J6,q6⟩=>?_
    refine A4 (ht C s2 H2 fp _ s6 σ6 H6 _ J6 q6) λok s7 ⟨H7,J7,q7⟩=>?_
    have ag:∀{H8:Hp} {s8:Shared},Inv (GC X scope cl N C s2 H2 fp) ([(Dl,{ cls:=.type "list",data:=.seq its.toArray (Classical.choose pl3) })]++X3 fp s5.heap) σ6 H8 s8 ->
      tn (i+1) s8.heap/\(∀b∈fp,H8 b=none)/\H8 Dl=none/\s8.heap.PlainList Dl its.toArray:=λ{H8 s8} J8=>by
     have pb:∀b∈fp,∀o,s5.heap.get? b=some o->s8.heap.get? b=some o/\H8 b=none:=λb U o e=>by
      have:=J8.pin (b,o) (CU _ (CU _ (XQ U e)));exact⟨this.1,this.2.1⟩
     have pd:=J8.pin (Dl,_) (CU _ (C0 _ (D7.mpr rfl)));refine⟨T.keep _ _ _ ao λb U o e=>(pb b U o e).1,λb U=>?_,pd.2.1,⟨_,pd.1⟩⟩;obtain⟨o,e,_⟩:=T.obj _ _ ao b U;exact(pb b U o e).2
    cases ok with
    | false=>
     rw[DY Cy] at q7 ⊢;obtain⟨m',hm,w7⟩:=q7;obtain⟨b1,b2,b3,b4⟩:=ag J7;exact⟨m',hm,i+1,σ6,H7,acc,its,J7.pins_of (λp hp=>absurd hp (by simp)),b1,b2,b3,va,b4,la,w7⟩
    | true=>
     rw[DZ rfl] at q7 ⊢;refine A4 (he C s2 H2 fp I2 f2 (by rw[a4];exact a5) _ s7 σ6 H7 _ (J7.wish _) q7) λz s8 ⟨zv,H8,b6,r8,q8⟩=>?_
     have J8:=b6.unwish;obtain⟨m',hm,w8⟩:=q8;obtain⟨b1,b2,b3,b4⟩:=ag J8;have z1:its.length=acc.length:=va.length.symm;refine wpAny_list_append_plain (hsz:=by rw[CA];omega) b4 λh9 b9 ay=>?_
     have J9:Inv (GC X scope cl N C s2 H2 fp) [] σ6 H8 { s8 with heap:=h9,toks:=s8.toks }:=by
      obtain⟨k0,k1,k2,k3,k4,k5⟩:=aj (H':=H8) b3;exact(J8.pins_of (pins':=[]) (λp hp=>absurd hp (by simp))).turned (it:=Dl) (λb o U e=>(ay.2 b U).trans e) k0 k1 k3 k4 k5
     refine⟨m',hm,i+1,σ6,H8,acc++[zv],its++[z],J9,T.keep _ _ _ b1 λb U o e=>(ay.2 b (Cd (a7 b U))).trans e,b2,b3,va.append (.cons r8 .nil),?_,?_,w8⟩
     ·simpa using b9
     ·rw[D0,D6];omega
 exact codeAny_compStart_list (ah _ rfl) (T.self X.A 0 _ _ _ a9 (ah _ rfl))
theorem Kx {cl}{N}{p1}{R}(hc:X.calm=true)(O:ZQ X scope cl N caps)
  (hi:PI X tg iter wi) (hg:∀C s H ex,PG (GC X scope cl N C s H ex) tg g) (ht:∀C s H ex,gv (GC X scope cl N C s H ex) ifs tt) (he:∀C s H ex,PE (GC X scope cl N C s H ex) elt te)
  (hs:∀v,foldedSetIterable iter X.env v=pure v) (I:Inv X pins σ H s) (h:X1 caps wi g tt te σ H Q)
  (fin:∀{C Dl:Addr} {s4:Shared} {H':Hp} {m:Str->Option Value} {r:Flow},Inv X pins σ H' s4->s4.heap.Ns C m->Q (.ref Dl) H'->H' C=none->C≠X.env.locals->X.s₀.heap.objs.size<=C->(∀x c,X.env.cells.lookup x=some c->c≠C)->(∀p∈X.pn++pins,p.1≠C)->compPost (model X.prog X.w) X.A X.xe use R (.ref Dl) C (.ok r) s4) :
  wpAny (model X.prog X.w) X.A (comprehension (.ListComp elt [⟨tg,iter,ifs,0⟩] scope pos) scope X.env p1 (newList []) false (eval iter X.env) use) R X.xe s:=Jw hc O hi hg ht (λC s H ex _ _ _ pins s σ H Q I q=>Cf (he C _ _ ex pins s σ H Q I.unwish q) (λ_ _ ⟨v,H2,J,r,q⟩=>⟨v,H2,J.wish _,r,q⟩) λ_ _ z=>z.elim) hs I h fin
theorem V4 {cl}{N}(hc:X.calm=true)(O:ZQ X scope cl N caps)
  (hi:PI X tg iter wi) (hg:∀C s H ex,PG (GC X scope cl N C s H ex) tg g) (ht:∀C s H ex,gv (GC X scope cl N C s H ex) ifs tt) (he:∀C s H ex,PE (GC X scope cl N C s H ex) elt te)
  (hs:∀v,foldedSetIterable iter X.env v=pure v:=by intro _;rfl):PE X (.ListComp elt [⟨tg,iter,ifs,0⟩] scope pos) (X1 caps wi g tt te):=λpins s σ H Q I h=>by
 rw[eval_ListComp];exact Kx hc O hi hg ht he hs I h λJ hn q fr U hz cC hp=>⟨_,hn,λh' sb=>⟨.ref _,_,J.turned (λb o hb e=>(sb.2 b hb).trans e) fr U (.inr hz) cC hp,rfl,q⟩⟩
theorem De {x}{cl}{N}(hc:X.calm=true)(O:ZQ X scope cl N caps)
  (hi:PI X (.Name x px) iter wi) (hg:∀C s H ex,PG (GC X scope cl N C s H ex) (.Name x px) g) (ht:∀C s H ex,gv (GC X scope cl N C s H ex) ifs tt) (he:∀C s H ex,PE (GC X scope cl N C s H ex) elt te)
  (hs:∀v,foldedSetIterable iter X.env v=pure v:=by intro _;rfl):PE X (.ListComp elt [⟨.Name x px,iter,ifs,0⟩] scope pos) (X1 caps wi g tt te):=V4 hc O hi hg ht he hs
end
theorem ObjOk.there {o}(x:ObjOk P w H h a o):∃u,h.get? a=some u:=by
 cases o with
 | lst xs=>obtain⟨_,_,_,_,e⟩:=x;exact⟨_,e⟩
 | tup xs=>obtain⟨_,_,_,_,e,_⟩:=x;exact⟨_,e⟩
 | dK kvs=>obtain⟨_,_,_,_,o,_,_,e,_⟩:=x;exact⟨_,e⟩
 | dT kvs=>obtain⟨_,_,_,_,o,_,_,e,_⟩:=x;exact⟨_,e⟩
 | set S n=>obtain⟨o,_,_,_,e,_⟩:=x;exact⟨_,e⟩
 | ins C dx fs=>obtain⟨_,_,_,e,_⟩:=x;exact⟨_,e⟩
 | own y=>exact x
 | xd fs=>obtain⟨_,⟨_,_,_,e,_⟩,_⟩:=x;exact⟨_,e⟩
 | rng lo hi=>obtain⟨_,_,_,e⟩:=x;exact⟨_,e⟩
 | frz J u=>obtain⟨e,_⟩:=x;exact⟨_,e⟩
 | tbl ps=>exact⟨_,show h.get? a=some _ from x⟩
 | met f y=>exact⟨_,show h.get? a=some _ from x⟩
 | ext φ=>obtain⟨_,e,_⟩:=x;exact e
theorem HOk.none_of (x:HOk P w H h)(e:h.get? a=none):H a=none:=by
 cases q:H a with
 | none=>rfl
 | some o=>
  obtain⟨u,z⟩:=(x a o q).there;rw[e] at z;cases z
section
variable {X:Cx} {pins:List (Addr×Obj)} {σ:St} {H H':Hp} {s:Shared} {h':Heap}
theorem Inv.stepN (I:Inv X pins σ H s)
  (hch:∀b∈ch,X.s₀.heap.get? b=none/\b≠X.env.locals/\(∀x c,X.env.cells.lookup x=some c->c≠b)/\∀p∈X.pn++pins,p.1≠b)
  (keep:∀b o,b≠X.env.locals->b∉X.fs->b∉ch->s.heap.get? b=some o->H b=none->h'.get? b=some o)
  (slot:∀b o,b≠X.env.locals->b∈X.fs->b∉ch->s.heap.get? b=some o->H b=none->∃sl,h'.get? b=some { o with slots:=sl }) (free:∀b o,b∉ch->s.heap.get? b=some o->H b=none->H' b=none)
  (there:∀b o,b∉ch->s.heap.get? b=some o->∃o',h'.get? b=some o')
  (tups:∀b xs,H b=some (.tup xs)->H' b=some (.tup xs)) (frzs:∀b o u,H b=some (.frz o u)->H' b=some (.frz o u)) (tbls:∀b ps,H b=some (.tbl ps)->∃more,H' b=some (.tbl (ps++more)))
  (ns:∀m,s.heap.Ns X.env.locals m->h'.Ns X.env.locals m) (hok:HOk X.prog X.w H' h') :
  Inv X pins σ H' { s with heap:=h' }:=by
 have a5:∀b o,X.s₀.heap.get? b=some o->b≠X.env.locals:=λb o e=>Cd (Cn (D5 e) I.ok.above)
 have a4:∀b o,X.s₀.heap.get? b=some o->b∉ch:=λb o e hb=>by
  rw[(hch b hb).1] at e;cases e
 have J:∀x c,X.env.cells.lookup x=some c->∀v,s.heap.IsCell c v->h'.IsCell c v:=λx c e v ⟨o,ho,hd⟩=>by
  have U:c∉ch:=λz=>(hch c z).2.2.1 x c e rfl
  by_cases hc:c∈X.fs
  ·obtain⟨sl,q⟩:=slot c o (I.cne x c e) hc U ho (I.freeC x c e);exact⟨_,q,hd⟩
  ·exact⟨o,keep c o (I.cne x c e) hc U ho (I.freeC x c e),hd⟩
 refine⟨I.ok,I.os,I.bare,⟨λb o e n hb hx=>?_,λb o e n hb hx=>?_,λb o e n hx=>?_,λb o e hx=>?_,λb xs e=>tups b xs (I.base.tups b xs e),λb o xs e=>frzs b o xs (I.base.frzs b o xs e),λb ps e=>?_⟩,?_,λx c e=>?_,?_,λx c e=>?_,λp hp=>?_,hok,I.len⟩
 ·exact keep b o (a5 b o e) hb (a4 b o e) (I.base.keep b o e n hb hx) (I.base.free b o e n hx)
 ·obtain⟨sl,e1⟩:=I.base.slot b o e n hb hx;obtain⟨a6,e2⟩:=slot b _ (a5 b o e) hb (a4 b o e) e1 (I.base.free b o e n hx);exact⟨a6,e2⟩
 ·obtain⟨o',e1⟩:=I.base.there b o e hx;exact free b o' (a4 b o e) e1 (I.base.free b o e n hx)
 ·obtain⟨o',e1⟩:=I.base.there b o e hx;exact there b o' (a4 b o e) e1
 ·obtain⟨m1,e1⟩:=I.base.tbls b ps e;obtain⟨m2,e2⟩:=tbls b _ e1;exact⟨m1++m2,by rw[e2,Array.append_assoc]⟩
 ·obtain⟨m,hn,hl⟩:=I.loc;refine⟨m,ns m hn,λi x v e1 e2 e3=>?_⟩;obtain⟨u,r,l⟩:=hl i x v e1 e2 e3;refine⟨u,r,?_⟩;rcases l with l|⟨k,c,e,z⟩
  ·exact .inl l
  ·exact .inr ⟨k,c,e,J x c e _ z⟩
 ·obtain⟨v,z⟩:=I.cell x c e;exact⟨v,J x c e v z⟩
 ·obtain⟨m,⟨o,_,_,ho,_⟩,_⟩:=I.loc;exact free _ o (λz=>(hch _ z).2.1 rfl) ho I.free
 ·obtain⟨v,o,ho,hd⟩:=I.cell x c e;exact free c o (λz=>(hch c z).2.2.1 x c e rfl) ho (I.freeC x c e)
 ·obtain⟨e,n,ne,nf,d⟩:=I.pin p hp;have U:p.1∉ch:=λz=>(hch p.1 z).2.2.2 p hp rfl
  exact⟨keep p.1 p.2 ne nf U e n,free p.1 p.2 U e n,ne,nf,d⟩
def Z2 (X:Cx)(pins:List (Addr×Obj))(H:Hp)(b:Addr):Prop:=H b=none/\X.s₀.heap.get? b=none/\∀p∈X.pn++pins,p.1≠b
def Air (X:Cx)(pins:List (Addr×Obj))(H:Hp)(h:Heap)(cls:Value)(e:Addr):Prop:=
 ∃oe vs T oT ts a0,h.get? e=some oe/\(oe.cls=cls/\vs[0]?=some a0)/\oe.data=.fields vs/\vs[1]?=some (.ref T)/\T≠e/\h.get? T=some oT/\oT.data=.fields ts/\ts[3]?=some .none/\Z2 X pins H e/\Z2 X pins H T
abbrev ZZ (X:Cx)(h:Heap)(ex:List Addr):Heap:=W.hideAll h (IA X.stack++ex)
theorem YZ {b}{o}(e:h.get? b=some o)(h1:b∉IA X.stack)(h2:b∉ex):(ZZ X h ex).get? b=some o:=
 W.hideAll_get _ e λz=>(Cr.mp z).elim h1 h2
theorem ZX (I:Inv X pins σ H s)(hex:∀b∈ex,Z2 X pins H b)(hexf:∀b∈ex,∀o,s.heap.get? b=some o->∃vs,o.data=.fields vs)
  (st:(ZZ X s.heap ex).StaysIn h') (up:s.heap.UpToSlots h'):Inv X pins σ H { s with heap:=h' }:=by
 have fr:∀b∈IA X.stack,∀o,s.heap.get? b=some o->∀vs,o.data≠.fields vs:=λb U o e=>by
  obtain⟨_,o',e',d⟩:=I.stack.mem U;rw[e] at e';cases e';exact d
 have sub:∀b,b∈X.fs->b∈IA X.stack:=λb U=>by
  rcases I.ok.stk with e|⟨e,_⟩
  ·rw[e];exact U
  ·rw[e];unfold IA;rw[List.filterMap_cons];split
   ·exact U
   ·exact Cu _ U
 have J:∀b o,b∉IA X.stack->b∉ex->s.heap.get? b=some o->h'.get? b=some o:=λb o h1 h2 e=>st b o (YZ e h1 h2)
 refine I.stepN (ch:=ex) (λb U=>⟨(hex b U).2.1,λz=>?_,λx c e z=>?_,(hex b U).2.2⟩) (λb o h1 h2 h3 e n=>J b o (λz=>?_) h3 e) (λb o h1 h2 h3 e n=>up b o e (fr b (sub b h2) o e)) (λ_ _ _ _ n=>n) (λb o h1 e=>?_) (λ_ _ e=>e) (λ_ _ _ e=>e) (λb ps e=>⟨#[],by rw[e];simp⟩) (λm hm=>up.ns hm) (λb u e=>?_)
 ·obtain⟨m,⟨o,es,ep,ho,hd,_⟩,_⟩:=I.loc;subst z;obtain⟨vs,q⟩:=hexf _ U o ho;rw[q] at hd;cases hd
 ·obtain⟨v,o,ho,hd⟩:=I.cell x c e;subst z;obtain⟨vs,q⟩:=hexf _ U o ho;rw[q] at hd;cases hd
 ·rcases Ca.mp (I.stkSub b z) with q|q
  ·exact h1 q
  ·exact h2 q
 ·by_cases U:b∈IA X.stack
  ·obtain⟨sl,q⟩:=up b o e (fr b U o e);exact⟨_,q⟩
  ·exact⟨o,J b o U h1 e⟩
 ·have nt:∀c v,H c=some v->c∉IA X.stack/\c∉ex:=λc v q=>⟨λz=>(by rw[I.stkFree c z] at q;cases q),λz=>(by rw[(hex c z).1] at q;cases q)⟩
  refine(I.hok b u e).stay (λc v hc q=>?_) (λ_ q=>q) λ_ _ q=>q
  rcases hc with rfl|hc
  ·exact J c v (nt c _ e).1 (nt c _ e).2 q
  ·exact J c v (nt c _ hc).1 (nt c _ hc).2 q
theorem Yo {a0}(I:Inv X pins σ H s)(hx0:X.ex=[])(hex:∀b∈ex,Z2 X pins H b)(he:e∈ex)(fr:h'.FunFrames (ZZ X s.heap ex) X.stack)(tr:h'.TracedW (ZZ X s.heap ex) e cls a0):Air X pins H h' cls e:=by
 obtain⟨oe,vs,T,oT,ts,h1,h2,h3,h4,U,h6,h7,h8,h9⟩:=tr;refine⟨oe,vs,T,oT,ts,a0,h1,h2,h3,h4,h6,h7,h8,h9,hex e he,?_⟩;have nf:T∉IA X.stack:=λz=>by
  obtain⟨_,o,q,d⟩:=fr.mem z;rw[h7] at q;cases q;exact d _ h8
 have J:∀o,s.heap.get? T=some o->T∈ex:=λo q=>by
  by_cases z:T∈ex
  ·exact z
  ·rw[YZ q nf z] at U;cases U
 refine⟨?_,?_,λp hp z=>?_⟩
 ·cases q:H T with
  | none=>rfl
  | some u=>
   obtain⟨o,z⟩:=(I.hok T u q).there;rw[(hex T (J o z)).1] at q;cases q
 ·cases q:X.s₀.heap.get? T with
  | none=>rfl
  | some o=>
   obtain⟨o',z⟩:=I.base.there T o q (by rw[hx0];simp);rw[(hex T (J o' z)).2.1] at q;cases q
 ·have q:=(I.pin p hp).1;rw[z] at q;exact(hex T (J _ q)).2.2 p hp z
def QK (X:Cx):Prop:=X.ex=[]/\X.stack=X.env::X.outer/\X.env.frame=some X.env.locals
theorem QT (I:Inv X pins σ H s):s.heap.FunFrames (ZZ X s.heap ex) X.stack:=
 W.funFrames_hide I.stack λenv he a J=>C0 _ (List.mem_filterMap.mpr ⟨env,he,J⟩)
theorem Zv:(ZZ X s.heap ex).StaysIn s.heap:=λ_ _ e=>W.of_hideAll _ e
theorem Xg {b}(hb:b∈ex):(ZZ X s.heap ex).get? b=none:=W.hideAll_none _ (CU _ hb)
theorem NY {vs}{Q}(I:Inv X pins σ H s)(ow:QK X)(hx:Heap.MadeExcOf s.heap h' e cls vs)
  (q:∀J,Inv X pins σ H { s with heap:=J }->Air X pins H J cls e->Q () { s with heap:=J }):wpAny M X.A (leaving X.env (.ref e)) Q E { s with heap:=h' }:=by
 have I1:Inv X pins σ H { s with heap:=h' }:=I.kept (t':=s.toks) hx.keeps;obtain⟨t,he,_,_⟩:=hx.there;have U:∀b∈[e],Z2 X pins H b:=λb hb=>by
  have z:=D7.mp hb;subst z;refine⟨I.hok.none_of hx.new,?_,λp hp z=>?_⟩
  ·cases q:X.s₀.heap.get? b with
   | none=>rfl
   | some o=>
    obtain⟨o',z⟩:=I.base.there b o q (by rw[ow.1];simp);rw[hx.new] at z;cases z
  ·have q:=(I.pin p hp).1;rw[z,hx.new] at q;cases q
 have fs:=QT (ex:=[e]) I1;have fr:=I1.ok.frames;rw[ow.2.1] at fs fr;refine wpAny_leaving_firstW (base:=ZZ X h' [e]) fr fs ow.2.2 he (Zv (s:={ s with heap:=h' })) (Xg (s:={ s with heap:=h' }) (by simp)) rfl rfl rfl λJ L=>?_
 obtain ⟨l1,l2,l3,l4⟩:=L;rw [<-ow.2.1] at l2;exact q J (ZX (s:={ s with heap:=h' }) I1 U (fun b hb o z=>by
  have w:=D7.mp hb;subst w;have z':h'.get? b=some o:=z;rw[he] at z';cases z';exact⟨_,rfl⟩) l1 l4) (Yo (s:={ s with heap:=h' }) I1 ow.1 U (by simp) l2 l3)
theorem Air.two (a:Air X pins H h cls e):∃T a0,(∀b∈[e,T],Z2 X pins H b)/\(∀b∈[e,T],∀o,h.get? b=some o->∃vs,o.data=.fields vs)/\h.TracedW (ZZ X h [e,T]) e cls a0:=by
 obtain⟨oe,vs,T,oT,ts,a0,h1,h2,h3,h4,h6,U,h8,h9,l1,l2⟩:=a;refine⟨T,a0,λb J=>?_,λb J o z=>?_,oe,vs,T,oT,ts,h1,h2,h3,h4,W.hideAll_none _ (CU _ (by simp)),h6,U,h8,h9⟩
 ·rcases Ca.mp J with rfl|J
  ·exact l1
  ·rw[D7.mp J];exact l2
 ·rcases Ca.mp J with rfl|J
  ·rw[h1] at z;cases z;exact⟨_,h3⟩
  ·rw[D7.mp J,U] at z;cases z;exact⟨_,h8⟩
theorem Ub {Q}(I:Inv X pins σ H s)(ow:QK X)(a:Air X pins H s.heap cls e)
  (q:∀J,Inv X pins σ H { s with heap:=J }->Air X pins H J cls e->Q () { s with heap:=J }):wpAny M X.A (leaving X.env (.ref e)) Q E s:=by
 obtain⟨T,a0,a4,U,tr⟩:=a.two;have fs:=QT (ex:=[e,T]) I;have fr:=I.ok.frames;rw[ow.2.1] at fs fr;refine wpAny_leaving_nextW (base:=ZZ X s.heap [e,T]) fr fs ow.2.2 tr Zv (Xg (by simp)) λJ L=>?_
 obtain ⟨l1,l2,l3,l4⟩:=L;rw [<-ow.2.1] at l2;exact q J (ZX I a4 U l1 l4) (Yo I ow.1 a4 (by simp) l2 l3)
end
def BI (H:Hp)(h old:Heap)(cls:Value)(e:Addr):Prop:=
 ∃oe vs T oT ts a0,h.get? e=some oe/\(oe.cls=cls/\vs[0]?=some a0)/\oe.data=.fields vs/\vs[1]?=some (.ref T)/\T≠e/\h.get? T=some oT/\oT.data=.fields ts/\ts[3]?=some .none/\(H e=none/\old.get? e=none)/\(H T=none/\old.get? T=none)
def CXr (P:Program)(w:World):CXT:=λouter H s E e s'=>
 ∃ea cls H',e=.ref ea/\s'.os=s.os/\AllBare s'.gens/\Un (IA outer) [] H H' s.heap s'.heap/\HOk P w H' s'.heap/\BI H' s'.heap s.heap cls ea/\E cls none H'
section
variable {X:Cx} {pins:List (Addr×Obj)} {σ:St} {H:Hp} {s s':Shared} {E:XK} {e:Value}
theorem CXr.here (I:Inv X pins σ H s)(hx:X.ex=[])(c:CXr X.prog X.w X.stack H s E e s'):∃ea cls H',e=.ref ea/\Inv X pins σ H' s'/\Air X pins H' s'.heap cls ea/\E cls none H':=by
 obtain⟨ea,cls,H',rfl,os,bare,un,J,⟨oe,vs,T,oT,ts,a0,h1,h2,h3,h4,h5,h6,h7,h8,n1,n2⟩,q⟩:=c;have U:∀b,H' b=none->s.heap.get? b=none->Z2 X pins H' b:=λb hn ho=>by
  refine⟨hn,?_,λp hp z=>?_⟩
  ·cases q:X.s₀.heap.get? b with
   | none=>rfl
   | some o=>
    obtain⟨o',z⟩:=I.base.there b o q (by rw[hx];simp);rw[ho] at z;cases z
  ·have q:=(I.pin p hp).1;rw[z,ho] at q;cases q
 exact⟨ea,cls,H',rfl,I.call' (ch:=[]) os un J bare (λb z=>absurd z (by simp)),⟨oe,vs,T,oT,ts,a0,h1,h2,h3,h4,h5,h6,h7,h8,U _ n1.1 n1.2,U _ n2.1 n2.2⟩,q⟩
end
section
variable {P:Program} {w:World} {K:W.Frag} {mg:Str->Option Value} {base:Heap} {N:List Str} {qual:Str} {sc:Scope} {f:Addr} {cd:Value} {A:Around} {outer:List Env} {s0:Shared} {H0:Hp} {E:XK}
theorem Wh:QK (Xi CX P w K mg base N qual sc f cd A outer s0 H0 E):=⟨rfl,rfl,rfl⟩
end
def BE (X:Cx)(E:XK):Prop:=∀(pins:List (Addr×Obj)) (σ:St) (H:Hp) (s:Shared) (h':Heap) (e:Addr) (cls:Value) (vs:List Value),Inv X pins σ H s->Heap.MadeExcOf s.heap h' e cls vs->E cls none H->X.xe (.ref e) { s with heap:=h' }
def MZ (E:XK)(C:Addr)(t:TA):TS:=λ_ σ H=>t σ H λvs H1=>vs.length<=sizeLine/\E (.ref C) none H1
section
variable {X:Cx} {E:XK} {x:Str} {C:Addr} {bmB bmN:List Value} {B Bn newId nid initId inN:String} {np cpos pos:Pos} {e₀:Expr} {rest:List Expr} {t:TA}
theorem ZC (th:BE X E)(hc:X.calm=true)(hg:Gl X x)(hm:X.mg x=some (.ref C))(q:W.excIn X.K C bmB newId=true)(Fn:ExcBaseFacts Bn newId inN bmN)(hBn:bmB.contains (.type Bn)=true)(FB:ExcBaseFacts B nid initId bmB)(ha:PA X (e₀::rest) t)
  (he:starEach (e₀::rest) X.env=(false,eval e₀ X.env)::starEach rest X.env:=by rfl) (hpl:(backTo cpos (starEach rest X.env)).any (·.1)=false:=by rfl) (hd:(x==("__debug__":Str))=false:=by decide) :
  PS X (.Raise (some (.Call (.Name x np) (e₀::rest) [] cpos)) none pos) (MZ E C t):=by
 intro pins s σ H D I h;unfold W.excIn at q;split at q
 ·rename_i dd a9 sl ho;split at q
  ·rename_i C' bm k0 k1 k2 k3 n k5 a7 hs;simp only[CV,beq_iff_eq,As] at q;obtain⟨⟨⟨⟨⟨rfl,rfl⟩,a4⟩,ht⟩,J⟩,a8⟩:=q;obtain⟨nm,bs,ag,ns,qn,af,sn,sub,ab,col,ah⟩:=a9;dsimp only at a7 a4 J a8;subst a7 a4;have ae:sl=#[k0,k1,k2,k3,some (.builtin n),k5]:=by
    obtain⟨l⟩:=sl;simp only at hs;rw[hs]
   subst ae;have T0:OwnTail s.heap bmB bm:=W.tail_of_in I.kIn ht;refine wpAny_Raise_call_subU (C:=C') (nm:=nm) (q:=qn) (N:=ns) (bs:=bs) (bm:=bm) (hdct:=af) (sn:=sn) (sub:=sub) (ab:=ab) (col:=col) (dd:=dd) (k0:=k0) (k1:=k1) (k2:=k2) (k3:=k3) (k5:=k5)
    Fn hBn FB (mN:=s.heap.nsMap ns) (T0.hasType FB.hasBase) (I.ok.hd hc) (by rw[he];show(false||(backTo cpos (starEach rest X.env)).any (·.1))=false;rw[hpl];rfl) (W.nsMap_none_of_in I.kIn J a8) (Zo I hg hm ⟨rfl,?_⟩ hd)
   have a6:=ha cpos pins s σ H _ I h;rw[he] at a6 ⊢;have U:∀{s2:Shared},X.K.In s2.heap->s2.heap.Ns ns (s.heap.nsMap ns):=λ{s2} aa=>by
    unfold W.nsOkIn at J;split at J
    ·rename_i oo es nn ai a5;have n1:s.heap.Ns ns (s.heap.nsMap ns):=.of_isNs (W.isNs_of_in I.kIn (by unfold W.nsOkIn;rw[a5];exact J));exact n1.at' λo e=>by
      have e1:=I.kIn _ _ a5;rw[e] at e1;cases e1;exact aa _ _ a5
    ·cases J
   exact Calls.evalArgs_plain (Cf a6 (fun us s2 ⟨vs,H1,I1,r,z,q⟩=>⟨rfl,by rw [<-r.length];exact z,I1.kIn _ _ ho,U I1.kIn,W.tail_of_in I1.kIn ht,fun h' e hx=>th pins σ H1 s2 h' e _ _ I1 hx q⟩) fun _ _ y=>y)
  ·cases q
 ·cases q
end
abbrev Cx.hand (X:Cx)(e:Addr):Cx:={ X with A:=X.A.mark (some (.ref e)),calm:=false,xe:=λ_ _=>False }
section
variable {X:Cx} {pins:List (Addr×Obj)} {σ:St} {H:Hp} {s:Shared} {e:Addr}
theorem Inv.hand (I:Inv X pins σ H s)(e):Inv (X.hand e) pins σ H s:=
 ⟨⟨I.ok.mod,I.ok.kind,I.ok.glob,I.ok.blt,I.ok.above,I.ok.inj,I.ok.has,I.ok.cab,λz=>Bool.noConfusion (show false=true from z),I.ok.frames,I.ok.stk,I.ok.exf,I.ok.bs,I.ok.bsz,I.ok.noex,I.ok.exfs,I.ok.funs,I.ok.frf⟩,
  I.os,I.bare,I.base,I.loc,I.cell,I.free,I.freeC,I.pin,I.hok,I.len⟩
theorem Inv.unhand (hok:X.Ok)(I:Inv (X.hand e) pins σ H s):Inv X pins σ H s:=⟨hok,I.os,I.bare,I.base,I.loc,I.cell,I.free,I.freeC,I.pin,I.hok,I.len⟩
theorem Inv.trackN {D}{o}(I:Inv X pins σ H s)(l:Z2 X pins H D)(hf:∃u vs,s.heap.get? D=some u/\u.data=.fields vs)(new:ObjOk X.prog X.w (upd H D o) s.heap D o):Inv X pins σ (upd H D o) s:=by
 have ne:∀b u,H b=some u->b≠D:=λb u e=>Qi e l.1
 obtain⟨u,vs,hu,hd⟩:=hf;have:=I.stepN (h':=s.heap) (H':=upd H D o) (ch:=[D]) (λb U=>?_) (λb o _ _ _ e _=>e) (λb o _ _ _ e _=>⟨o.slots,e⟩) (λb u U _ n=>by rw[Qj (by simpa using U)];exact n) (λb o _ e=>⟨o,e⟩)
  (λb xs e=>by rw[Qj (ne b _ e)];exact e) (λb o' u e=>by rw[Qj (ne b _ e)];exact e) (λb ps e=>⟨#[],by rw[Qj (ne b _ e),e];simp⟩) (λ_ z=>z) (λb u e=>?_)
 ·exact this
 ·have z:=D7.mp U;subst z;refine⟨l.2.1,λz=>?_,λx c e z=>?_,l.2.2⟩
  ·obtain ⟨m,⟨o,es,ep,ho,J,_⟩,_⟩:=I.loc;rw [<-z,hu] at ho;cases ho;rw [hd] at J;cases J
  ·obtain⟨v,o,ho,J⟩:=I.cell x c e;rw[z,hu] at ho;cases ho;rw[hd] at J;cases J
 ·by_cases U:b=D
  ·subst U;rw[Qa] at e;cases e;exact new
  ·rw[Qj U] at e;exact(I.hok b u e).stay (λ_ _ _ q=>q) (λc q=>by rw[Qj (ne c _ q)];exact q) λc xs q=>by rw[Qj (ne c _ q)];exact q
theorem Inv.forget {n}(I:Inv X pins σ H s)(hN:X.N.Nodup)(hi:X.N[i]?=some n)
  (ns:∀m,s.heap.Ns X.env.locals m->∃v,h'.Ns X.env.locals (λx=>if x=n then v else m x)) (hs:Heap.SameBut X.env.locals s.heap h'):Inv X pins (σ.set i none) H { s with heap:=h',toks:=t' }:=by
 obtain⟨m,hn,hl⟩:=id I.loc;obtain⟨v0,a4⟩:=ns m hn;have a5:i<σ.length:=by rw[I.len];exact(Cg.mp hi).1
 have J:∀b o,X.s₀.heap.get? b=some o->b≠X.env.locals:=λb o e=>Cd (Cn (D5 e) I.ok.above)
 refine⟨I.ok,I.os,I.bare,⟨λb o e n hb U=>?_,λb o e n hb U=>?_,I.base.free,λb o e U=>?_,I.base.tups,I.base.frzs,I.base.tbls⟩,⟨_,a4,λj y v' e1 e2 e3=>?_⟩,λy c e=>?_,I.free,I.freeC,λp hp=>?_,λb ob e=>?_,by simpa using I.len⟩
 ·exact(hs.2 b (J b o e)).trans (I.base.keep b o e n hb U)
 ·obtain⟨sl,e1⟩:=I.base.slot b o e n hb U;exact⟨sl,(hs.2 b (J b o e)).trans e1⟩
 ·obtain⟨o',e1⟩:=I.base.there b o e U;exact⟨o',(hs.2 b (J b o e)).trans e1⟩
 ·by_cases hj:j=i
  ·subst hj;rw[List.getElem?_set_self a5] at e2;cases e2
  ·rw[List.getElem?_set_ne (CP hj)] at e2;obtain⟨u',r',q⟩:=hl j y v' e1 e2 e3;refine⟨u',r',?_⟩;rcases q with ⟨k,e⟩|⟨k,c,e,z⟩
   ·refine .inl ⟨k,?_⟩;have:y≠n:=λe=>hj (Jh hN e1 (e▸hi))
    simp[this,e]
   ·exact .inr ⟨k,c,e,z.sameBut hs (I.cne y c e)⟩
 ·obtain⟨w',z⟩:=I.cell y c e;exact⟨w',z.sameBut hs (I.cne y c e)⟩
 ·obtain⟨e,n,ne,nf,d⟩:=I.pin p hp;exact⟨(hs.2 p.1 ne).trans e,n,ne,nf,d⟩
 ·refine(I.hok b ob e).stay (λc w' hc q=>(hs.2 c ?_).trans q) (λ_ q=>q) λ_ _ q=>q
  intro z;subst z;rcases hc with z|hc
  ·rw [<-z,I.free] at e;cases e
  ·rw[I.free] at hc;cases hc
end
def PM (e:Addr)(cls:Value)(h:Heap):Prop:=∃o vs,h.get? e=some o/\o.cls=cls/\o.data=.fields vs
abbrev TX:=St->Hp->VK->XK->Prop
def Yz (sp:Sp)(t:TA):TX:=λσ H Q E=>t σ H λvs H1=>sp vs H1 Q E
section
variable {X:Cx} {k:Nat} {f:Addr} {fd:FuncData} {ps:List Str} {sp:Sp} {x:Str} {p pos:Pos} {e:Expr} {es:List Expr} {t:TA}
variable {tx:TX}
def lZ (tx:TX):QO->XK->St->Hp->Prop:=λD E σ H=>tx σ H (λ_ H1=>D.nx σ H1) E
def lM (i:Nat)(tx:TX):QO->XK->St->Hp->Prop:=λD E σ H=>tx σ H (λv H1=>D.nx (σ.set i (some v)) H1) E
end
section
variable {X:Cx} {body suite:List Stmt} {b₀:Stmt} {x n:Str} {C:Addr} {np hp pos:Pos} {tb:QO->XK->St->Hp->Prop} {ts:TS}
theorem Wy {Q}(I:Inv X pins σ H s)(ow:QK X)(a:Air X pins H s.heap cls ea)
  (q:∀h',Inv X pins σ H { s with heap:=h' }->Air X pins H h' cls ea->Q () { s with heap:=h' }):wpAny M A (setFlight (.ref ea) none) Q E s:=by
 obtain⟨T,a0,J,U,tr⟩:=a.two;refine lands_againW (base:=ZZ X s.heap [ea,T]) ⟨Zv,Xg (by simp),QT I,tr⟩ λh' fl up=>?_
 exact q h' (ZX I J U fl.1 up) (Yo I ow.1 J (by simp) fl.2.2.1 fl.2.2.2)
end
end L2
namespace L2
open Spec PyProof.Rows W Builtin Builtin.ObjectAttr Builtin.Getset_descriptor
structure Zs (K:W.Frag)(C:Addr):Prop where
 ga:W.findIn K (.ref C) "__getattribute__"=some (some (.builtin "BaseException.__getattribute__"))
 gt:W.findIn K (.ref C) "__getattr__"=some none
 ca:W.findIn K (.ref C) "__class__"=some (some (.builtin "object.__class__"))
 mB:W.mroIn K C (.type "BaseException")=some true
 mO:W.mroIn K C (.type "object")=some true
 hc:(W.clsIn K C).isSome=true
section
variable {prog:Program} {w:World} {A:Around} {E:Value->Shared->Prop} {h:Heap} {g:Array GenState} {d:Drawn} {t:Nat} {os:OsState} {K:W.Frag} {a C:Addr} {o:Obj}
theorem HA {R}{tp}(Z:Zs K C)(X:K.In h)(hx:h.get? a=some o)(hc:o.cls=.ref C)(q:R (.ok (.ret (.ref C))) ⟨h,g,d,t,os⟩) :
  codeAny (model prog w) A (.call (.builtin "getset_descriptor.__get__") ⟨[.builtin "object.__class__",.ref a,tp],[]⟩) R ⟨h,g,d,t,os⟩:=by
 have U:W.Looks (model prog w) h (typeOf (.ref a)) (.ref C):=hc▸(W.Looks.ld hx).andThen .now;have J:=W.looks_mroIn (M:=model prog w) X Z.mO;refine codeAny_call_builtin PySem.W.KF.slot_gs.plain PySem.W.KF.entry_gs (W.KF.slot_gs.check _ _ _ _ _ _ _ _ W.KF.type_class (W.KF.args_gs _ _ _) ?_);unfold Builtin.«getset_descriptor.__get__» descrGet;rw[W.dga_obj];refine DX (D3 ?_);unfold descrGetter descrCheckInstance descrNameAndClass isInstance;simp only[W.KF.owner_class]
 repeat lk
 refine⟨Code.quiet_builtin _ (by decide +kernel),codeAny_builtin PySem.W.KF.entry_class ?_⟩;unfold Builtin.«object.__class__» shownTypeOf
 repeat lk
 exact q
theorem N8 {tk}{Q}(Z:Zs K C)(X:K.In h)(hx:h.get? a=some o)(hc:o.cls=.ref C)(q:Q (.done (.ret (.ref C))) ⟨h,g,d,t,os⟩) :
  wpAny (model prog w) A (Builtin.«object.__getattribute__» ⟨[.ref a,.str "__class__" tk],[]⟩) Q E ⟨h,g,d,t,os⟩:=by
 have L0:W.Looks (model prog w) h (typeOf (.ref a)) (.ref C):=hc▸(W.Looks.ld hx).andThen .now;have L2:=W.looks_findIn (M:=model prog w) X Z.ca;have J:typeOf (.builtin "object.__class__")=pure (.type "getset_descriptor"):=by kernel_rfl
 have f6:=F.slot_gs_get.lookup;have U:=F.slot_gs_set.lookup;unfold Builtin.«object.__getattribute__»
 repeat (any_goals (first|assumption|(with_reducible refine wpAny_loadPart_at hx ?_;rw[hc])|with_reducible refine L2.at ?_|wp_step))
 refine HA Z X hx hc ?_
 repeat (any_goals (first|assumption|wp_step))
theorem Kw {nameV}{Q}(Z:Zs K C)(X:K.In h)(hx:h.get? a=some o)(hc:o.cls=.ref C)(q:Q () ⟨h,g,d,t,os⟩):wpAny M A (checkBuiltinCall "BaseException.__getattribute__" ⟨[.ref a,nameV],[]⟩) Q E ⟨h,g,d,t,os⟩:=by
 have hk:builtinKind "BaseException.__getattribute__"=some .slot:=by decide +kernel
 have J:splitId "BaseException.__getattribute__"=some ("BaseException","__getattribute__"):=by decide +kernel
 have ha:=F.args_bexc_ga (.ref a) nameV;have U:=W.looks_mroIn (M:=M) X Z.mB;simp only[checkBuiltinCall,hk,J];refine DX ?_;unfold isInstance
 repeat (first|(with_reducible refine wpAny_loadPart_at hx ?_;rw[hc])|with_reducible refine U.at ?_|wp_step)
 exact q
theorem N9 {Q}(Z:Zs K C)(X:K.In h)(hx:h.get? a=some o)(hc:o.cls=.ref C)(q:Q (some (.ref C)) ⟨h,g,d,t+1,os⟩):wpAny (model prog w) A (getAttr? (.ref a) "__class__") Q E ⟨h,g,d,t,os⟩:=by
  have U:W.Looks (model prog w) h (typeOf (.ref a)) (.ref C):=hc▸(W.Looks.ld hx).andThen .now;have J:=W.looks_findIn (M:=model prog w) X Z.ga;have L2:=W.looks_findIn (M:=model prog w) X Z.gt;have f3:=F.attr_ValueError.ga.bind (.ref a);unfold getAttr? getAttrBy? getAttrBy;refine DX (wpAny_mkText (DX (wpAny_attempt (wpAny_holding (DX (U.at (DX (J.at ?_))))))));dsimp only;rw[DY (show¬((onTheHeap (Value.ref C)&&Value.builtin "BaseException.__getattribute__" == Value.builtin "object.__getattribute__")=true) by
    rw[show(Value.builtin "BaseException.__getattribute__" == Value.builtin "object.__getattribute__")=false by decide +kernel,Aa];exact Cy)]
  unfold getAttrByItsOwn hookBefore;rw[DZ (show onTheHeap (Value.ref C)=true from rfl)];refine DX (L2.at ?_);refine DX (wpAny_attempt (wpAny_holding ?_));unfold callGetattribute;rw[DY (show¬((false&&onTheHeap (Value.builtin "BaseException.__getattribute__"))=true) from Cy)];unfold boundAndCalled
  repeat (any_goals (first|assumption|wp_step))
  refine codeAny_call_builtin F.attr_ValueError.ga.plain F.entry_bexc_ga (Kw Z X hx hc (N8 Z X hx hc ?_))
  repeat (any_goals (first|assumption|wp_step))
theorem X7 (Z:Zs K C):W.KitX K (.ref e) (.ref C) (PM e (.ref C)) where
 ty:=λM h _ ⟨o,vs,h1,h2,_⟩=>h2▸(W.Looks.ld h1).andThen .now
 it:=λ_ _ X _=>by
  obtain⟨cd,J⟩:=Option.isSome_iff_exists.mp Z.hc;unfold W.clsIn at J;split at J
  ·rename_i c' d' U a5 ho;intro A' Q' E' s' k q;unfold isType loadHead;exact DX (wpAny_loadPart (k _ _ (X _ _ ho)) (D3 q))
  ·cases J
 ne:=λh tp dd its n sl X a4=>by
  obtain⟨cd,J⟩:=Option.isSome_iff_exists.mp Z.hc;refine Cc.mpr λq=>?_
  have e:C=tp:=Value.ref.inj (beq_iff_eq.mp q);subst e;unfold W.clsIn at J;split at J
  ·rename_i c' d' U a5 ho;have z:=(X _ _ ho).symm.trans a4;cases z
  ·cases J
 ca:=λ{_ _ _ _ _ s} X p k=>by
  obtain⟨h,g,d,t,os⟩:=s;obtain⟨o,vs,h1,h2,_⟩:=p;exact N9 Z X h1 h2 k
end
def Es (K:W.Frag):List V->Hp->VK->Prop:=λxs H Q=>∃e c C b u,xs=[.ref e,c]/\RelV c u/\(∀u',RelV c u'->u'=u)/\H e=some (.ext (PM e (.ref C)))/\Zs K C/\W.kitOne K (.ref C) u=some b/\Q (.bl b) H
def Lj (K:W.Frag):List V->Hp->VK->Prop:=λxs H Q=>SI K xs H Q∨Es K xs H Q
section
variable {X:Cx}
theorem Mo:CallR X (.builtin "isinstance") (Lj X.K):=by
 intro pins s σ H xs us Q I r h;rcases h with h|h
 ·exact Bu pins s σ H xs us Q I r h
 ·obtain⟨e,c,C,b,u,rfl,rc,U,he,Z,k,q⟩:=h;obtain⟨u1,u2,rfl,r1,r2⟩:=Ka r;obtain rfl:=U _ r2;obtain rfl:=r1.ref_of;obtain⟨p,_⟩:=(show ObjOk X.prog X.w H s.heap e (.ext (PM e (.ref C))) from I.hok e _ he)
  exact W.kia_one (X7 Z) I.kIn p k (λz=>nomatch z) λJ=>⟨.bl b,H,I.tok J,rfl,q⟩
end
theorem Sa {x}{t}{b}(ty:TyOf K H x t)(e:W.kitOne K t (.type T)=some b)(q:Q (.bl b) H):Lj K [x,.ty T] H Q:=.inl (FN ty e q)
end L2
namespace L2
open Spec PyProof.Rows
abbrev Mr:List Value:=[.type "ValueError",.type "Exception",.type "BaseException",.type "object"]
theorem BR {E}{t}{D}:MZ E C t D σ H=t σ H λvs H1=>vs.length<=sizeLine/\E (.ref C) none H1:=rfl
theorem Ft {tx}{D}{E}:lZ tx D E σ H=tx σ H (λ_ H1=>D.nx σ H1) E:=rfl
theorem Fu {tx}{D}{E}:lM i tx D E σ H=tx σ H (λv H1=>D.nx (σ.set i (some v)) H1) E:=rfl
theorem Fo {sp}{t}{E}:Yz sp t σ H Q E=t σ H λvs H1=>sp vs H1 Q E:=rfl
def mm (φ:V->Hp->VK->XK->Prop):Sp:=λvs H Q E=>∃a,vs=[a]/\φ a H Q E
def ml (φ:V->V->Hp->VK->XK->Prop):Sp:=λvs H Q E=>∃a b,vs=[a,b]/\φ a b H Q E
theorem WG:bootBuiltins "ValueError"=some (.type "ValueError"):=by kernel_rfl
theorem exm_of {cd}{b}(h1:W.subIn K (.ref C) (.type "BaseException")=some true)(h2:W.clsIn K C=some cd)(h3:W.typeIn K (.ref C)=some (.type "type"))(h4:W.subIn K cls (.ref C)=some b):W.exmOne K cls (.ref C)=some b:=by
 unfold W.exmOne W.kitCls;rw[h1];dsimp only;rw[h2,h3,h4];rfl
theorem excCls_of {cd}(ga:W.findIn K (.ref C) "__getattribute__"=some (some (.builtin "BaseException.__getattribute__")))(gt:W.findIn K (.ref C) "__getattr__"=some none)(ca:W.findIn K (.ref C) "__class__"=some (some (.builtin "object.__class__")))
  (mB:W.mroIn K C (.type "BaseException")=some true) (mO:W.mroIn K C (.type "object")=some true) (hc:W.clsIn K C=some cd):Zs K C:=⟨ga,gt,ca,mB,mO,by rw[hc];rfl⟩
theorem oB (K){X}(h:X.K=K):IxR X (O3 K):=by subst h;exact Hn
theorem oC (K){X}(h:X.K=K)(hu:X.A.units+64<cLine):OpR X (compareOp .Eq) (K8 K):=by subst h;exact S7 hu
theorem nz (K){X}(h:X.K=K)(hu:X.A.units+64<cLine):OpR X (compareOp .NotEq) (K6 K):=by subst h;exact SZ hu
theorem DG (K){X}(h:X.K=K):CallR X (.builtin "len") (Lh K):=by subst h;exact Mn
theorem IT (K){X}(h:X.K=K):mj X (SH K):=by subst h;exact B4
theorem Ie (K){X}{tg l}{tl}(h:X.K=K)(hl:PE X l tl):PI X tg l (Nf K tl):=by subst h;exact Rt hl
theorem jm (K){X}{es}{k:Nat}{t}{n:Nat}{pos}(h:X.K=K)(hc:X.calm=true)(hg:PGs X es t)(hn:(assignEach es X.env).length=n:=by rfl)(hst:(assignEach es X.env).findIdx? (·.1)=none:=by rfl):PG X (.Tuple es k pos) (Hv K n t):=by
 subst h;exact SS hc hg hn hst
section
variable {X:Cx} {o e:Expr} {es:List Expr} {to:TE} {t:TA} {T:String} {name:Str} {id:String} {r:V->List V->Hp->VK->Prop} {apos cpos:Pos}
theorem QE (K)(h:X.K=K)(pa:PlainAttrs T)(slot:Slot T name id)(hty:typeOf (.builtin id)=pure (.type "method_descriptor"))(hm:kA X id r)(ho:PE X o to)(ha:PA X (e::es) t)
  (hbase:attributeBase o name X.env (eval o X.env)=eval o X.env:=by rfl)
  (hfew:((backTo cpos (starEach (e::es) X.env)).all (λx=>!x.1)&&(backToKw cpos (keywordEach [] X.env)).all (λx=>x.1.isSome)
   && decide ((e::es).length+([]:List Keyword).length+(if([]:List Keyword).isEmpty then 0 else 1)<30))=true:=by rfl)
  (hline:(apos.endLine==cpos.line)=true:=by rfl) (hs:starEach (e::es) X.env=(false,eval e X.env)::starEach es X.env:=by rfl) (hplain:(backTo cpos (starEach es X.env)).any (·.1)=false:=by rfl) :
  PE X (.Call (.Attribute o name apos) (e::es) [] cpos) (mL K T r to t):=by
 subst h;exact EA pa slot hty hm ho ha hbase hfew hline hs hplain
def K7 (K:W.Frag):List V->Hp->VK->Prop:=λxs H Q=>∃p ys,xs=[.ref p]/\(A6 K H p ys∨A9 K H p ys)/\∀l,H l=none->Q (.ref l) (upd H l (.lst ys))
theorem ZE (K)(h:X.K=K):CallR X (.type "list") (K7 K):=by subst h;exact VA
def Lf (K:W.Frag):List V->Hp->VK->Prop:=λxs H Q=>∃p ys,xs=[.ref p]/\((A6 K H p ys/\∀l,H l=none->Q (.ref l) (upd H l (.tup ys)))∨(A9 K H p ys/\Q (.ref p) H))
theorem Ss (K)(h:X.K=K):CallR X (.type "tuple") (Lf K):=by subst h;exact JT
end
abbrev DS:=Rat×Rat×Rat
def All2 (R:α->V->Prop)(qs:List α)(vs:List V):Prop:=qs.length=vs.length/\∀(i:Nat) q v,qs[i]?=some q->vs[i]?=some v->R q v
theorem All2.get {R:α->V->Prop}{qs:List α}{q:α}(h:All2 R qs vs)(a:qs[i]?=some q):∃v,vs[i]?=some v/\R q v:=by
 have hi:i<vs.length:=by rw [<-h.1];exact (Cg.mp a).1
 exact⟨vs[i],D4 hi,h.2 i q _ a (D4 hi)⟩
theorem All2.getV {R:α->V->Prop}{qs:List α}(h:All2 R qs vs)(a:vs[i]?=some v):∃q,qs[i]?=some q/\R q v:=by
 have hi:i<qs.length:=by rw[h.1];exact(Cg.mp a).1
 exact⟨qs[i],D4 hi,h.2 i _ v (D4 hi) a⟩
theorem Z0 {l:List α}{r:α}(h:l[i]?=some r):i<l.length:=(Cg.mp h).1
structure PK (K:W.Frag)(mg:Str->Option Value)(n:Str)(a:Addr)(xs:List V):Prop where
 m:mg n=some (.ref a)
 s:∀H,A9 K H a xs
theorem ktup2 {n}{i j:Int}{t u}{k:Nat}{sl}(m:mg n=some (.ref a))(l:K.lookup a=some ⟨.type "tuple",od,.seq #[.int i t,.int j u] k,sl⟩):PK K mg n a [.int i,.int j]:=
 ⟨m,λH=>.inr ⟨_,_,_,l,rfl,rfl,by show 2<=sizeLine;decide,.cons ⟨t,rfl⟩ (.cons ⟨u,rfl⟩ .nil)⟩⟩
theorem Ey {n}{xs}(k:PK X.K X.mg n a xs)(hg:Gl X n:=by rfl)(hd:(n==("__debug__":Str))=false:=by decide):PE X (.Name n pos) (tC (.ref a)):=Q9 (v:=.ref a) hg k.m rfl hd
abbrev Pr:=Int×Rat
def Er (K:W.Frag):List V->Hp->VK->Prop:=λxs H Q=>∃p c b u,xs=[.ref p,c]/\RelV c u/\(∀u',RelV c u'->u'=u)/\((∃ys,A9 K H p ys/\W.kitOne K (.type "tuple") u=some b)∨(∃ys,A6 K H p ys/\W.kitOne K (.type "list") u=some b))/\Q (.bl b) H
def G0 (K:W.Frag):List V->Hp->VK->Prop:=λxs H Q=>Lj K xs H Q∨Er K xs H Q
theorem LP (K){X}(hK:X.K=K):CallR X (.builtin "isinstance") (G0 K):=by
 subst hK;intro pins s σ H xs us Q I r h;rcases h with h|⟨p,c,b,u,rfl,rc,uq,hh,q⟩
 ·exact Mo pins s σ H xs us Q I r h
 ·obtain⟨u1,u2,rfl,r1,r2⟩:=Ka r;obtain rfl:=uq _ r2;obtain rfl:=r1.ref_of;rcases hh with ⟨ys,J,k⟩|⟨ys,J,k⟩
  ·obtain⟨its,_,⟨o,e1,e2,_⟩,_⟩:=I.tuple J;exact W.kia_one W.kitx_tuple I.kIn ⟨o,e1,e2⟩ k (λz=>nomatch z) λU=>⟨.bl b,H,I.tok U,rfl,q⟩
  ·obtain⟨its,_,⟨o,n,e1,e2,_⟩,_⟩:=I.list J;exact W.kia_one W.kitx_list I.kIn ⟨o,e1,e2⟩ k (λz=>nomatch z) λU=>⟨.bl b,H,I.tok U,rfl,q⟩
theorem W3 {x}{t}{b}(ty:TyOf K H x t)(e:W.kitOne K t (.type T)=some b)(q:Q (.bl b) H):G0 K [x,.ty T] H Q:=.inl (Sa ty e q)
theorem FO {ys}(h:A9 K H p ys)(q:Q (.bl true) H):G0 K [.ref p,.ty "tuple"] H Q:=.inr ⟨p,.ty "tuple",true,.type "tuple",rfl,rfl,λ_ h=>h,.inl ⟨ys,h,rfl⟩,q⟩
theorem Wo (xs)(k:Nat):ZW xs none (some (k:Int))=xs.take k:=by
 unfold ZW;rw[HT.sIx_none,HT.sIx_nat,List.drop_zero,Nat.sub_zero];by_cases h:k<=xs.length
 ·rw[Nat.min_eq_left h]
 ·rw[Nat.min_eq_right (by omega),CH (D2 _),CH (by omega)]
theorem XS (xs)(k:Nat):ZW xs (some (k:Int)) none=xs.drop k:=by
 unfold ZW;rw[HT.sIx_none,HT.sIx_nat];by_cases h:k<=xs.length
 ·rw[Nat.min_eq_left h,CH (by rw[Ag];omega)]
 ·rw[Nat.min_eq_right (by omega),List.drop_of_length_le (D2 _),List.drop_of_length_le (by omega)];simp
theorem Vv (xs)(j k:Nat):ZW xs (some (j:Int)) (some (k:Int))=(xs.drop j).take (k-j):=by
 unfold ZW;rw[HT.sIx_nat,HT.sIx_nat];by_cases h:j<=xs.length
 ·rw[Nat.min_eq_left h];by_cases h2:k<=xs.length
  ·rw[Nat.min_eq_left h2]
  ·rw[Nat.min_eq_right (by omega),CH (by rw[Ag];omega),CH (by rw[Ag];omega)]
 ·rw[show min j xs.length=xs.length by omega,List.drop_of_length_le (D2 _),List.drop_of_length_le (by omega)];simp
def term (p:Pr)(t:List Pr)(x:Rat):Rat:=match t with
 | []=>if x<=p.1 then 0 else p.2*(x-p.1)
 | p' :: _=>if x<=p.1 then 0 else if x<=p'.1 then p.2*(x-p.1) else p.2*((p'.1:Rat)-p.1)
section
variable {X:Cx} {pins:List (Addr×Obj)} {σ:St} {H:Hp} {s:Shared} {h':Heap}
theorem Inv.turnedL (I:Inv X pins σ H s)(k:∀b o,b∉fp->s.heap.get? b=some o->h'.get? b=some o)(hf:∀b∈fp,XT X pins H b):Inv X pins σ H { s with heap:=h',toks:=t' }:=by
 have U:∀b u,H b=some u->b∉fp:=λb u e z=>by rw[(hf b z).1] at e;cases e
 refine I.step (g':=s.gens) (d':=s.drawn) (ch:=fp) (λb hb=>⟨(hf b hb).2.2.2.1,(hf b hb).2.1,(hf b hb).2.2.2.2.1,(hf b hb).2.2.2.2.2⟩) (λb o _ _ J e _=>k b o J e) (λb o _ _ J e _=>⟨o.slots,k b o J e⟩) (λ_ _ _ _ n=>n)
  (λb o J e=>⟨o,k b o J e⟩) (λ_ _ e=>e) (λ_ _ _ e=>e) (λb ps e=>⟨#[],by rw[e];simp⟩) (λm hm=>?_) (λb u e=>?_) I.bare
 ·obtain⟨o,es,ep,ho,r⟩:=hm;exact⟨o,es,ep,k _ o (λz=>(hf _ z).2.1 rfl) ho,r⟩
 ·refine(I.hok b u e).stay (λc v J q=>k c v ?_ q) (λ_ q=>q) λ_ _ q=>q
  rcases J with z|z
  ·rw[z];exact U b u e
  ·exact U c _ z
theorem Inv.trackNew {D}{o}{s0}(I:Inv X pins σ H s)(I0:Inv X pins σ H s0)(hD:s0.heap.objs.size<=D)(new:ObjOk X.prog X.w (upd H D o) s.heap D o):Inv X pins σ (upd H D o) s:=by
 refine I.track (Co I0.sz hD) (I0.hok.fresh hD) (λz=>?_) (λx c e z=>?_) (λp hp z=>?_) new
 ·have:=I0.lt;exact CB _ (Cn (z▸this) hD)
 ·obtain⟨v,q⟩:=I0.cell x c e;exact CB _ (Cn (z▸q.lt) hD)
 ·have:=D5 (I0.pin p hp).1;exact CB _ (Cn (z▸this) hD)
end
def mq (K:W.Frag)(a:Addr):It:=
 ⟨λi H=>∃xs x,A6 K H a xs/\xs[i]?=some x,λi H v H'=>∃p x,v=.ref p/\H p=none/\H'=upd H p (.tup [.int i,x])/\∀xs,A6 K H a xs->xs[i]?=some x,λi H=>∃xs,A6 K H a xs/\xs.length<=i⟩
theorem NH {k:Nat}(a e it)(hne:e≠it):UG P w K (.Tuple es k pos) (mq K a) [e,it] e (λi h=>∃U,IsEnum h e it i U/\h.IsListIter it a i) where
 mem:=by simp
 obj:=λi h st b J=>by
  obtain⟨U,h1,o,e1,c,d⟩:=st;rcases Ca.mp J with rfl|J
  ·exact⟨_,h1,λv z=>by
    have z':Data.fields _=Data.cell v:=z;cases z'⟩
  ·have:b=it:=by simpa using J
   subst this;exact⟨o,e1,λv z=>by rw[d] at z;cases z⟩
 keep:=λi h h' ⟨U,h1,st⟩ k=>⟨U,k e (by simp) _ h1,st.at λo e=>k it (by simp) o e⟩
 item:=by
  intro X hP hw hK hc i pins s σ H E I hf st hg;subst hP hw hK;obtain⟨xs,x,hq,hx⟩:=hg;obtain⟨its,rv,p,hz⟩:=I.list hq;obtain⟨u,hu,ru⟩:=rv.get hx;obtain⟨U,h1,h2⟩:=st;refine wpAny_pyNext_enum_item h1 h2 p.isList (x:=u) (by simpa using hu) hne λh' e1 e2 e3 e4 e5=>?_
  refine⟨_,rfl,wpAny_letOwnedTupleGo_enum (s:={ s with heap:=h',toks:=s.toks+1 }) e1 λa5 e6 sb=>?_⟩;have a4:e≠s.heap.objs.size:=Cd (D5 h1);have I1:Inv X pins σ H { s with heap:=a5,toks:=s.toks+1 }:=I.turnedL (fp:=[e,it]) (λb o J q=>by
   have n1:b≠e:=λz=>J (by simp[z])
   have n2:b≠it:=λz=>J (by simp[z])
   exact(sb.2 b n1).trans (e5 b o n1 n2 q)) hf
  have et:a5.get? s.heap.objs.size=some { cls:=.type "tuple",data:=.seq #[.int i s.toks,u] }:=(sb.2 _ (CP a4)).trans e3;have I2:=I1.trackNew (o:=.tup [.int i,x]) I (D2 _) ⟨by show 2<=sizeLine;decide,[.int i s.toks,u],.cons ⟨_,rfl⟩ (.cons ru .nil),?_⟩
  ·refine⟨.ref s.heap.objs.size,_,I2,rfl,⟨_,x,rfl,I.hok.fresh (D2 _),rfl,λys hy=>by rw[I.list_inj hy hq];exact hx⟩,⟨u,?_,?_⟩,λb J=>?_⟩
   ·have:((i:Int)+1)=((i+1:Nat):Int):=by omega
    rw[this] at e6;exact e6
   ·exact e2.at λo q=>(sb.2 _ (CP hne)).trans q
   ·rw[Qj ?_]
    ·exact(hf b J).1
    ·intro z;obtain⟨o,q,r⟩:=h2;rcases Ca.mp J with J|J
     ·exact a4 (J▸z)
     ·have:b=it:=by simpa using J
      rw[this] at z;exact Cd (D5 q) z
  ·exact⟨_,et,rfl,0,rfl⟩
 done:=by
  intro X hP hw hK hc i pins s σ H E I hf st hg;subst hP hw hK;obtain⟨xs,hq,hx⟩:=hg;obtain⟨its,rv,p,hz⟩:=I.list hq;obtain⟨U,h1,h2⟩:=st;have hl:=rv.length;exact wpAny_pyNext_enum_end (I.ok.hd hc) h1 h2 p.isList (by simp;omega) λh' eb=>⟨rfl,I.turnedL (fp:=[e,it]) (t':=s.toks) (λb o J q=>eb b o (λz=>J (by simp[z])) q) hf⟩
 self:=λ_ _ _ _ _ ⟨U,h1,_⟩ h=>wpAny_pyIter_enum h1 h
def Ti (K:W.Frag)(ta:TA):TI:=λσ H R=>ta σ H λvs H1=>∃a,vs=[.ref a]/\(∃xs,A6 K H1 a xs)/\R (mq K a) H1
theorem Rv (K){es}{k:Nat}{a}{ta}{p pos pt}(hK:X.K=K)(hg:Gl X "enumerate")(hm:X.mg "enumerate"=none)(ha:PA X [a] ta)(hs:starEach [a] X.env=[(false,eval a X.env)]:=by rfl):PI X (.Tuple es k pt) (.Call (.Name "enumerate" p) [a] [] pos) (Ti K ta):=by
 subst hK;intro pins s σ H R I h;refine Call_ (Wk I hg hm boot_enumerate (AD (A4 (ha pos pins s σ H _ I h) λus J ⟨vs,H1,I1,r1,q1⟩=>?_) hs rfl));obtain⟨l,rfl,⟨xs,hq⟩,q⟩:=q1;obtain⟨u1,rfl,r2⟩:=ZK r1;obtain rfl:=r2.ref_of;obtain⟨its,rv,pl,hz⟩:=I1.list hq;refine call_enumerate_list pl.isList λh' e1 e2 e3 e4=>?_
 have I2:Inv X pins σ H1 { J with heap:=h' }:=I1.kept (t':=J.toks) e4;refine wpAny_pyIter_enum (s:={ J with heap:=h' }) e1 ?_;refine⟨J.heap.objs.size+1,[J.heap.objs.size+1,J.heap.objs.size],_,_,H1,rfl,I2,NH l _ _ (Nat.succ_ne_self _),⟨_,e1,e2⟩,λb hb=>?_,q⟩;have U:J.heap.objs.size<=b:=by
  rcases Ca.mp hb with hb|hb
  ·rw[hb];exact CY _
  ·have:b=J.heap.objs.size:=by simpa using hb
   rw[this];exact D2 _
 exact I1.fpOk U (I1.hok.fresh U)
theorem DK {xs}{D}(Pv:Nat->St->Hp->Prop)(h0:Pv 0 σ H)(hl:∀i σ H,i<=xs.length->Pv i σ H->A6 K H a xs)
  (hs:∀i x σ H p,xs[i]?=some x->Pv i σ H->H p=none->g (.ref p) σ (upd H p (.tup [.int (i:Nat),x])) λσ2 H2=>tb { D with nx:=Pv (i+1),ct:=Pv (i+1),bk:=D.nx } σ2 H2) (hd:∀σ H,Pv xs.length σ H->D.nx σ H):KN (mq K a) g tb D σ H:=by
 refine⟨λi m σ H=>m=xs.length-i/\i<=xs.length/\Pv i σ H,⟨xs.length,by simp,CF _,h0⟩,?_⟩;rintro i m σ H ⟨rfl,hi,p⟩;have q:=hl i σ H hi p;by_cases J:i<xs.length
 ·refine .inr ⟨⟨xs,xs[i],q,by simp[J]⟩,Pv (i+1),λσ' H' p'=>⟨xs.length-(i+1),by omega,rfl,J,p'⟩,λx H' y=>?_⟩;obtain⟨U,x',rfl,hn,rfl,y⟩:=y;exact hs i x' σ _ U (y xs q) p hn
 ·have e:i=xs.length:=by omega
  subst e;exact .inl ⟨⟨xs,q,D2 _⟩,hd σ H p⟩
def Vx (cells:List (Str×Addr)):List (Str×NameKind)->List (Str×Addr)->Option (List (Str×Addr))
 | [],acc=>some acc
 | (n,k)::r,acc=>if k==.free then(match cells.lookup n with|some a=>Vx cells r ((n,a)::acc)|none=>none) else Vx cells r acc
theorem Jz:∀{names} {acc cl},Vx cells names acc=some cl->(∀p∈acc,cells.lookup p.1=some p.2)->∀p∈cl,cells.lookup p.1=some p.2
 | [],acc,cl,h,ha=>by
  have:acc=cl:=CD h;subst this;exact ha
 | (n,k)::r,acc,cl,h,ha=>by
  unfold Vx at h;split at h
  ·split at h
   ·rename_i a e;exact Jz h λp hp=>by
     rcases Ca.mp hp with rfl|hp
     ·exact e
     ·exact ha p hp
   ·cases h
  ·exact Jz h ha
theorem Me {cl}(h:Vx env.cells scope.names []=some cl):closureFor scope env=pure cl:=by
 simp only[closureFor];have J:∀(names:List (Str×NameKind)) (acc:List (Str×Addr)),Vx env.cells names acc=some cl->(do let r <-forIn names acc λ(x:Str×NameKind) (cs:List (Str×Addr))=>if(x.2==NameKind.free)=true then do let a <-cellOf env x.1;pure (ForInStep.yield ((x.1,a)::cs)) else pure (ForInStep.yield cs);pure r)=(pure cl:Sem _):=by
  intro names
  induction names with
  | nil=>intro acc h;have:acc=cl:=CD h;subst this;rfl
  | cons y r U=>
   intro acc h;obtain⟨n,k⟩:=y;unfold Vx at h;rw[List.forIn_cons];split at h
   ·rename_i e;split at h
    ·rename_i a ea;simp only[DZ e];have:=U _ h;simp only[cellOf,ea];exact this
    ·cases h
   ·rename_i e;simp only[DY e];exact U _ h
 exact Eq.trans (congrArg (λm:Sem (List (Str×Addr))=>m >>= pure) (J _ _ h)) rfl
theorem Ge {cl:List (Str×Addr)}{c:Addr}(h:cl.lookup x=some c):(x,c)∈cl:=by
 induction cl with
 | nil=>simp at h
 | cons y r U=>
  rw[List.lookup_cons] at h;split at h
  ·rename_i e;have J:x=y.1:=by simpa using e
   cases h;rw[J];exact Cw ..
  ·exact Cu _ (U h)
def E5 (X:Cx)(scope:Scope)(N:List Str)(caps:List (Option Nat)):Bool:=(List.range N.length).all λi=>match N[i]?,caps[i]? with
 | some x,some (some j)=>X.N[j]? == some x&&X.env.kindOf x==some .cell&&(relabel scope X.env).names.lookup x==some .cell
 | _,_=>true
theorem Po {cl}{N}(clos:Vx X.env.cells scope.names []=some cl)(kind:scope.kind=.function)(nm:(scope.names.all λy=>y.2 != .cell&&(y.2 != .local||scope.names.lookup y.1==some .local))=true)
  (has:((relabel scope X.env).names.all λy=>(y.2 != .cell&&y.2 != .free)||(cl.lookup y.1).isSome)=true) (cap:E5 X scope N caps=true) (len:caps.length=N.length):ZQ X scope cl N caps where
 clos:=Me clos
 kind:=kind
 nocell:=λy U z=>by
  have:=C1.mp nm y U;rw[z] at this;simp at this
 names:=λy U z=>by
  have:=C1.mp nm y U;rw[z] at this;simpa using this
 sub:=λx c h=>Jz clos (λp hp=>absurd hp (by simp)) _ (Ge h)
 has:=λx h=>by
  have a4:∀(l:List (Str×NameKind)),(l.all λy=>(y.2 != .cell&&y.2 != .free)||(cl.lookup y.1).isSome)=true->(l.lookup x=some .cell∨l.lookup x=some .free)->∃c,cl.lookup x=some c:=by
   intro l
   induction l with
   | nil=>intro _ h;simp at h
   | cons y r ih=>
    intro ha h;rw[List.all_cons,CV] at ha;rw[List.lookup_cons] at h;split at h
    ·rename_i e;have e':x=y.1:=by simpa using e
     have J:y.2=.cell∨y.2=.free:=h.elim (λh=>.inl (CD h)) (λh=>.inr (CD h));have:=ha.1;have h4:(cl.lookup y.1).isSome=true:=by
      rcases J with J|J<;>rw[J] at this<;>exact this
     rw[e'];exact Option.isSome_iff_exists.mp h4
    ·exact ih ha.2 h
  exact a4 _ has h
 cap:=λi j x h1 h2=>by
  have hi:=Z0 h1;have:=C1.mp cap i (List.mem_range.mpr hi);simp only[h1,h2,CV,beq_iff_eq] at this;exact⟨this.1.1,this.1.2,this.2⟩
 len:=len
theorem Gx {cl}{N}(a:Vx X.env.cells scope.names []=some cl:=by rfl)(b:scope.kind=.function:=by rfl)(c:(scope.names.all λy=>y.2 != .cell&&(y.2 != .local||scope.names.lookup y.1==some .local))=true:=by rfl)(d:((relabel scope X.env).names.all λy=>(y.2 != .cell&&y.2 != .free)||(cl.lookup y.1).isSome)=true:=by rfl)(e:E5 X scope N caps=true:=by rfl)(f:caps.length=N.length:=by rfl):ZQ X scope cl N caps:=Po a b c d e f
def zr (r:DS):Rat:=r.1+(0-r.2.1) / r.2.2
theorem ZL:X1 caps wi g tt te σ H Q=wi σ H λJ H1=>Y9 J g tt te (JE caps σ) H1 Q:=rfl
theorem ZS {Q}:MY σ H Q=Q true H:=rfl
def CN (Pv:Nat->List V->St->Hp->Prop)(n i:Nat)(acc:List V)(σ:St)(H:Hp):Prop:=∃m',m'<n-i/\m'=n-(i+1)/\i+1<=n/\acc.length<=i+1/\Pv (i+1) acc σ H
theorem CN.mk {Pv}{acc}(hi:i<n)(ha:acc.length<=i+1)(h:Pv (i+1) acc σ H):CN Pv n i acc σ H:=⟨n-(i+1),by omega,rfl,hi,ha,h⟩
theorem Y2 {xs}(Pv)(h0:Pv 0 [] σ0 H)(hl:∀i acc σ H,i<=xs.length->Pv i acc σ H->A6 K H a xs)(hn:xs.length<=1000)
  (hs:∀i x acc σ H,xs[i]?=some x->acc.length<=i->Pv i acc σ H->g x σ H λJ H2=>tt J H2 λb H3=>if b=true then te J H3 λv H4=>CN Pv xs.length i (acc++[v]) J H4 else CN Pv xs.length i acc J H3)
  (hd:∀acc σ H,Pv xs.length acc σ H->∀p,H p=none->Q (.ref p) (upd H p (.lst acc))):Y9 (O2 K a) g tt te σ0 H Q:=by
 refine⟨λi m acc σ H=>m=xs.length-i/\i<=xs.length/\acc.length<=i/\Pv i acc σ H,⟨xs.length,by simp,CF _,D2 _,h0⟩,?_⟩;rintro i m acc σ H ⟨rfl,hi,ha,p⟩;have q:=hl i acc σ H hi p;by_cases U:i<xs.length
 ·refine .inr ⟨⟨xs,xs[i],q,by simp[U]⟩,Z7 (by omega),λx H' y=>?_⟩;obtain⟨e,y⟩:=y;subst e;exact hs i x acc σ _ (y xs q) ha p
 ·have e:i=xs.length:=by omega
  subst e;exact .inl ⟨⟨xs,q,D2 _⟩,hd acc σ H p⟩
def ly (K:W.Frag)(a b:Addr):It:=
 ⟨λi H=>∃xs ys x y,A6 K H a xs/\A6 K H b ys/\xs[i]?=some x/\ys[i]?=some y,λi H v H'=>∃p x y,v=.ref p/\H p=none/\H'=upd H p (.tup [x,y])/\(∀xs,A6 K H a xs->xs[i]?=some x)/\∀ys,A6 K H b ys->ys[i]?=some y,
  λi H=>∃xs ys,A6 K H a xs/\A6 K H b ys/\(xs.length<=i∨ys.length<=i)⟩
theorem MV {k:Nat}(l1 l2 z TI TO i1 i2)(D:ZipApart z TI TO i1 i2 l1 l2) :
  UG P w K (.Tuple es k pos) (ly K l1 l2) [z,TI,TO,i1,i2] z (λi h=>IsZip h z TI TO .none/\IsPair h TI (.ref i1) (.ref i2)/\(∃a b,IsPair h TO a b)/\h.IsListIter i1 l1 i/\h.IsListIter i2 l2 i) where
 mem:=by simp
 obj:=λi h st b J=>by
  obtain⟨hz,h1,⟨_,_,h2⟩,⟨o3,e3,_,d3⟩,⟨o4,e4,_,d4⟩⟩:=st;simp only[Ca,List.not_mem_nil,or_false] at J;rcases J with rfl|rfl|rfl|rfl|rfl
  ·exact⟨_,hz,λv q=>by have q':Data.fields _=Data.cell v:=q;cases q'⟩
  ·exact⟨_,h1,λv q=>by have q':Data.seq _ _=Data.cell v:=q;cases q'⟩
  ·exact⟨_,h2,λv q=>by have q':Data.seq _ _=Data.cell v:=q;cases q'⟩
  ·exact⟨o3,e3,λv q=>by rw[d3] at q;cases q⟩
  ·exact⟨o4,e4,λv q=>by rw[d4] at q;cases q⟩
 keep:=λi h h' ⟨hz,h1,⟨a,b,h2⟩,h3,h4⟩ k=>⟨k z (by simp) _ hz,k TI (by simp) _ h1,⟨a,b,k TO (by simp) _ h2⟩,h3.at λo e=>k i1 (by simp) o e,h4.at λo e=>k i2 (by simp) o e⟩
 item:=by
  intro X hP hw hK hc i pins s σ H E I hf st hg;subst hP hw hK;obtain⟨xs,ys,x,y,a5,a6,hx,hy⟩:=hg;obtain⟨af,a9,p1,_⟩:=I.list a5;obtain⟨aa,a7,p2,_⟩:=I.list a6;obtain⟨u1,ak,ai⟩:=a9.get hx;obtain⟨u2,aj,ag⟩:=a7.get hy;obtain⟨hz,U,⟨a,b,a4⟩,h1,h2⟩:=id st;refine wpAny_pyNext_zip_item D hz U a4 h1 h2 p1.isList p2.isList (x:=u1) (y:=u2) (by simpa using ak) (by simpa using aj) λh' e1 e2 e3 e4 e5 e6 e7=>?_
  refine⟨_,rfl,wpAny_letOwnedTupleGo_zip (s:={ s with heap:=h' }) e1 λae e8 sb=>?_⟩;have ah:z≠s.heap.objs.size:=Cd (D5 hz);have I1:Inv X pins σ H { s with heap:=ae }:=I.turnedL (fp:=[z,TI,TO,i1,i2]) (t':=s.toks) (λb o J q=>by
   have n1:b≠z:=λq=>J (by simp[q])
   exact(sb.2 b n1).trans (e7 b o n1 (λq=>J (by simp[q])) (λq=>J (by simp[q])) (λq=>J (by simp[q])) q)) hf
  have et:ae.get? s.heap.objs.size=some { cls:=.type "tuple",data:=.seq #[u1,u2] }:=(sb.2 _ (CP ah)).trans e5;have I2:=I1.trackNew (o:=.tup [x,y]) I (D2 _) ⟨by show 2<=sizeLine;decide,[u1,u2],.cons ai (.cons ag .nil),⟨_,et,rfl,0,rfl⟩⟩;refine⟨.ref s.heap.objs.size,_,I2,rfl,⟨_,x,y,rfl,I.hok.fresh (D2 _),rfl,λys a8=>by rw[I.list_inj a8 a5];exact hx,λys a8=>by rw[I.list_inj a8 a6];exact hy⟩,⟨e8,?_,⟨_,_,(sb.2 _ D.TOz).trans e2⟩,e3.at λo q=>(sb.2 _ D.i1z).trans q,e4.at λo q=>(sb.2 _ D.i2z).trans q⟩,λb J=>?_⟩
  ·exact(sb.2 _ D.TIz).trans (e7 _ _ D.TIz D.TITO D.TIi1 D.TIi2 U)
  ·rw[Qj ?_]
   ·exact(hf b J).1
   ·intro q;have:∃o,s.heap.get? b=some o:=by
     simp only[Ca,List.not_mem_nil,or_false] at J;obtain⟨o3,g3,_⟩:=h1;obtain⟨o4,g4,_⟩:=h2;rcases J with rfl|rfl|rfl|rfl|rfl
     ·exact⟨_,hz⟩
     ·exact⟨_,U⟩
     ·exact⟨_,a4⟩
     ·exact⟨_,g3⟩
     ·exact⟨_,g4⟩
    obtain⟨o,g⟩:=this;exact Cd (D5 g) q
 done:=by
  intro X hP hw hK hc i pins s σ H E I hf st hg;subst hP hw hK;obtain⟨xs,ys,a5,a6,hx⟩:=hg;obtain⟨af,a9,p1,_⟩:=I.list a5;obtain⟨aa,a7,p2,_⟩:=I.list a6;obtain⟨hz,U,⟨a,b,a4⟩,h1,h2⟩:=st;have aq:=a9.length;have ao:=a7.length;refine wpAny_pyNext_zip_end (I.ok.hd hc) D hz U a4 h1 h2 p1.isList p2.isList ?_ λh' eb=>⟨rfl,I.turnedL (fp:=[z,TI,TO,i1,i2]) (t':=s.toks) (λb o J q=>eb b o (λq=>J (by simp[q])) (λq=>J (by simp[q])) (λq=>J (by simp[q])) (λq=>J (by simp[q])) q) hf⟩
  rcases hx with hx|hx
  ·exact .inl (by simp;omega)
  ·exact .inr (by simp;omega)
 self:=λ_ _ _ _ _ ⟨hz,_⟩ h=>wpAny_pyIter_zip hz h
theorem Ha {a b:Nat}(h:a<b∨b<a):a≠b:=by omega
theorem Df (n l1 l2:Nat)(h1:l1<n)(h2:l2<n):ZipApart (n+4) (n+2) (n+3) n (n+1) l1 l2:=by
 constructor<;>exact Ha (by omega)
def EO (K:W.Frag)(ta:TA):TI:=λσ H R=>ta σ H λvs H1=>∃a b,vs=[.ref a,.ref b]/\(∃xs,A6 K H1 a xs)/\(∃ys,A6 K H1 b ys)/\R (ly K a b) H1
theorem T9 {ta}:EO K ta σ H R=ta σ H λvs H1=>∃a b,vs=[.ref a,.ref b]/\(∃xs,A6 K H1 a xs)/\(∃ys,A6 K H1 b ys)/\R (ly K a b) H1:=rfl
theorem SQ (K){es}{k:Nat}{a b}{ta}{p pos pt}(hK:X.K=K)(hg:Gl X "zip")(hm:X.mg "zip"=none)(ha:PA X [a,b] ta)(hs:starEach [a,b] X.env=[(false,eval a X.env),(false,eval b X.env)]:=by rfl)(hs2:starEach [b] X.env=[(false,eval b X.env)]:=by rfl):PI X (.Tuple es k pt) (.Call (.Name "zip" p) [a,b] [] pos) (EO K ta):=by
 subst hK;intro pins s σ H R I h;refine Call_ (Wk I hg hm boot_zip (AD (A4 (ha pos pins s σ H _ I h) λus J ⟨vs,H1,U,r1,q1⟩=>?_) (by rw[hs,hs2]) (by rw[hs2];rfl)));obtain⟨l1,l2,rfl,⟨xs,a7⟩,⟨ys,a8⟩,q⟩:=q1;obtain⟨u1,u2,rfl,r2,r3⟩:=Ka r1;obtain rfl:=r2.ref_of;obtain rfl:=r3.ref_of;obtain⟨aa,af,p1,_⟩:=U.list a7;obtain⟨a9,ae,p2,_⟩:=U.list a8;have a6:l1<J.heap.objs.size:=by obtain⟨o,e,_⟩:=p1.isList;exact D5 e
 have a5:l2<J.heap.objs.size:=by obtain⟨o,e,_⟩:=p2.isList;exact D5 e
 refine call_zip_2 p1.isList p2.isList λh' e1 e2 e3 e4 e5 e6 e7=>?_
 have I2:Inv X pins σ H1 { J with heap:=h' }:=U.kept (t':=J.toks) e7;refine wpAny_pyIter_zip (s:={ J with heap:=h' }) e1 ?_;generalize hn:J.heap.objs.size=n at *;have D:ZipApart (n+4) (n+2) (n+3) n (n+1) l1 l2:=Df n l1 l2 a6 a5;refine⟨n+4,[n+4,n+2,n+3,n,n+1],_,_,H1,rfl,I2,MV l1 l2 _ _ _ _ _ D,⟨e1,e2,⟨_,_,e3⟩,e4,e5⟩,λb hb=>?_,q⟩;have a4:J.heap.objs.size<=b:=by
  rw[hn];simp only[Ca,List.not_mem_nil,or_false] at hb;rcases hb with rfl|rfl|rfl|rfl|rfl
  ·exact Nat.le_add_right _ _
  ·exact Nat.le_add_right _ _
  ·exact Nat.le_add_right _ _
  ·exact D2 _
  ·exact Nat.le_add_right _ _
 exact U.fpOk a4 (U.hok.fresh a4)
def Tc (K:W.Frag):List V->Hp->VK->Prop:=λxs H Q=>∃(p:Addr) (bs:List Bool),xs=[.ref p]/\A6 K H p (bs.map V.bl)/\Q (.bl (bs.all id)) H
theorem BW {bs:List Bool}(h:Vals (bs.map V.bl) us):us=bs.map Value.bool:=by
 induction bs generalizing us with
 | nil=>cases h;rfl
 | cons b r J=>
  cases h with
  | cons h1 h2=>
   have e:_=Value.bool b:=h1;rw[e,J h2];rfl
theorem NM {bs:List Bool}:((List.range bs.length).all λi=>bs.getD i false)=bs.all id:=by
 have e:bs=(List.range bs.length).map λi=>bs.getD i false:=by
  apply List.ext_getElem
  ·simp
  ·intro i h1 h2;simp[AE,D4 h1]
 conv=>rhs;rw[e]
 rw[List.all_map];rfl
theorem KA (K){X}(hK:X.K=K)(hc:X.calm=true):CallR X (.builtin "all") (Tc K):=by
 subst hK;intro pins s σ H xs us Q I r h;obtain⟨p,bs,rfl,hq,q⟩:=h;obtain⟨u,rfl,r1⟩:=ZK r;obtain rfl:=r1.ref_of;obtain⟨its,rv,pl,_⟩:=I.list hq;have e:=BW rv;subst e;refine call_all_walk (wpAny_pyIter_list pl.isList ⟨_,_,_,_,_,_,λi=>bs.getD i false,rfl,Walks.list (A:=X.A.in1) (I.ok.hd hc) s.heap.objs.size p ?_ _,⟨⟨_,Cz _ rfl,rfl,rfl⟩,pl.isList.push _⟩,?_,λh' tk hk=>?_⟩)
 ·obtain⟨o,g,_⟩:=pl.isList;exact Cd (D5 g)
 ·intro i v s' Q' E' hv a5;have U:(bs.map Value.bool)[i]?=some v:=by simpa using hv
  rw[Ct] at U;obtain⟨b,hb,rfl⟩:=Cv.mp U;have e:bs.getD i false=b:=by rw[AE,hb];rfl
  have a4:Q' (bs.getD i false) s':=a5;rw[e] at a4;exact Am a4
 ·have J:Inv X pins σ H { s with heap:=h',toks:=tk }:=I.kept λb o g=>hk b o (λz=>by
   have z':b=s.heap.objs.size:=by simpa using z
   exact Cd (D5 g) z') (D8 _ g)
  refine QF J q ?_;rw[CA,D1,NM]
def CMulU (i j:Int):Prop:=Bd 4000000 i/\Bd 4000000 j
theorem CMulU.ok {i j:Int}(h:CMulU i j):IntMulOk i j:=by
 have h1:=h.1.bits;have h2:=h.2.bits;unfold IntMulOk;have e:Builtin.Int.intTooBig ((Builtin.Int.intBits i:Int)+(Builtin.Int.intBits j:Int))=false:=by
  unfold Builtin.Int.intTooBig;have e2:bitsLine=134217728:=by decide
  rw[e2];exact Ce (by omega)
 rw[e];simp
theorem op_mulU:OpR X (binaryOp .Mult) (rI CMulU λi j=>.int (i*j)):=lO λ_ _ _ _ _ _ _ hc q=>mul_int q hc.ok
theorem DE (K){X}{tg l}{tl}(h:X.K=K)(hl:PE X l tl):PI X tg l (ER K tl):=by subst h;exact SR hl
theorem Fv {N}{a d e}:start N [a,b,c,d,e]=some a::some b::some c::some d::some e::List.replicate (N.length-5) none:=rfl
section
variable {X:Cx}
theorem Lm {spos}{cl}{N}(hN:X.N.Nodup)(hy:X.N[i]?=some y)(hx:ic X.env.scope y)(hc:X.calm=true)(O:ZQ X scope cl N caps)
  (hi:PI X tg iter wi) (hg:∀C s H ex,PG (GC X scope cl N C s H ex) tg g) (ht:∀C s H ex,gv (GC X scope cl N C s H ex) ifs tt) (he:∀C s H ex,PE (GC X scope cl N C s H ex) elt te)
  (hs:∀v,foldedSetIterable iter X.env v=pure v:=by intro _;rfl) (hsw:swapsWith (.ListComp elt [⟨tg,iter,ifs,0⟩] scope pos) (some (.Name y py)) spos.line X.env=pure true:=by rfl)
  (hf:X.fn y=true∨X.env.scope.names.lookup y=some .local:=by first|exact .inl rfl|exact .inr rfl|assumption):PS X (.Assign [.Name y py] (.ListComp elt [⟨tg,iter,ifs,0⟩] scope pos) spos) (VQ (X1 caps wi g tt te) (XW i)):=by
 intro pins s σ H D I h;rw[exec_Assign_Name_used _ _ _ _ hsw];refine DX (wpAny_standAt ?_);refine DX ?_;show wpAny _ _ (comprehension (.ListComp elt [⟨tg,iter,ifs,0⟩] scope pos) scope X.env (firstIterPos [⟨tg,iter,ifs,0⟩] pos) (newList []) (firstAsync [⟨tg,iter,ifs,0⟩]) (firstIter [⟨tg,iter,ifs,0⟩] X.env) (some (assign (.Name y py) X.env)) >>= λ_=>pure ()) _ _ s;refine DX (Kx hc O hi hg ht he hs I h @λC Dl s4 H' m r J hn q fr U hz cC hp=>?_);refine PyProof.Rows.assign_Name (Kc J hN hy hx (show RelV (.ref _) (.ref _) from rfl) (λs5 J7 ⟨a,sa,ha⟩=>?_) hf);refine⟨m,?_,λh' sb=>D3 (D3 ⟨_,_,J7.turned (t':=s5.toks) (λb o hb e=>(sb.2 b hb).trans e) fr U (.inr hz) cC hp,q⟩)⟩;obtain⟨o,es,ep,e,rest⟩:=hn;exact⟨o,es,ep,(sa.2 _ λz=>ha.elim (λw=>U (z.trans w)) λw=>cC _ _ w z.symm).trans e,rest⟩
theorem WV {spos}{x}{cl}{N}(hN:X.N.Nodup)(hy:X.N[i]?=some y)(hx:ic X.env.scope y)(hc:X.calm=true)(O:ZQ X scope cl N caps)
  (hi:PI X (.Name x px) iter wi) (hg:∀C s H ex,PG (GC X scope cl N C s H ex) (.Name x px) g) (ht:∀C s H ex,gv (GC X scope cl N C s H ex) ifs tt) (he:∀C s H ex,PE (GC X scope cl N C s H ex) elt te)
  (hs:∀v,foldedSetIterable iter X.env v=pure v:=by intro _;rfl) (hsw:swapsWith (.ListComp elt [⟨.Name x px,iter,ifs,0⟩] scope pos) (some (.Name y py)) spos.line X.env=pure true:=by rfl)
  (hf:X.fn y=true∨X.env.scope.names.lookup y=some .local:=by first|exact .inl rfl|exact .inr rfl|assumption):PS X (.Assign [.Name y py] (.ListComp elt [⟨.Name x px,iter,ifs,0⟩] scope pos) spos) (VQ (X1 caps wi g tt te) (XW i)):=Lm hN hy hx hc O hi hg ht he hs hsw hf
end
open W
section
variable {n:Nat} (hn:0<n)
include hn
end
section
variable {prog:Program} {w:World} {A:Around} {E:Value->Shared->Prop} {s:Shared}
def bare (h:Heap)(a:Addr)(vs:List Value):Heap:=((h.update a (Obj.mapSeq λ_=>#[])).push (seqObj "tuple" vs.toArray 0)).push (seqObj "list" #[] 0)
end
theorem Jx (Pv)(h0:Pv 0 [] σ0 H)(hn:n<=1000)
  (hs:∀i acc σ H,i<n->acc.length<=i->Pv i acc σ H->g (.int (lo+i)) σ H λU H2=>tt U H2 λb H3=>if b=true then te U H3 λv H4=>CN Pv n i (acc++[v]) U H4 else CN Pv n i acc U H3)
  (hd:∀acc σ H,Pv n acc σ H->∀p,H p=none->Q (.ref p) (upd H p (.lst acc))):Y9 (ie lo n) g tt te σ0 H Q:=by
 refine⟨λi m acc σ H=>m=n-i/\i<=n/\acc.length<=i/\Pv i acc σ H,⟨n,by simp,CF _,D2 _,h0⟩,?_⟩;rintro i m acc σ H ⟨rfl,hi,ha,p⟩;by_cases J:i<n
 ·refine .inr ⟨J,Z7 (by omega),λx H' y=>?_⟩;obtain⟨rfl,rfl⟩:=y;exact hs i acc σ _ J ha p
 ·have e:i=n:=by omega
  subst e;exact .inl ⟨D2 _,hd acc σ H p⟩
def DA (neg:Bool):R2:=λx y H Q=>∃i j,x=.str i/\y=.str j/\Q (.bl (if neg then !(!(Builtin.Str.occurrences j i 0 j.length 1).isEmpty) else !(Builtin.Str.occurrences j i 0 j.length 1).isEmpty)) H
def NN (K:W.Frag)(neg:Bool):R2:=λx y H Q=>mM K neg x y H Q∨DA neg x y H Q
theorem mQ (K){X}(h:X.K=K):OpR X (compareOp .In) (NN K false):=by
 subst h;exact op_in_seq.or NS
theorem Xe (K){X}(h:X.K=K):OpR X (compareOp .NotIn) (NN K true):=by
 subst h;exact op_notIn_seq.or Vf
theorem WY {z}:∀{xs:List Str},lP (.str z) (xs.map V.str)=decide (z∈xs)
 | []=>by simp[lP]
 | x::xs=>by
  have J:=WY (z:=z) (xs:=xs);unfold lP at *;rw[CQ,List.any_cons,J];by_cases h:z=x
  ·subst h;simp[gx]
  ·have h':¬x=z:=λe=>h e.symm
   simp[gx,h,h']
theorem Wn (xs:List Str):(xs.map V.str).all Y0=true:=by
 rw[List.all_map,C1];intro _ _;rfl
theorem Zx {xs:List Str}(h:A6 K H p (xs.map V.str))(q:Q (.bl (!decide (z∈xs))) H):NN K true (.str z) (.ref p) H Q:=
 .inl ⟨p,_,rfl,.inl h,rfl,Wn xs,by rw[WY];exact q⟩
def JJ (mg:Str->Option Value)(n:Str)(v:V):Prop:=∃u,mg n=some u/\RelV v u
theorem Xu {n}(k:JJ X.mg n v)(hg:Gl X n:=by rfl)(hd:(n==("__debug__":Str))=false:=by decide):PE X (.Name n pos) (tC v):=by
 obtain⟨u,m,r⟩:=k;exact Q9 hg m r hd
def asBl (x:V)(P:Bool->Prop):Prop:=match x with|.bl c=>P c|_=>False
theorem asBl.out {x}{P}(h:asBl x P):∃c,x=.bl c/\P c:=by
 cases x<;>first|exact⟨_,rfl,h⟩|exact h.elim
def asInt (x:V)(P:Int->Prop):Prop:=match x with|.int c=>P c|_=>False
theorem asInt.out {x}{P}(h:asInt x P):∃c,x=.int c/\P c:=by
 cases x<;>first|exact⟨_,rfl,h⟩|exact h.elim
def asVar (o:Option (Option V))(P:V->Prop):Prop:=match o with|some (some v)=>P v|_=>False
theorem asVar.out {o}{P}(h:asVar o P):∃v,o=some (some v)/\P v:=by
 cases o with
 | none=>exact h.elim
 | some o=>cases o with
  | none=>exact h.elim
  | some v=>exact⟨v,rfl,h⟩
section
variable {X:Cx}
theorem PE.imp {e}{t u}(p:PE X e t)(h:∀σ H Q,u σ H Q->t σ H Q):PE X e u:=λpins s σ H Q I q=>p pins s σ H Q I (h _ _ _ q)
theorem PGs.imp {t u}(p:PGs X es t)(h:∀vs σ H Q,u vs σ H Q->t vs σ H Q):PGs X es u:=λpins s σ H vs us Q I r q=>p pins s σ H vs us Q I r (h _ _ _ _ q)
theorem OpR.imp {f}{r r'}(p:OpR X f r)(h:∀x y H Q,r' x y H Q->r x y H Q):OpR X f r':=λpins s σ H x y v u Q I J U q=>p pins s σ H x y v u Q I J U (h _ _ _ _ q)
theorem UnR.imp {f}{r r'}(p:UnR X f r)(h:∀x H Q,r' x H Q->r x H Q):UnR X f r':=λpins s σ H x v Q I rx q=>p pins s σ H x v Q I rx (h _ _ _ q)
def Xj (i:Nat):TE:=λσ H Q=>asVar σ[i]? λv=>Q v H
theorem pu (i:Nat)(hN:X.N[i]?=some x:=by rfl)(hv:lS X.env.scope x:=by first|exact Or.inl rfl|exact Or.inr (Or.inl rfl)|exact Or.inr (Or.inr rfl))(hd:(x==("__debug__":Str))=false:=by decide)(hcd:(x==("__classdict__":Str))=false:=by decide):PE X (.Name x pos) (Xj i):=
 (pv i hN hv hd hcd).imp λ_ _ _ h=>h.out
def uB (t:TE):TT:=λσ H Q=>t σ H λx H1=>asBl x λc=>Q c H1
variable {a b:Expr} {ta tb:TE} {rest:List Expr} {pos:Pos}
theorem Z5 {e}{t}(h:PE X e t)(he:∀whole,isTrue e X.env whole=(do let v <-whole;standAt e.pos;holding [v] (truthy v)):=by intro _;rfl):PT X e (uB t):=by
 intro pins s σ H Q I J;refine isTrue_plain (A4 (h pins s σ H _ I J) λv s1 ⟨x,H1,I1,r1,U⟩=>?_) (he _);obtain⟨d,rfl,q⟩:=U.out;cases r1;exact Am ⟨H1,I1,q⟩
def PY (ta tb:TE):TE:=λσ H Q=>ta σ H λx H1=>asBl x λc=>if c=true then tb σ H1 Q else Q (.bl false) H1
def PX (ta:TE):TE:=λσ H Q=>ta σ H λx H1=>asBl x λc=>Q (.bl (!c)) H1
theorem YS (ha:PE X a ta)(hb:PE X (.BoolOp .And (b::rest) pos) tb):PE X (.BoolOp .And (a::b::rest) pos) (PY ta tb):=by
 intro pins s σ H Q I h;refine BoolOp_and (A4 (ha pins s σ H _ I h) λv s1 ⟨x,H1,U,r1,J⟩=>?_);obtain⟨c,rfl,J⟩:=J.out;cases r1;refine Am ?_;cases c with
 | true=>exact hb pins s1 σ H1 Q U J
 | false=>exact⟨.bl false,H1,U,rfl,J⟩
theorem Rw (ha:PE X a ta):PE X (.UnaryOp .Not a pos) (PX ta):=by
 intro pins s σ H Q I h;refine UnaryOp_ (A4 (ha pins s σ H _ I h) λv s1 ⟨x,H1,U,r1,J⟩=>?_);obtain⟨c,rfl,J⟩:=J.out;cases r1;exact not_of (Am ⟨.bl (!c),H1,U,rfl,J⟩)
theorem ZA {r}(ho:OpR X (compareOp op) r)(ha:PE X a ta)(hb:PE X b tb)(hm:behindInMarks op b=false):PT X (.Compare a [op] [b] pos) (uB (IS r ta tb)):=by
 intro pins s σ H Q I h;refine wpAny_isTrue_Compare1 (A4 (ha pins s σ H _ I h) λv s1 ⟨x,H1,I1,r1,U⟩=>A4 (hb pins s1 σ H1 _ I1 U) λu s2 ⟨y,H2,I2,r2,q2⟩=>
  A4 (ho pins s2 σ H2 x y v u _ I2 r1 r2 q2) λc s3 ⟨z,H3,I3,r3,J⟩=>?_) hm
 obtain⟨k,e,J⟩:=J.out;subst e;cases r3;exact Am ⟨H3,I3,J⟩
def sI (C:Int->Int->Prop)(g:Int->Int->V):R2:=λx y H Q=>asInt x λi=>asInt y λj=>C i j/\Q (g i j) H
def sI0 (g:Int->Int->V):R2:=λx y H Q=>asInt x λi=>asInt y λj=>Q (g i j) H
def sU (g:Int->V):V->Hp->VK->Prop:=λx H Q=>asInt x λi=>Q (g i) H
theorem sI.out {C}{g}(x y)(H)(Q)(h:sI C g x y H Q):rI C g x y H Q:=by
 obtain⟨i,rfl,h2⟩:=asInt.out h;obtain⟨j,rfl,J⟩:=asInt.out h2;exact⟨i,j,rfl,rfl,J⟩
theorem sI0.out {g}(x y)(H)(Q)(h:sI0 g x y H Q):ja g x y H Q:=by
 obtain⟨i,rfl,h2⟩:=asInt.out h;obtain⟨j,rfl,h3⟩:=asInt.out h2;exact⟨i,j,rfl,rfl,h3⟩
theorem sU.out {g}(x)(H)(Q)(h:sU g x H Q):rU g x H Q:=by
 obtain⟨i,rfl,h⟩:=asInt.out h;exact⟨i,rfl,h⟩
theorem Z6:OpR X (binaryOp .Sub) (sI0 λi j=>.int (i-j)):=op_sub.imp sI0.out
theorem V5:OpR X (binaryOp .Mult) (sI CMulB λi j=>.int (i*j)):=op_mulB.imp sI.out
theorem Jg:OpR X (binaryOp .Mult) (sI CMulU λi j=>.int (i*j)):=op_mulU.imp sI.out
theorem Qx:OpR X (binaryOp .FloorDiv) (sI (λ_ j=>UV j) λi j=>.int (i.fdiv j)):=op_fdivB.imp sI.out
theorem Qo:OpR X (binaryOp .Mod) (sI (λ_ j=>0<j) λi j=>.int (i % j)):=op_mod.imp sI.out
theorem XM:OpR X (binaryOp .Pow) (sI VJ λi j=>.int (i ^ j.toNat)):=op_pow.imp sI.out
theorem Zr:OpR X (compareOp .Lt) (sI0 λi j=>.bl (decide (i<j))):=op_lt.imp sI0.out
theorem YF:OpR X (compareOp .Gt) (sI0 λi j=>.bl (decide (i > j))):=op_gt.imp sI0.out
theorem GK:UnR X (unaryOp .USub) (sU λi=>.int (-i)):=un_neg.imp sU.out
def sAdd:R2:=λx y H Q=>match x,y with
 | .int i,.int j=>Q (.int (i+j)) H
 | .str i,.str j=>i.length+j.length<=sizeLine/\Q (.str (i++j)) H
 | .ref _,.ref _=>Rf x y H Q
 | _,_=>False
theorem sAdd.out (x y)(H)(Q)(h:sAdd x y H Q):Td x y H Q:=by
 unfold sAdd at h;split at h
 ·exact .inl ⟨_,_,rfl,rfl,h⟩
 ·exact .inr (.inl ⟨_,_,rfl,rfl,h⟩)
 ·exact .inr (.inr h)
 ·exact h.elim
theorem Qh:OpR X (binaryOp .Add) sAdd:=op_addA.imp sAdd.out
def sEq (K:W.Frag):R2:=λx y H Q=>match x,y with
 | .int i,.int j=>Q (.bl (decide (i=j))) H
 | .str i,.str j=>Q (.bl (decide (i=j))) H
 | .bl i,.bl j=>Q (.bl (decide (i=j))) H
 | _,_=>K8 K x y H Q
def sNe (K:W.Frag):R2:=λx y H Q=>match x,y with
 | .int i,.int j=>Q (.bl (!decide (i=j))) H
 | .str i,.str j=>Q (.bl (!decide (i=j))) H
 | .bl i,.bl j=>Q (.bl (!decide (i=j))) H
 | _,_=>K6 K x y H Q
theorem sEq.out (x y)(H)(Q)(h:sEq K x y H Q):K8 K x y H Q:=by
 unfold sEq at h;split at h
 ·rw[Si];exact h
 ·rw[Sh];exact h
 ·rw[Sj];exact h
 ·exact h
theorem sNe.out (x y)(H)(Q)(h:sNe K x y H Q):K6 K x y H Q:=by
 unfold sNe at h;split at h
 ·rw[TZ];exact h
 ·rw[TY];exact h
 ·rw[T2];exact h
 ·exact h
theorem m7 (K)(h:X.K=K)(hu:X.A.units+64<cLine):OpR X (compareOp .Eq) (sEq K):=(oC K h hu).imp sEq.out
theorem ny (K)(h:X.K=K)(hu:X.A.units+64<cLine):OpR X (compareOp .NotEq) (sNe K):=(nz K h hu).imp sNe.out
def ET:jh:=λvs σ H Q=>match vs with|[]=>Q σ H|_=>False
def Tj (t:TG)(u:jh):jh:=λvs σ H Q=>match vs with|v::r=>t v σ H λσ' H'=>u r σ' H' Q|[]=>False
theorem Xd:PGs X [] ET:=pgs_nil.imp λvs _ _ _ h=>by
 cases vs with
 | nil=>exact⟨rfl,h⟩
 | cons _ _=>exact h.elim
theorem QR {e}{t}{u}(h:PG X e t)(hg:PGs X es u)(hs:(assignEach (e::es) X.env).map (·.2)=assign e X.env::(assignEach es X.env).map (·.2):=by rfl):PGs X (e::es) (Tj t u):=(Lo h hg hs).imp λvs _ _ _ q=>by
 cases vs with
 | nil=>exact q.elim
 | cons v r=>exact⟨v,r,rfl,q⟩
end
def Sp1M (φ:V->Hp->VK->Prop):Sp:=λvs H Q _=>match vs with|[a]=>φ a H Q|_=>False
def Sp2M (φ:V->V->Hp->VK->Prop):Sp:=λvs H Q _=>match vs with|[a,b]=>φ a b H Q|_=>False
def Sp3M (φ:V->V->V->Hp->VK->Prop):Sp:=λvs H Q _=>match vs with|[a,b,c]=>φ a b c H Q|_=>False
def Sp4M (φ:V->V->V->V->Hp->VK->Prop):Sp:=λvs H Q _=>match vs with|[a,b,c,d]=>φ a b c d H Q|_=>False
def Rp1M (φ:V->Hp->VK->XK->Prop):Sp:=λvs H Q E=>match vs with|[a]=>φ a H Q E|_=>False
def Rp2M (φ:V->V->Hp->VK->XK->Prop):Sp:=λvs H Q E=>match vs with|[a,b]=>φ a b H Q E|_=>False
theorem Sp1M.imp {φ}(vs)(H)(Q)(E:XK)(h:Sp1M φ vs H Q E):lp φ vs H Q E:=by
 unfold Sp1M at h;split at h
 ·exact⟨_,rfl,h⟩
 ·exact h.elim
theorem Sp2M.imp {φ}(vs)(H)(Q)(E:XK)(h:Sp2M φ vs H Q E):mi φ vs H Q E:=by
 unfold Sp2M at h;split at h
 ·exact⟨_,_,rfl,h⟩
 ·exact h.elim
theorem Sp3M.imp {φ}(vs)(H)(Q)(E:XK)(h:Sp3M φ vs H Q E):mh φ vs H Q E:=by
 unfold Sp3M at h;split at h
 ·exact⟨_,_,_,rfl,h⟩
 ·exact h.elim
theorem Sp4M.imp {φ}(vs)(H)(Q)(E:XK)(h:Sp4M φ vs H Q E):mf φ vs H Q E:=by
 unfold Sp4M at h;split at h
 ·exact⟨_,_,_,_,rfl,h⟩
 ·exact h.elim
theorem Rp1M.imp {φ}(vs)(H)(Q)(E:XK)(h:Rp1M φ vs H Q E):mm φ vs H Q E:=by
 unfold Rp1M at h;split at h
 ·exact⟨_,rfl,h⟩
 ·exact h.elim
theorem Rp2M.imp {φ}(vs)(H)(Q)(E:XK)(h:Rp2M φ vs H Q E):ml φ vs H Q E:=by
 unfold Rp2M at h;split at h
 ·exact⟨_,_,rfl,h⟩
 ·exact h.elim
theorem HS:Xj i σ H Q=asVar σ[i]? λv=>Q v H:=rfl
theorem TF {P}:asVar (some (some v)) P=P v:=rfl
theorem Dj {c}{P}:asBl (.bl c) P=P c:=rfl
theorem Dg {t}{Q}:uB t σ H Q=t σ H λx H1=>asBl x λc=>Q c H1:=rfl
theorem Fl {tb}:PY ta tb σ H Q=ta σ H λx H1=>asBl x λc=>if c=true then tb σ H1 Q else Q (.bl false) H1:=rfl
theorem Fc:PX ta σ H Q=ta σ H λx H1=>asBl x λc=>Q (.bl (!c)) H1:=rfl
theorem Di {C}{g}{i j:Int}:sI C g (.int i) (.int j) H Q=(C i j/\Q (g i j) H):=rfl
theorem HY {g}{i j:Int}:sI0 g (.int i) (.int j) H Q=Q (g i j) H:=rfl
theorem Dh {g}{i:Int}:sU g (.int i) H Q=Q (g i) H:=rfl
theorem TL {i j:Int}:sAdd (.int i) (.int j) H Q=Q (.int (i+j)) H:=rfl
theorem TK {i j}:sAdd (.str i) (.str j) H Q=(i.length+j.length<=sizeLine/\Q (.str (i++j)) H):=rfl
theorem Fj {i j:Int}:sEq K (.int i) (.int j) H Q=Q (.bl (decide (i=j))) H:=rfl
theorem Fh {i j}:sEq K (.str i) (.str j) H Q=Q (.bl (decide (i=j))) H:=rfl
theorem Fk {i j}:sEq K (.bl i) (.bl j) H Q=Q (.bl (decide (i=j))) H:=rfl
theorem Fi {q}:sEq K (.ref p) (.ref q) H Q=K8 K (.ref p) (.ref q) H Q:=rfl
theorem Ff {i j:Int}:sNe K (.int i) (.int j) H Q=Q (.bl (!decide (i=j))) H:=rfl
theorem Fd {i j}:sNe K (.str i) (.str j) H Q=Q (.bl (!decide (i=j))) H:=rfl
theorem Fg {i j}:sNe K (.bl i) (.bl j) H Q=Q (.bl (!decide (i=j))) H:=rfl
theorem Fe {q}:sNe K (.ref p) (.ref q) H Q=K6 K (.ref p) (.ref q) H Q:=rfl
theorem TH {Q}:ET [] σ H Q=Q σ H:=rfl
theorem BP {t}{u}{r}{Q}:Tj t u (v::r) σ H Q=t v σ H λσ' H'=>u r σ' H' Q:=rfl
theorem HX {φ}{a}{E}:Sp1M φ [a] H Q E=φ a H Q:=rfl
theorem HW {φ}{a}{E}:Sp2M φ [a,b] H Q E=φ a b H Q:=rfl
theorem HV {φ}{a}{E}:Sp3M φ [a,b,c] H Q E=φ a b c H Q:=rfl
theorem HU {φ}{a d}{E}:Sp4M φ [a,b,c,d] H Q E=φ a b c d H Q:=rfl
theorem Fb {φ}{a}{E}:Rp1M φ [a] H Q E=φ a H Q E:=rfl
theorem HZ {φ}{a}{E}:Rp2M φ [a,b] H Q E=φ a b H Q E:=rfl
theorem Z8 {q}(h:Rf (.ref p) (.ref q) H Q):sAdd (.ref p) (.ref q) H Q:=h
section
variable {κ:Type} [DecidableEq κ]
def Z3 (kvs:List (κ×V))(k:κ):Option V:=(kvs.find? λkv=>decide (kv.1=k)).map (·.2)
def X2 (kvs:List (κ×V))(k:κ)(v:V):List (κ×V):=
 if(kvs.any λJ=>decide (J.1=k))=true then kvs.map (λJ=>if J.1=k then(J.1,v) else J) else kvs++[(k,v)]
theorem W4 {p:κ×V}{r:List (κ×V)}(e:p.1=k):Z3 (p::r) k=some p.2:=by simp[Z3,Au,e]
theorem W5 {p:κ×V}{r:List (κ×V)}(e:¬p.1=k):Z3 (p::r) k=Z3 r k:=by simp[Z3,Au,e]
theorem W6 (k):∀kvs:List (κ×V),(kvs.any λJ=>decide (J.1=k))=(Z3 kvs k).isSome
 | []=>rfl
 | p::r=>by
  rw[List.any_cons];by_cases e:p.1=k
  ·simp only[W4 e,Ck e,Bool.true_or,Option.isSome_some]
  ·rw[W5 e,Ce e,Bool.false_or];exact W6 k r
theorem X6 (kvs)(k:κ)(v):(X2 kvs k v).length<=kvs.length+1:=by
 unfold X2;split
 ·rw[D1];omega
 ·rw[D0,Cm,List.length_nil];omega
theorem Ll {kvs:List (κ×V)}(v)(h:Z3 kvs k=none):X2 kvs k v=kvs++[(k,v)]:=by
 unfold X2;rw[W6,h];exact DY (by decide)
theorem RelO.isSome_eq {o}{u}(r:RelO o u):o.isSome=u.isSome:=by
 cases o with
 | none=>cases u with
  | none=>rfl
  | some _=>exact(show False from r).elim
 | some _=>cases u with
  | none=>exact(show False from r).elim
  | some _=>rfl
theorem KV.val {kvs}{vs}(r:KV kvs vs)(k:κ):RelO (Z3 kvs k) (valueAt vs k):=by
 unfold KV at r
 induction r with
 | nil=>exact True.intro
 | @cons p q ps qs h t U=>
  obtain⟨h1,h2⟩:=h;by_cases e:p.1=k
  ·have J:q.1=k:=h1.symm.trans e;have b:valueAt (q::qs) k=some q.2:=by simp[valueAt,Au,J]
   rw[W4 e,b];exact h2
  ·have J:¬q.1=k:=λz=>e (h1.trans z)
   have b:valueAt (q::qs) k=valueAt qs k:=by simp[valueAt,Au,J]
   rw[W5 e,b];exact U
theorem KV.any {kvs}{vs}(r:KV kvs vs)(k:κ):(kvs.any λJ=>decide (J.1=k))=vs.any λJ=>decide (J.1=k):=by
 unfold KV at r
 induction r with
 | nil=>rfl
 | cons h t U=>rw[List.any_cons,List.any_cons,U,h.1]
theorem KV.repl {kvs}{vs}(r:KV kvs vs)(k:κ){y}{u}(ry:RelV y u) :
  KV (kvs.map λJ=>if J.1=k then(J.1,y) else J) (vs.map λJ=>if J.1=k then(J.1,u) else J):=by
 unfold KV at r ⊢
 induction r with
 | nil=>exact .nil
 | @cons p q ps qs h t U=>
  rw[CQ,CQ];refine .cons ?_ U;obtain⟨h1,h2⟩:=h;by_cases e:p.1=k
  ·rw[DZ e,DZ (h1.symm.trans e)];exact⟨h1,ry⟩
  ·rw[DY e,DY (λz=>e (h1.trans z))];exact⟨h1,h2⟩
theorem KV.put {kvs}{vs}(r:KV kvs vs)(k:κ){y}{u}(ry:RelV y u):KV (X2 kvs k y) (stored vs k u):=by
 unfold X2 stored;rw[r.any k];by_cases e:(vs.any λJ=>decide (J.1=k))=true
 ·rw[DZ e,DZ e];exact r.repl k ry
 ·rw[DY e,DY e];exact Paired.snoc r ⟨rfl,ry⟩
theorem KV.keys {kvs:List (κ×V)}{vs:List (κ×Value)}(r:KV kvs vs):kvs.map (·.1)=vs.map (·.1):=by
 unfold KV at r
 induction r with
 | nil=>rfl
 | cons h t J=>rw[CQ,CQ,J,h.1]
theorem KV.length {kvs:List (κ×V)}{vs:List (κ×Value)}(r:KV kvs vs):kvs.length=vs.length:=Paired.length r
end
theorem Kr {k}(r:RelV (kV k) u):(QQ P w).is k u=true:=by
 cases k with
 | inl i=>obtain⟨t,e⟩:=(show ∃t,u=Value.int i t from r);subst e;exact Ua P w i t
 | inr x=>obtain⟨t,e⟩:=(show ∃t,u=Value.str x t from r);subst e;exact V9 P w x t
theorem Ks:∀{ks} {us},Vals (ks.map kV) us->ItemsAre (QQ P w) ks us
 | [],_,r=>by rw[List.map_nil] at r;cases r;exact .nil
 | k::ks,_,r=>by
  rw[CQ] at r;cases r with
  | cons h t=>exact .cons (Kr h) (Ks t)
abbrev KT (H:Hp):List (List Key×V)->List (List Key×Addr×Value)->Prop:=Paired λp q=>p.1=q.1/\H q.2.1=some (.tup (p.1.map kV))/\RelV p.2 q.2.2
theorem KT.val {kvs}{xs}(r:KT H kvs xs)(k):RelO (Z3 kvs k) ((atKey xs k).map (·.2)):=by
 induction r with
 | nil=>exact True.intro
 | @cons p q ps qs h t U=>
  obtain⟨h1,_,h2⟩:=h;by_cases e:p.1=k
  ·have J:q.1=k:=h1.symm.trans e;have b:atKey (q::qs) k=some q.2:=by simp[atKey,Au,J]
   rw[W4 e,b];exact h2
  ·have J:¬q.1=k:=λz=>e (h1.trans z)
   have b:atKey (q::qs) k=atKey qs k:=by simp[atKey,Au,J]
   rw[W5 e,b];exact U
theorem KT.repl {kvs}{xs}(r:KT H kvs xs)(k){y}{u}(ry:RelV y u) :
  KT H (kvs.map λJ=>if J.1=k then(J.1,y) else J) (xs.map (putAt k u)):=by
 induction r with
 | nil=>exact .nil
 | @cons p q ps qs h t ih=>
  rw[CQ,CQ];refine .cons ?_ ih;obtain⟨h1,h2,U⟩:=h;unfold putAt;by_cases e:p.1=k
  ·rw[DZ e,DZ (h1.symm.trans e)];exact⟨h1,h2,ry⟩
  ·rw[DY e,DY (λz=>e (h1.trans z))];exact⟨h1,h2,U⟩
theorem KT.put {kvs}{xs}(r:KT H kvs xs)(k){b}{y}{u}(hb:H b=some (.tup (k.map kV)))(ry:RelV y u) :
  KT H (X2 kvs k y) (storedH xs k b u):=by
 have e:(kvs.any λJ=>decide (J.1=k))=(atKey xs k).isSome:=by
  rw[W6,(r.val k).isSome_eq,Option.isSome_map]
 unfold X2 storedH;rw[e];by_cases q:(atKey xs k).isSome=true
 ·rw[DZ q,DZ q];exact r.repl k ry
 ·rw[DY q,DY q];exact Paired.snoc r ⟨rfl,hb,ry⟩
theorem KT.keeps {kvs}{xs}(r:KT H kvs xs)(ht:∀b ys,H b=some (.tup ys)->H' b=some (.tup ys)):KT H' kvs xs:=
 Paired.mapP r λ_ _ z=>⟨z.1,ht _ _ z.2.1,z.2.2⟩
section
variable {P:Program} {w:World} {H:Hp} {h:Heap} {a:Addr}
theorem P8 {u}(ok:HOk P w H h)(e:Rd H a u):ObjOk P w H h a u:=e.ok ok
theorem Bc (ok:HOk P w H h)(e:Rd H a (.dK kvs)):kvs.length<=sizeLine/\(a==sysModules)=false/\∃vs,KV kvs vs/\h.DictOf (QQ P w) a vs:=
 show ObjOk P w H h a (.dK kvs) from P8 ok e
theorem Ts (ok:HOk P w H h)(e:H a=some (.dK kvs)):kvs.length<=sizeLine/\(a==sysModules)=false/\∃vs,KV kvs vs/\h.DictOf (QQ P w) a vs:=Bc ok (.inl e)
theorem Gk {ks}(ok:HOk P w H h)(e:H a=some (.tup (ks.map kV))):(tupleKind (QQ P w)).is h ks a:=by
 obtain⟨_,its,r,o,h1,h2,n,J⟩:=(show ObjOk P w H h a (.tup (ks.map kV)) from ok a _ e)
 exact⟨o,its.toArray,n,h1,h2,J,by simpa using Ks r⟩
theorem Ba {kvs}(ok:HOk P w H h)(e:Rd H a (.dT kvs)):kvs.length<=sizeLine/\(a==sysModules)=false /\
  ∃xs,KT H kvs xs/\h.DictOfH (tupleKind (QQ P w)) a xs:=by
 obtain⟨z,y,xs,r,o,es,ep,h1,h2,h3,h4,h5⟩:=(show ObjOk P w H h a (.dT kvs) from P8 ok e)
 refine⟨z,y,xs,r,o,es,ep,h1,h2,h3,h4,λx J=>?_,h5⟩;have all:∀{l:List (List Key×V)} {m:List (List Key×Addr×Value)},KT H l m->∀x∈m,(tupleKind (QQ P w)).is h x.1 x.2.1:=by
  intro l m q
  induction q with
  | nil=>intro x J;exact nomatch J
  | @cons p q ps qs U t ih=>
   intro x J;rcases Ca.mp J with e|J
   ·subst e;exact Gk ok (by rw [<-U.1];exact U.2.1)
   ·exact ih x J
 exact all r x J
theorem E3 {kvs}(ok:HOk P w H h)(e:H a=some (.dT kvs)):kvs.length<=sizeLine/\(a==sysModules)=false /\
  ∃xs,KT H kvs xs/\h.DictOfH (tupleKind (QQ P w)) a xs:=Ba ok (.inl e)
end
def DGet (H:Hp)(a:Addr)(y:V)(r:Option V):Prop:=
 (∃kvs k,Rd H a (.dK kvs)/\y=kV k/\r=Z3 kvs k)∨∃kvs k b,Rd H a (.dT kvs)/\y=.ref b/\H b=some (.tup (k.map kV))/\r=Z3 kvs k
def DPut (H:Hp)(a:Addr)(y v:V)(H':Hp):Prop:=
 (∃kvs k,H a=some (.dK kvs)/\y=kV k/\kvs.length<sizeLine/\H'=upd H a (.dK (X2 kvs k v))) ∨
 ∃kvs k b,H a=some (.dT kvs)/\y=.ref b/\H b=some (.tup (k.map kV))/\kvs.length<sizeLine/\H'=upd H a (.dT (X2 kvs k v))
theorem DGet.k {H}{a}{kvs}{k}(e:H a=some (.dK kvs)):DGet H a (kV k) (Z3 kvs k):=.inl ⟨kvs,k,.inl e,rfl,rfl⟩
theorem DPut.k {H}{a}{kvs}{k}{v}(e:H a=some (.dK kvs))(hl:kvs.length<sizeLine):DPut H a (kV k) v (upd H a (.dK (X2 kvs k v))):=.inl ⟨kvs,k,e,rfl,hl,rfl⟩
section
variable {X:Cx} {pins:List (Addr×Obj)} {σ:St} {H:Hp} {s:Shared} {a:Addr} {y v:V} {u r:Value} {o:Option V} {A:Around} {E:Value->Shared->Prop}
theorem Inv.big (I:Inv X pins σ H s):sysModules<s.heap.objs.size:=by
 have h:mainGlobals<s.heap.objs.size:=(I.mod.glob.keeps I.bk).lt;exact Nat.lt_trans (by decide) h
theorem Mc {Q}(hu:A.units+1<cLine)(I:Inv X pins σ H s)(g:DGet H a y (some v))(ry:RelV y u)(h:∀w' s',Inv X pins σ H s'->RelV v w'->Q w' s') :
  wpAny (model X.prog X.w) A (getItem (.ref a) u) Q E s:=by
 rcases g with ⟨kvs,k,e,ey,l⟩|⟨kvs,k,b,e,ey,eb,l⟩
 ·subst ey;obtain⟨z,hd,vs,J,dd⟩:=Bc I.hok e;obtain⟨w',hw,U⟩:=RelO.some_of (v:=v) (o:=valueAt vs k) (by rw[l];exact J.val k);exact wpAny_getItem_of (Kr ry) dd.mapOf hw (h w' _ (I.tok _) U)
 ·subst ey;cases(show u=Value.ref b from ry);obtain⟨z,hd,xs,J,dd⟩:=Ba I.hok e;obtain⟨w',hw,U⟩:=RelO.some_of (v:=v) (o:=(atKey xs k).map (·.2)) (by rw[l];exact J.val k);obtain⟨p,hp,a4⟩:=Cv.mp hw;refine wpAny_getItem_heap (tupleKind_room_in1 hu) (Gk I.hok eb) dd hp ?_;rw[a4];exact h w' _ (I.tok _) U
theorem Vu {ob}(I:Inv X pins σ H s)(mu:lU (H a))(hs:Heap.SameBut a s.heap h')(he:∃q,h'.get? a=some q)(new:ObjOk X.prog X.w (upd H a ob) h' a ob) :
  Inv X pins σ (upd H a ob) { s with heap:=h',toks:=t' }:=
 I.write (x:=a) (e:=a) mu (.inl rfl) (λb q J z=>(hs.2 b J).trans z) he new
theorem Be {vs}(z:kvs.length<=sizeLine)(hd:(a==sysModules)=false)(rel:KV kvs vs)(dd:h'.DictOf (QQ P w) a vs) :
  ObjOk P w H' h' a (.dK kvs):=⟨z,hd,vs,rel,dd⟩
theorem Mb {Q}(hu:A.units+1<cLine)(I:Inv X pins σ H s)(g:DPut H a y v H')(ry:RelV y u)(rv:RelV v r)(h:∀s',Inv X pins σ H' s'->Q () s') :
  wpAny (model X.prog X.w) A (setItem (.ref a) u r) Q E s:=by
 rcases g with ⟨kvs,k,e,ey,l,eH⟩|⟨kvs,k,b,e,ey,eb,l,eH⟩
 ·subst ey eH;obtain ⟨z,hd,vs,J,dd⟩:=Ts I.hok e;have hz:vs.length<=sizeLine:=by rw [<-J.length];exact z
  have hl:(X2 kvs k v).length<=sizeLine:=by have:=X6 kvs k v;omega
  refine wpAny_setItem_pairs (hsz:=hz) (Kr ry) dd λh' U hs=>h _ ?_
  have he:∃q,h'.get? a=some q:=let ⟨q,_,_,hq,_⟩:=U;⟨q,hq⟩;exact Vu I (by rw[e];exact True.intro) hs he (Be hl hd (J.put k rv) U)
 ·subst ey eH;cases (show u=Value.ref b from ry);obtain ⟨z,hd,xs,J,dd⟩:=E3 I.hok e;have hz:xs.length<=sizeLine:=by rw [<-Paired.length J];exact z
  have hl:(X2 kvs k v).length<=sizeLine:=by have:=X6 kvs k v;omega
  refine wpAny_setItem_heap (hsz:=hz) (tupleKind_room_in1 hu) (Gk I.hok eb) dd λh' U hs=>h _ ?_
  obtain⟨q,es,ep,hq,h2,h3,h4,_,h5⟩:=U;refine Vu I (by rw[e];exact True.intro) hs ⟨q,hq⟩ ⟨hl,hd,_,(J.put k eb rv).keeps λc ys ec=>?_,q,es,ep,hq,h2,h3,h4,h5⟩;rw[Qj (Kn ec e (λz=>nomatch z))];exact ec
end
def HP (i:Expr):Prop:=∀ov iv,subscripted i false ov iv=operate [ov,iv] (getItem ov iv)
theorem GS {value slice}{id}{Q} 
  (hl:typeLookup (.type T) "__getitem__"=pure (some (.builtin id))) (hs:HP slice)
  (h:wpAny (model prog w) A (eval value env) (λo s₁=>wpAny (model prog w) A (eval slice env) (λi s₂=>s₂.TypeIs o T/\wpAny (model prog w) A (getItem o i) Q E s₂) E s₁) E s) :
  wpAny (model prog w) A (eval (.Subscript value slice pos) env) Q E s:=by
 refine Subscript_ (Cf h (λo s₁ h₁=>Cf h₁ (λi s₂ J=>?_) λ_ _ x=>x) λ_ _ x=>x);obtain⟨U,J⟩:=J;unfold subscriptTail;refine DX ?_;rw[getitemInPython_of_ne U.not_modules];refine DX (wpAny_specialOf U hl ?_);have fin:wpAny (model prog w) A (subscripted slice false o i) (λr s₃=>wpAny (model prog w) A (letTemporaryGo value o r >>= λ_=>pure r) Q E s₃) E s₂:=by
  rw[hs o i];exact wpAny_operating (Cf J (λr s₃ h₃=>DX (wpAny_letTemporaryGo (D3 h₃))) λ_ _ x=>x)
 first
  | exact D3 (DX fin)
  | exact DX (D3 (DX fin))
  | exact DX fin
theorem Um {y}{o}(I:Inv X pins σ H s)(g:DGet H a y o):s.TypeIs (.ref a) "dict":=by
 rcases g with ⟨kvs,k,e,_,_⟩|⟨kvs,k,b,e,_,_,_⟩
 ·obtain⟨_,_,vs,_,dd⟩:=Bc I.hok e;exact dd.typeIs
 ·obtain⟨_,_,xs,_,dd⟩:=Ba I.hok e;exact dd.typeIs
def YK (td ty:TE):TE:=λσ H Q=>td σ H λx H1=>ty σ H1 λy H2=>∃a v,x=.ref a/\DGet H2 a y (some v)/\Q v H2
def P7 (td ty tv:TE):TS:=λD σ H=>tv σ H λv H1=>td σ H1 λx H2=>ty σ H2 λy H3=>∃a H4,x=.ref a/\DPut H3 a y v H4/\D.nx σ H4
section
variable {X:Cx} {o i e value:Expr} {pos pos' tpos:Pos} {td ty tv:TE}
theorem Za (hu:X.A.units+1<cLine)(ho:PE X o td)(hi:PE X i ty)(hs:HP i):PE X (.Subscript o i pos) (YK td ty):=by
 intro pins s σ H Q I h;refine GS PySem.F.slot_dict_getitem.lookup hs (A4 (ho pins s σ H _ I h) λu s1 ⟨x,H1,I1,rx,q1⟩=>A4 (hi pins s1 σ H1 _ I1 q1) λiv s2 ⟨y,H2,U,ry,a,v,ex,g,q2⟩=>?_);subst ex;obtain rfl:u=Value.ref a:=rx;exact⟨Um U g,Mc hu U g ry λw' s3 I3 J=>⟨v,H2,I3,J,q2⟩⟩
theorem Rm (hu:X.A.units+1<cLine)(ho:PE X o td)(hi:PE X i ty)(hv:PE X value tv)(hs:swapsWith value (some (.Subscript o i pos')) pos.line X.env=pure false) :
  PS X (.Assign [.Subscript o i pos'] value pos) (P7 td ty tv):=by
 intro pins s σ H D I h;refine wpAny_Assign_Subscript (A4 (hv pins s σ H _ I h) λr s1 ⟨v,H1,I1,rv,q1⟩=>A4 (ho pins s1 σ H1 _ I1 q1) λu s2 ⟨x,H2,I2,rx,q2⟩=>A4 (hi pins s2 σ H2 _ I2 q2) λiv s3 ⟨y,H3,I3,ry,a,U,ex,g,q3⟩=>?_) hs;subst ex;obtain rfl:u=Value.ref a:=rx;exact Mb hu I3 g ry rv λs4 J=>⟨σ,U,J,q3⟩
end
theorem Bf (h:Heap)(hb:sysModules<h.objs.size):ObjOk P w H (h.push { cls:=.type "dict",data:=.dict #[] }) h.objs.size (.dK []):=
 ⟨CF _,beq_eq_false_iff_ne.mpr (CP (Cd hb)),[],.nil,Heap.DictOf.new h⟩
def KW:List (TE×TE)->St->Hp->(List (V×V)->Hp->Prop)->Prop
 | [],_,H,Q=>Q [] H
 | (tk,tv)::r,σ,H,Q=>tk σ H λx H1=>tv σ H1 λy H2=>KW r σ H2 λps J=>Q ((x,y)::ps) J
abbrev VV:List (V×V)->List (Value×Value)->Prop:=Paired λp q=>RelV p.1 q.1/\RelV p.2 q.2
def lx (X:Cx)(pos:Pos)(keys:List (Option Expr))(values:List Expr)(trs:List (TE×TE)):Prop:=
 ∀(pins:List (Addr×Obj)) (s:Shared) (σ:St) (H:Hp) (Q:List (V×V)->Hp->Prop),Inv X pins σ H s->KW trs σ H Q ->
  wpAny (model X.prog X.w) X.A (evalPairs (pairTrees keys values X.env pos)) (λvs s'=>∃ps H',Inv X pins σ H' s'/\VV ps vs/\Q ps H') X.xe s
theorem Rn:lx X pos [] [] []:=λpins s σ H Q I h=>pairTrees_nil_walk ⟨[],H,I,.nil,h⟩
theorem V1 {k v}{ks}{vs}{tk tv}{trs}(hk:PE X k tk)(hv:PE X v tv)(hr:lx X pos ks vs trs) :
  lx X pos (some k::ks) (v::vs) ((tk,tv)::trs):=λpins s σ H Q I h=>
 pairTrees_cons_walk (A4 (hk pins s σ H _ I h) λu s1 ⟨x,H1,I1,rx,U⟩=>A4 (hv pins s1 σ H1 _ I1 U) λw2 s2 ⟨y,H2,I2,ry,q2⟩=>
  A4 (hr pins s2 σ H2 _ I2 q2) λws s3 ⟨ps,H3,I3,J,q3⟩=>⟨(x,y)::ps,H3,I3,.cons ⟨rx,ry⟩ J,q3⟩)
def Wj (kvs more:List (Key×V)):List (Key×V):=more.foldl (λacc kv=>X2 acc kv.1 kv.2) kvs
theorem KV.merge:∀{J} {rs} {kvs} {vs},KV J rs->KV kvs vs->KV (Wj kvs J) (merged vs rs):=by
 intro J rs kvs vs r;unfold KV at r
 induction r generalizing kvs vs with
 | nil=>intro q;exact q
 | @cons p q ps qs h t ih=>
  intro U;have e:KV (X2 kvs p.1 p.2) (stored vs q.1 q.2):=by
   have:=U.put p.1 h.2;rw [<-h.1];exact this
  exact ih e
theorem Yu:∀more kvs,(Wj kvs more).length<=kvs.length+more.length
 | [],kvs=>by show kvs.length<=kvs.length+0;omega
 | p::r,kvs=>by
  have h1:=Yu r (X2 kvs p.1 p.2);have h2:=X6 kvs p.1 p.2;show(Wj (X2 kvs p.1 p.2) r).length<=_;rw[Cm];omega
theorem JD {P:Program}{w:World}:∀{kvs:List (Key×V)} {ws:List (Value×Value)},VV (kvs.map λkv=>(kV kv.1,kv.2)) ws->∃rs,Carries (QQ P w) ws rs/\KV kvs rs
 | [],_,r=>by rw[List.map_nil] at r;cases r;exact⟨[],True.intro,.nil⟩
 | p::kvs,_,r=>by
  rw[CQ] at r;cases r with
  | @cons a b as bs h t=>
   obtain⟨rs,c,q⟩:=JD (P:=P) (w:=w) t;obtain⟨b1,b2⟩:=b;exact⟨(p.1,b2)::rs,⟨Kr h.1,rfl,c⟩,.cons ⟨rfl,h.2⟩ q⟩
def F9 (trs:List (TE×TE)):TE:=λσ H Q=>∀p,H p=none->KW trs σ (upd H p (.dK [])) λps H2=>H2 p=some (.dK [])/\∃kvs:List (Key×V),ps=kvs.map (λJ=>(kV J.1,J.2))/\kvs.length<=15/\Q (.ref p) (upd H2 p (.dK (Wj [] kvs)))
theorem RC {keys}{values}{trs}(h:lx X pos keys values trs)(hall:keys.all (·.isSome)=true)(hl:keys.length=values.length)(h0:keys≠[])
  (h15:keys.length<=15):PE X (.Dict keys values pos) (F9 trs):=by
 intro pins s σ H Q I q;have hn:=I.hok.fresh (D2 s.heap.objs.size);have I1:=I.laid (a:=s.heap.objs.size) (o:=.dK []) (h':=s.heap.push { cls:=.type "dict",data:=.dict #[] }) (t':=s.toks) (λ_ _ q=>D8 _ q) (D2 _) (Bf s.heap I.big);refine wpAny_Dict_walk (knd:=QQ X.prog X.w) hall hl h0 h15 (A4 (h pins _ σ _ _ I1 (q _ hn)) λws s2 ⟨ps,H2,I2,U,e,kvs,ep,lk,q2⟩=>?_);subst ep;obtain⟨rs,c,rk⟩:=JD (P:=X.prog) (w:=X.w) U;obtain⟨z,hd,a4,r0,dd⟩:=Ts I2.hok e;cases r0;refine⟨rs,c,dd,λh' J hs=>⟨.ref s.heap.objs.size,_,?_,rfl,q2⟩⟩;have hz:(Wj [] kvs).length<=sizeLine:=by
  have h1:=Yu kvs [];rw[List.length_nil] at h1;rw[Cb];omega
 have he:∃q,h'.get? s.heap.objs.size=some q:=let ⟨q,_,_,hq,_⟩:=J;⟨q,hq⟩;exact Vu I2 (by rw[e];exact True.intro) hs he (Be hz hd (rk.merge .nil) J)
section
variable {κ:Type} [DecidableEq κ]
theorem YX:∀{l} {k:κ},l.Nodup->¬k∈l->(l++[k]).Nodup
 | [],k,_,_=>by simp
 | a::r,k,h,hk=>by
  obtain⟨h1,h2⟩:=CZ.mp h;show(a::(r++[k])).Nodup;refine CZ.mpr ⟨λm=>?_,YX h2 λm=>hk (Ca.mpr (Or.inr m))⟩;rcases Cr.mp m with q|q
  ·exact h1 q
  ·exact hk (Ca.mpr (Or.inl (D7.mp q).symm))
end
section
variable {X:Cx} {e o value:Expr} {ta tv:TE} {f:Str} {pos pos':Pos}
theorem RB (K)(h:X.K=K)(he:PE X e ta)(hb:attributeBase e f X.env (eval e X.env)=eval e X.env:=by rfl):PE X (.Attribute e f pos) (B1 K ta f):=by subst h;exact SW he hb
theorem QC (K)(h:X.K=K)(ha:PE X o ta)(hv:PE X value tv)(hs:swapsWith value (some (.Attribute o f pos')) pos.line X.env=pure false:=by rfl):PS X (.Assign [.Attribute o f pos'] value pos) (B6 K ta tv f):=by subst h;exact SN ha hv hs
end
def Em (K:W.Frag):V->List V->Hp->VK->Prop:=λx vs H Q=>∃(z:Str) (p:Addr) (ys:List Str),x=.str z/\vs=[.ref p]/\A6 K H p (ys.map V.str)/\(ys.map (·.length)).sum+ys.length*z.length<=16777216/\Q (.str (Txt.join z ys)) H
theorem U2:∀{us},Vals (ys.map V.str) us->StrsAre us ys:=by
 induction ys with
 | nil=>intro us r;rw[List.map_nil] at r;cases r;exact .nil
 | cons y ys U=>
  intro us r;rw[CQ] at r;cases r with
  | cons J r=>
   obtain⟨t,rfl⟩:=J;exact .cons _ _ (U r)
theorem Nb (K){X}(h:X.K=K):kA X "str.join" (Em K):=by
 subst h;intro pins s σ H x xs v us Q I rx rs q;obtain⟨z,p,ys,rfl,rfl,J,U,q⟩:=q;obtain⟨t,rfl⟩:=rx;obtain⟨u,rfl,r1⟩:=ZK rs;obtain rfl:=r1.ref_of;obtain⟨its,rv,pl,_⟩:=I.list J;exact join_list pl.isList (by simpa using U2 rv) U λt' k=>⟨.str _,H,I.tok _,⟨_,rfl⟩,q⟩
def Eh:List V->Hp->VK->Prop:=λxs H Q=>(∃i,xs=[.int i]/\i.natAbs.log2<1920/\Q (.str (toString i)) H)∨(∃z,xs=[.str z]/\Q (.str z) H)
theorem Mi:CallR X (.type "str") (λxs H Q=>∃z,xs=[.str z]/\Q (.str z) H):=by
 intro pins s σ H xs us Q I r h;obtain⟨z,rfl,q⟩:=h;obtain⟨u,rfl,t,rfl⟩:=ZK r;exact PySem.P.str_of_str ⟨.str z,H,I,⟨_,rfl⟩,q⟩
theorem Zd:CallR X (.type "str") Eh:=call_str_int.or Mi
structure GB (P:Program)(w:World)(K:W.Frag)(mg:Str->Option Value)(base:Heap)(k:Nat)(C:Addr)(m:Str)(ps:List Str)(sp:Sp):Prop where
 ex:∃(f:Addr) (fd:FuncData),FnOk P w K mg base Ih k f fd ps sp/\Binds K fd ps []/\BF K C m f
structure JK (P:Program)(w:World)(K:W.Frag)(mg:Str->Option Value)(base:Heap)(k:Nat)(C:Addr)(ps:List Str)(sp:Sp):Prop where
 ex:∃(f:Addr) (fd:FuncData),FnOk P w K mg base Ih k f fd ps sp/\Binds K fd ps []/\Mk K C f
structure IsC (K:W.Frag)(C:Addr):Prop where
 ha:W.findIn K (.ref C) "__class__"=some (some (.builtin "object.__class__"))
 hn:W.specialIn K (.builtin "object.__class__") "__get__"=some (some (.builtin "getset_descriptor.__get__"))
 htk:W.takesIn K (.builtin "object.__class__")=some true
 hm:W.mroIn K C (.type "object")=some true
theorem IsC.ty {fs}(h:IsC K C)(c:Cls K C)(e:H a=some (.ins C dx fs)):TyOf K H (.ref a) (.ref C):=.ins e c h.ha h.hn h.htk h.hm
section
variable {X:Cx} {k:Nat} {C:Addr} {m x:Str} {ps:List Str} {sp:Sp} {p pos apos:Pos} {o e:Expr} {es:List Expr} {t:TA} {ta:TE}
theorem Gb (G:GB X.prog X.w X.K X.mg X.base k C m ps sp)(hr:Room k X.A)(c:Cls X.K C)(he:PE X o ta)(ha:PA X (e::es) t)
  (hst:starEach (e::es) X.env=(false,eval e X.env)::starEach es X.env:=by rfl) (hpl:(backTo pos (starEach es X.env)).any (·.1)=false:=by rfl)
  (ht:eval (.Call (.Attribute o m apos) (e::es) [] pos) X.env=(do
   let ov <-eval o X.env
   standAt apos.atName
   let (f,first) <-holding [ov] (getMethod ov m pl)
   callWith pos f first (backTo pos (starEach (e::es) X.env)) (backToKw pos (keywordEach [] X.env))):=by rfl) :
  PE X (.Call (.Attribute o m apos) (e::es) [] pos) (W9 C m sp [] E0 ta t):=by
 obtain⟨f,fd,F,b,M⟩:=G.ex;exact Rx he c M F hr b .nil Kj ha hst hpl ht
theorem G4 (G:GB X.prog X.w X.K X.mg X.base k C m ps sp)(hr:Room k X.A)(c:Cls X.K C)(he:PE X o ta)
  (ht:eval (.Call (.Attribute o m apos) [] [] pos) X.env=(do
   let ov <-eval o X.env
   standAt apos.atName
   let (f,first) <-holding [ov] (getMethod ov m pl)
   callWith pos f first (backTo pos (starEach [] X.env)) (backToKw pos (keywordEach [] X.env))):=by rfl) :
  PE X (.Call (.Attribute o m apos) [] [] pos) (W9 C m sp [] E0 ta JO):=by
 obtain⟨f,fd,F,b,M⟩:=G.ex;exact V3 he c M F hr b .nil Kj ht
theorem YE (G:JK X.prog X.w X.K X.mg X.base k C ps sp)(hr:Room (k+1) X.A)(hg:Gl X x)(hm:X.mg x=some (.ref C))(ha:PA X (e::es) t)(hdb:(x==("__debug__":Str))=false:=by decide)
  (he:starEach (e::es) X.env=(false,eval e X.env)::starEach es X.env:=by rfl) (hpl:(backTo pos (starEach es X.env)).any (·.1)=false:=by rfl):PE X (.Call (.Name x p) (e::es) [] pos) (Yt C sp [] E0 t):=by
 obtain⟨f,fd,F,b,M⟩:=G.ex;exact G5 M F hr hg hm b .nil Kj ha hdb he hpl
end
theorem Yq {f}{fs}(hp:H p=some (.ins C dx fs))(c:Cls K C)(n:NoAttr K C f)(l:fs.lookup f=some v)(q:Q v H)(e:σ[i]?=some (some (.ref p)):=by rfl):B1 K (Xj i) f σ H Q:=by
 show asVar σ[i]? _;rw[e];exact⟨p,C,dx,fs,v,rfl,hp,c,n,l,q⟩
theorem XX {f}{fs}{D}(hp:H p=some (.ins C dx fs))(c:Cls K C)(n:NoAttr K C f)(l:fs.length<1000)(q:D.nx σ (upd H p (.ins C dx (QI f v fs))))(e:σ[i]?=some (some (.ref p)):=by rfl)(e':σ[j]?=some (some v):=by rfl):B6 K (Xj i) (Xj j) f D σ H:=by
 show asVar σ[j]? _;rw[e'];show asVar σ[i]? _;rw[e];exact⟨p,C,dx,fs,rfl,hp,c,n,l,q⟩
def P9:R2:=λx y H Q=>∃z n,x=.str z/\y=.int n/\PySem.MulOk z n/\Q (.str (Txt.mul z n)) H
theorem RG:OpR X (binaryOp .Mult) P9:=by
 intro pins s σ H x y v u Q I U ry h;obtain⟨z,n,rfl,rfl,J,q⟩:=h;obtain⟨t,rfl⟩:=U;obtain⟨t',rfl⟩:=ry;exact SB.mul J λt' tk=>⟨.str (Txt.mul z n),H,I.tok _,⟨_,rfl⟩,q⟩
def sMul:R2:=λx y H Q=>match x,y with
 | .int i,.int j=>CMulB i j/\Q (.int (i*j)) H
 | .str z,.int n=>PySem.MulOk z n/\Q (.str (Txt.mul z n)) H
 | _,_=>False
theorem sMul.out (x y)(H)(Q)(h:sMul x y H Q):rI CMulB (λi j=>.int (i*j)) x y H Q∨P9 x y H Q:=by
 unfold sMul at h;split at h
 ·exact .inl ⟨_,_,rfl,rfl,h⟩
 ·exact .inr ⟨_,_,rfl,rfl,h⟩
 ·exact h.elim
theorem YT:OpR X (binaryOp .Mult) sMul:=(op_mulB.or RG).imp sMul.out
theorem MK {m}{sp}{ta}{fs}(hp:H p=some (.ins C dx fs))(l:fs.lookup m=none)(q:ta σ H λvs H2=>sp (.ref p::(vs++[])) H2 Q E0)(e:σ[i]?=some (some (.ref p)):=by rfl):W9 C m sp [] E0 (Xj i) ta σ H Q:=by
 show asVar σ[i]? _;rw[e];exact⟨p,dx,fs,rfl,hp,l,q⟩
theorem FP {x}{D}{t}{b}(ty:TyOf K H x t)(e:W.kitOne K t (.ref D)=some b)(q:Q (.bl b) H):G0 K [x,.ref D] H Q:=.inl (.inl ⟨x,.ref D,t,b,.ref D,rfl,rfl,λ_ h=>h,ty,e,q⟩)
theorem Hl {k}(h:Jm k u=true):RelV (kV k) u:=by
 rcases QX h with ⟨i,t,rfl,rfl⟩|⟨x,t,rfl,rfl⟩
 ·exact⟨t,rfl⟩
 ·exact⟨t,rfl⟩
def mE (P:Program)(w:World)(o:Obj)(vs:List (Key×Value))(ep:Nat):Prop:=∃es,o.ExactDict/\o.data=.dict es ep/\KeysOf (QQ P w) es/\Pairs (QQ P w) es.toList vs/\(vs.map (·.1)).Nodup
section
variable {P:Program} {w:World} {A:Around} {R:Result->Shared->Prop} {I:Addr} {fp wr:List Addr} {G:Array GenState->Array GenState->Prop} {n:Nat} {T:Nat->Value->Prop} {St:Nat->Shared->Prop}
def met (zs:List Str)(i:Nat)(k:Str):Bool:=decide (k∈zs.take i)
theorem Jo (z)(t):Value.isStrOf z (.str z t)=true:=by simp[Value.isStrOf]
theorem Hf (nd:zs.Nodup){i:Nat}{z}(h:zs[i]?=some z):met zs i z=false:=by
 unfold met;refine Ce λU=>?_
 obtain⟨j,J,e⟩:=List.mem_iff_getElem.mp U;rw[CC] at J;rw[List.getElem_take] at e;have e1:zs[j]?=some z:=by rw[D4 (by omega),e]
 have:=(List.getElem?_inj (by omega) nd).mp (e1.trans h.symm);omega
theorem LJ (h:zs[i]?=some z)(k):(met zs i k||decide (k=z))=met zs (i+1) k:=by
 unfold met;rw[CS,h];simp only[Option.toList_some,Cr,D7,Bool.decide_or]
end
section
variable {P:Program} {w:World} {A:Around} {E:Value->Shared->Prop} {s:Shared}
def JR (led:Bool):Obj:={ cls:=.type "set",dict:=none,data:=.set #[] 0 (.fresh 0 0 led) }
end
def HN (a:Addr)(n:Nat):HO:=.ext λh=>∃o es ep t,h.get? a=some o/\o.ExactSet/\o.data=.set es ep t/\t.fits es.size=true/\es.size=n
def El:List V->Hp->VK->Prop:=λxs H Q=>∃(p:Addr) (n:Nat),xs=[.ref p]/\H p=some (HN p n)/\n<=100/\Q (.int n) H
theorem Mm:CallR X (.builtin "len") El:=by
 intro pins s σ H xs us Q I rs q;obtain⟨p,n,rfl,hp,hn,q⟩:=q;obtain⟨u,rfl,r1⟩:=ZK rs;obtain rfl:=r1.ref_of;obtain⟨⟨o,es,ep,t,h1,h2,J,U,rfl⟩,_⟩:=(show ObjOk X.prog X.w H s.heap p (HN p n) from I.hok p _ hp)
 exact call_len_set h1 h2 J U (by omega) ⟨.int es.size,H,I.tok _,⟨_,rfl⟩,q⟩
def dn (zs:List Str):Nat->Nat
 | 0=>0
 | i+1=>match zs[i]? with
  | some z=>if met zs i z=true then dn zs i else dn zs i+1
  | none=>dn zs i
theorem Nr (zs):∀i,dn zs i<=i
 | 0=>D2 _
 | i+1=>by
  have:=Nr zs i;rw[dn];split
  ·split<;>omega
  ·omega
theorem Bb:∀{i:Nat},dn zs i=i->i<=zs.length->(zs.take i).Nodup
 | 0,_,_=>by simp
 | i+1,h,hi=>by
  have hl:=Nr zs i;have U:zs[i]?=some zs[i]:=D4 hi;rw[dn,U] at h;dsimp only at h;split at h
  ·omega
  ·rename_i hm;have ih:=Bb (by omega) (Ak hi);rw[CS,U];refine C7.mpr ⟨ih,by simp,λa ha b J e=>?_⟩;have J:b=zs[i]:=by simpa using J
   exact hm (Ck (by rw [<-J,<-e];exact ha))
theorem Tr {zs}(nd:zs.Nodup):∀{i:Nat},i<=zs.length->dn zs i=i
 | 0,_=>rfl
 | i+1,hi=>by
  have J:zs[i]?=some zs[i]:=D4 hi;rw[dn,J];dsimp only;rw[Hf nd J,Tr nd (Ak hi)];rfl
theorem dn_iff:dn zs zs.length=zs.length↔zs.Nodup:=
 ⟨λh=>by have:=Bb h (D2 _);rwa [List.take_length] at this,λh=>Tr h (D2 _)⟩
section
variable {P:Program} {w:World} {A:Around} {R:Result->Shared->Prop} {I:Addr} {fp wr:List Addr} {G:Array GenState->Array GenState->Prop} {n:Nat} {T:Nat->Value->Prop} {St:Nat->Shared->Prop}
theorem ND (W:WalksS P w A.in1 I fp wr G n T St)(S)(hS:S∉fp)(zs:List Str)(hn:zs.length=n)(hT:∀i v,T i v->∃z t,zs[i]?=some z/\v=.str z t)(hb:n+1<scanBound):∀(k i:Nat) (s:Shared),n-i=k->i<=n->St i s->s.heap.SetOf (strKind P w) S (met zs i) (dn zs i) ->
  (∀s',Moved (S::wr) G s s'->s'.heap.SetOf (strKind P w) S (met zs n) (dn zs n)->R (.ok (.ret .none)) s')->codeAny (model P w) A (.builtin "set.update.loop" ⟨[.ref S,.ref I],[]⟩) R s:=by
 have U:S∉wr:=λz=>hS (W.sub _ z)
 have sub:∀b∈wr,b∈S::wr:=λb z=>Cu _ z
 intro k
 induction k with
 | zero=>
  intro i s hk hi st hs hR;obtain rfl:i=n:=by omega
  refine codeAny_builtin F.entry_set_update_loop ?_;rw[Around.under_plainId F.plain_set_update_loop _];refine DX (m:=pyNext (.ref I)) (W.done s _ _ st λs' mv=>?_);refine(show wpAny _ A.in1 (ret Value.none) _ _ s' from D3 (hR s' (mv.mono sub) ?_));obtain⟨o,es,ep,t,ho,r⟩:=hs;exact⟨o,es,ep,t,mv.heap S _ U ho,r⟩
 | succ k ih=>
  intro i s hk hi st hs hR;have lt:i<n:=by omega
  refine codeAny_builtin F.entry_set_update_loop ?_;rw[Around.under_plainId F.plain_set_update_loop _];refine DX (m:=pyNext (.ref I)) (W.item i s _ _ lt st λv s' hv a6 mv=>?_);obtain⟨z,t,hz,rfl⟩:=hT i v hv;have a8:s'.heap.SetOf (strKind P w) S (met zs i) (dn zs i):=by
   obtain⟨o,es,ep,tb,ho,r⟩:=hs;exact⟨o,es,ep,tb,mv.heap S _ U ho,r⟩
  show wpAny _ A.in1 (holding [Value.str z t] (setAdd S (.str z t)) >>= _) _ _ s';refine DX (wpAny_holding ?_);unfold setAdd;refine wpAny_holding ?_;refine DX ((strKind P w).pyHash (k:=z) (Jo z t) ?_);have dl:=Nr zs i;refine wpAny_setAddHashed_of (knd:=strKind P w) (s:={ s' with toks:=s'.toks+1 }) (k:=z) (Jo z t) rfl a8 (by omega) λh' sb s2=>?_
  have si:h'.SetOf (strKind P w) S (met zs (i+1)) (dn zs (i+1)):=SetOf_congr s2 (λk'=>LJ hz k') (by rw[dn,hz]);refine D3 ⟨plainId_quiet F.plain_set_update_loop _,ih (i+1) _ (by omega) lt (W.frame _ s' _ _ a6 (CY _) λb J o e=>?_) si λa5 a7 a4=>?_⟩
  ·rw [sb.2 b (fun z:b=S=>hS (by rw [<-z];exact J))];exact e
  ·refine hR a5 (Moved.trans W.gtrans ((mv.mono sub).then_heap (CY _) λb o J e=>?_) a7) a4;rw[sb.2 b (λz:b=S=>J (by rw[z];exact Cw))];exact e
end
section
variable {P:Program} {w:World} {A:Around} {E:Value->Shared->Prop} {s:Shared}
theorem Gz {its}{Q}(hh:A.handled=none)(hl:s.heap.IsList l its)(hn:zs.length=its.size)(hi:∀(i:Nat) v,its[i]?=some v->∃z t,zs[i]?=some z/\v=.str z t)(hb:its.size+1<scanBound)
  (h:∀(h':Heap) (tk:Nat),h'.SetOf (strKind P w) s.heap.objs.size (met zs its.size) (dn zs its.size)->(∀b o,b<s.heap.objs.size->s.heap.get? b=some o->h'.get? b=some o)->Q (.ref s.heap.objs.size) { s with heap:=h',toks:=tk }) :
  wpAny (model P w) A (call (.type "set") [.ref l]) Q E s:=by
 obtain⟨c,tl,ai⟩:=F.called_set.mro;have af:=F.called_set.made;have ah:=F.called_set.sub;refine wpAny_call (codeAny_of_tree (show wpAny _ _ (callAny (.type "set") _) _ _ _ from ?_));refine D3 ⟨Code.quiet_builtin _ (by decide +kernel),codeAny_builtin F.entry_type_call ?_⟩;rw[Around.under_plain (weight_type_call_type "set" [.ref l] []) rfl];have h1:=F.called_set.notType;have h2:=F.called_set.canCreate;have ak:=F.typeCall_set_1 (.ref l)
 repeat (any_goals (first|assumption|wp_step))
 refine C5 (code_set_new_1 (.ref l) (E:=E) (Q₁:=λa9 s1=>∃J:Bool,a9=.ref s.heap.objs.size/\s1={ s with heap:=s.heap.push (JR J) }) λJ=>⟨J,rfl,rfl⟩) λr s1 hr=>?_
 match r,hr with
 | .error e,hr=>exact hr
 | .ok .next,hr|.ok .brk,hr|.ok .cont,hr=>exact hr.elim
 | .ok (.ret a9),hr=>
  obtain⟨J,rfl,rfl⟩:=hr;have hS:(s.heap.push (JR J)).get? s.heap.objs.size=some (JR J):=Cz _ rfl;have hT:Shared.TypeIs { s with heap:=s.heap.push (JR J) } (.ref s.heap.objs.size) "set":=⟨_,hS,rfl⟩
  have aj:=F.called_set.init.lookup;have ao:=F.called_set.init.bind (.ref s.heap.objs.size)
  repeat (any_goals (first|assumption|wp_step))
  refine C5 (codeAny_call_builtin (R:=wants (λr s2=>r=.none/\∃h' tk,s2={ s with heap:=h',toks:=tk }/\h'.SetOf (strKind P w) s.heap.objs.size (met zs its.size) (dn zs its.size)/\∀b o,b<s.heap.objs.size->s.heap.get? b=some o->h'.get? b=some o) E) F.called_set.init.plain F.entry_set_init (check_set_init_1 hT ?_)) λr2 s2 U=>?_
  ·obtain⟨⟨oc,od,ot,os⟩,a7,rfl,nl,rfl⟩:=hl;have a6:(s.heap.push (JR J)).get? l=some { cls:=.type "list",dict:=od,data:=.seq its nl,slots:=os }:=D8 _ a7;have e1:=F.sub_list_set;have e2:=F.sub_list_frozenset;have e3:(Value.type "list" == Value.type "dict")=false:=by decide
   have a5:(s.heap.push (JR J)).IsList l its:=⟨_,a6,rfl,nl,rfl⟩
   unfold Builtin.«set.__init__» noKeywords Builtin.Frozenset.updateFrom;generalize hp:pyIter=pI
   wp_walk
   subst hp;refine wpAny_pyIter_list a5 (DX (wpAny_runValue ?_));have ls:l<s.heap.objs.size:=D5 a7;have ne:l≠(s.heap.push (JR J)).objs.size:=by rw[Heap.size_push];exact Cd (Nat.lt_succ_of_lt ls)
   have nf:s.heap.objs.size∉[(s.heap.push (JR J)).objs.size,l]:=by rw[Heap.size_push];simp only[Ca,List.not_mem_nil,or_false,not_or];exact⟨Cd (Ao _),AC ls⟩
   refine ND ((Walks.list (show A.in1.in1.in1.handled=none by simp[hh]) _ l ne its).toS) s.heap.objs.size nf zs hn hi hb (its.size-0) 0 _ (by omega) (CF _) ⟨⟨_,Cz _ rfl,rfl,rfl⟩,(a5.push _)⟩ ?_ ?_
   ·have g:((s.heap.push (JR J)).push { cls:=.type "list_iterator",data:=.fields #[.ref l,.int 0 0] }).get? s.heap.objs.size=some (JR J):=D8 _ hS;exact SetOf_congr ((setObjOf_fresh (knd:=strKind P w) J).setOf g (by unfold scanBound;omega)) (λ_=>by unfold met;simp) rfl
   ·rintro ⟨h',g',d',aa,ag⟩ mv a4;have eg:g'=s.gens:=mv.gens;have ed:d'=s.drawn:=mv.drawn;have eo:ag=s.os:=mv.os;subst eg;subst ed;subst eo;refine(show wpAny _ _ _ _ _ _ from D3 (show wpAny _ _ (ret Value.none) _ _ _ from D3 ⟨rfl,h',aa,rfl,a4,λb o a8 e=>?_⟩));refine mv.heap b o ?_ (D8 _ (D8 _ e));rw[Heap.size_push];simp only[Ca,List.not_mem_nil,or_false,not_or];exact⟨Cd a8,Cd (Nat.lt_succ_of_lt a8)⟩
  ·match r2,U with
   | .error e,U=>exact U
   | .ok .next,U|.ok .brk,U|.ok .cont,U=>exact U.elim
   | .ok (.ret r),U=>
    obtain⟨rfl,h',tk,rfl,a4,ae⟩:=U
    repeat (any_goals (first|assumption|wp_step))
    exact h _ _ a4 ae
end
def Ei (K:W.Frag):List V->Hp->VK->Prop:=λxs H Q=>∃(a:Addr) (zs:List Str),xs=[.ref a]/\A6 K H a (zs.map V.str)/\zs.length<=100/\∀p,H p=none->Q (.ref p) (upd H p (HN p (dn zs zs.length)))
theorem Mj (K){X}(h:X.K=K)(hc:X.calm=true):CallR X (.type "set") (Ei K):=by
 subst h;intro pins s σ H xs us Q I rs q;obtain⟨a,zs,rfl,hL,hl,q⟩:=q;obtain⟨u,rfl,r1⟩:=ZK rs;obtain rfl:=r1.ref_of;obtain⟨its,rv,pl,hz⟩:=I.list hL;have ln:=rv.length;rw[D1] at ln;refine Gz (its:=its.toArray) (zs:=zs) (I.ok.hd hc) pl.isList (by simp[ln]) (λi v hv=>?_) (by simp only[CA];unfold scanBound;omega) λh' tk hS hk=>?_
 ·have J:its[i]?=some v:=by simpa using hv
  have hi:=(Cg.mp J).1;obtain⟨z,U⟩:∃z,zs[i]?=some z:=⟨_,D4 (by omega)⟩
  obtain⟨w',hw,⟨t,e⟩⟩:=rv.get (x:=.str z) (by rw[Ct,U];rfl);rw[J] at hw;cases hw;exact⟨z,t,U,e⟩
 ·have fr:H s.heap.objs.size=none:=I.hok.fresh (D2 _);obtain⟨o,es,ep,t,h1,h2,h3,h4,h5,h6,h7,h8⟩:=hS;refine⟨.ref s.heap.objs.size,_,I.laid (a:=s.heap.objs.size) (λb u e=>hk b u (D5 e) e) (D2 _) ?_,rfl,q _ fr⟩;refine⟨⟨o,es,ep,t,h1,h2,h3,h7,by rw[h8];simp[ln]⟩,⟨o,h1⟩,?_⟩;rintro g1 g2 ⟨o',es',ep',t',k1,k2⟩ k;exact⟨o',es',ep',t',k _ k1,k2⟩
structure DV (n:Nat)(lt:Nat->Nat->Bool):Prop where
 tot:∀i j,i<n->j<n->i≠j->lt i j=!lt j i
 tr:∀i j k,i<n->j<n->k<n->lt i j=true->lt j k=true->lt i k=true
section
variable {n:Nat} {lt:Nat->Nat->Bool} {p:Array Nat}
variable (L:DV n lt)
include L
end
def oA (a b:Str):Prop:=a.cps.toList<b.cps.toList
instance (a b:Str):Decidable (oA a b):=inferInstanceAs (Decidable (a.cps.toList<b.cps.toList))
def SA:V->Hp->VK->Prop:=λv H Q=>match v with
 | .int i=>i.natAbs.log2<1920/\Q (.str (Str.ofString (toString i))) H
 | .str z=>z.length<=sizeLine/\Q (.str z) H
 | _=>False
def F8 (ta:TE):TE:=λσ H Q=>ta σ H λv H1=>SA v H1 Q
abbrev TJ:=Str->St->Hp->VK->Prop
def PJ (X:Cx)(es:List Expr)(t:TJ):Prop:=∀(acc:Str) (pins:List (Addr×Obj)) (s:Shared) (σ:St) (H:Hp) (Q:VK),Inv X pins σ H s->t acc σ H Q->Joins (model X.prog X.w) X.A X.xe (evalEach es X.env) acc (λout J=>out.length<=sizeLine/\EP X pins σ Q (.str out J.toks) { heap:=J.heap,gens:=J.gens,drawn:=J.drawn,toks:=J.toks+1,os:=J.os }) s
def P4:TJ:=λacc σ H Q=>acc.length<=sizeLine/\Q (.str acc) H
def sJ (acc:Str)(v:V)(P:Str->Prop):Prop:=match v with
 | .str z=>(acc++z).length<=sizeLine/\P (acc++z)
 | _=>False
def M0 (ta:TE)(t:TJ):TJ:=λacc σ H Q=>ta σ H λv H1=>sJ acc v λz=>t z σ H1 Q
def GQ (t:TJ):TE:=λσ H Q=>t Str.empty σ H Q
section
variable {X:Cx} {e e2:Expr} {es:List Expr} {ta:TE} {t:TJ} {pos:Pos}
theorem SV (ha:PE X e ta):PE X (.FormattedValue e (-1) none pos) (F8 ta):=by
 intro pins s σ H Q I h;refine wpAny_FormattedValue_plain (A4 (ha pins s σ H _ I h) λv s1 ⟨x,H1,U,r1,J⟩=>?_);cases x with
 | int i=>
  obtain⟨tk,rfl⟩:=r1;exact wpAny_formatField_int J.1 ⟨.str _,H1,(U.tok _).tok _,⟨_,rfl⟩,J.2⟩
 | str z=>
  obtain⟨tk,rfl⟩:=r1;exact wpAny_formatField_str ⟨.str _,H1,U,⟨_,rfl⟩,J.2⟩ ⟨.str _,H1,U.tok _,⟨_,rfl⟩,J.2⟩ J.1
 | _=>exact J.elim
theorem SO:PJ X [] P4:=λacc pins s σ H Q I h=>by
 show Joins _ _ _ [] _ _ _;unfold Joins;exact⟨h.1,.str _,H,I.tok _,⟨_,rfl⟩,h.2⟩
theorem Ve (ha:PE X e ta)(ht:PJ X es t)(hv:evalEach (e::es) X.env=eval e X.env::evalEach es X.env:=by rfl):PJ X (e::es) (M0 ta t):=λacc pins s σ H Q I h=>by
 rw[hv];unfold Joins;refine A4 (ha pins s σ H _ I h) λv U ⟨x,H1,I1,r1,J⟩=>?_
 cases x with
 | str z=>
  obtain⟨tk,rfl⟩:=r1;exact⟨z,tk,rfl,J.1,ht _ pins U σ H1 Q I1 J.2⟩
 | _=>exact J.elim
theorem NQ (ht:PJ X (e::e2::es) t):PE X (.JoinedStr (e::e2::es) pos) (GQ t):=λpins s σ H Q I h=>wpAny_JoinedStr (ht _ pins s σ H Q I h)
end
theorem ML:GQ t σ H Q=t Str.empty σ H Q:=rfl
theorem BS {t}{acc}:M0 ta t acc σ H Q=ta σ H λv H1=>sJ acc v λz=>t z σ H1 Q:=rfl
theorem T8 {acc}:P4 acc σ H Q=(acc.length<=sizeLine/\Q (.str acc) H):=rfl
theorem Dn {acc}{P}:sJ acc (.str z) P=((acc++z).length<=sizeLine/\P (acc++z)):=rfl
theorem FV:F8 ta σ H Q=ta σ H λv H1=>SA v H1 Q:=rfl
theorem Sg {i:Int}:SA (.int i) H Q=(i.natAbs.log2<1920/\Q (.str (Str.ofString (toString i))) H):=rfl
structure RoomH (k:Nat)(A:Around)(e:Addr):Prop where
 hd:A.handled=some (.ref e)
 dp:A.depth+3*k+5<recursionLimit
 un:A.units+16*k+200<cLine
theorem RoomH.deeper {k:Nat}(r:RoomH (k+1) A e)(env):RoomH k (A.deeper env) e:=
 ⟨r.hd,by have:=r.dp;show A.depth+1+3*k+5<_;omega,by have:=r.un;show A.units+3+16*k+200<_;omega⟩
theorem RoomH.depth {k:Nat}(r:RoomH k A e):A.depth<recursionLimit:=by have:=r.dp;omega
theorem Room.hand {k:Nat}(r:Room k A)(e)(h:j<=k):RoomH j (A.mark (some (.ref e))) e:=⟨rfl,(r.mono h).dp,(r.mono h).un⟩
structure FnOkH (P:Program)(w:World)(K:W.Frag)(mg:Str->Option Value)(base:Heap)(k:Nat)(f:Addr)(fd:FuncData)(ps:List Str)(sp:Addr->Sp):Prop where
 len:∀e vs H Q E,sp e vs H Q E->vs.length=ps.length
 run:∀(A:Around) (e:Addr) (outer:List Env) (s:Shared) (H:Hp) (args:Args) (us:List Value) (vs:List V) (Q:VK) (E:XK),RoomH k A e->Env0 P w K mg base A outer s H->BindsTo s fd args (ps.zip us)->Vals vs us->sp e vs H Q E ->
  codeAny (model P w) A (.call (.ref f) args) (CR Ih outer P w H s Q E) s
theorem FnOkH.imp {k:Nat}{sp sp'}(F:FnOkH P w K mg base k f fd ps sp)
  (h:∀e vs H Q E,sp' e vs H Q E->sp e vs H Q E):FnOkH P w K mg base k f fd ps sp':=
 ⟨λe vs H Q E q=>F.len e vs H Q E (h _ _ _ _ _ q),λA e outer s H J us vs Q E hr he U hv hs=>F.run A e outer s H J us vs Q E hr he U hv (h _ _ _ _ _ hs)⟩
section
variable {P:Program} {w:World} {K:W.Frag} {mg:Str->Option Value} {base:Heap}
theorem Fun.okH {x}{N}{k:Nat}{sp}(F:Fun K x qual st f fd)(S:QW N ps (Qm st))(len:∀e vs H Q E,sp e vs H Q E->vs.length=ps.length)
  (hbody:∀(cdv:Value) (A:Around) (e:Addr) (outer:List Env) (s:Shared) (H:Hp) (vs:List V) (Q:VK) (E:XK),RoomH k (A.deeper (envOfC qual (Qm st) s.heap.objs.size f cdv)) e->sp e vs H Q E ->
   ∃t,PSs (ib P w K mg base N qual (Qm st) f cdv A outer s H) (QN st) t/\t { nx:=λ_ H'=>Q .non H',rt:=Q } (start N vs) H):FnOkH P w K mg base (k+1) f fd ps sp:=by
 obtain⟨oc,od,kV,doc,pm,an,cdv,ct,a8,rfl,lk,a5⟩:=F.ex;refine⟨len,λA e outer s H a7 us vs Q E hr e0 hb r a4=>?_⟩;have hl:=len _ _ _ _ _ a4;have KX:K.In s.heap:=e0.mod.kin.keeps λb o e=>(e0.bs b o e).1
 have a6:s.heap.NoLimit:=e0.mod.nolimit.keeps λb o e=>(e0.bs b o e).1
 have U:∀y∈ps.zip us,(Qm st).names.lookup y.1=some .local∨((Qm st).names.lookup y.1=some .cell/\((cellsFrom (s.heap.objs.size+1) (Qm st).names []).lookup y.1).isSome=true):=λ⟨n,v⟩ hy=>by
  rcases S.par n (List.of_mem_zip hy).1 with q|q
  ·exact .inl q
  ·exact .inr ⟨q,W.cellsFrom_some _ _ _ (.inl q)⟩
 refine codeAny_call_function hr.depth (KX _ _ lk) rfl S.co S.gen rfl (W.codeRec_of KX a5) (hb _ _ _ _ ?_);refine wpAny_newFunctionEnv_cells S.kind U λenv he s1 x=>?_
 subst he;refine⟨a6.keeps x.toInCall.keep,codeAny_func ?_⟩;obtain⟨t,ht,hq⟩:=hbody cdv A e outer s H vs Q E (hr.deeper _) a4;have I:Inv (ib P w K mg base N qual (Qm st) f cdv A outer s H) [] (start N vs) H s1:=Jq S e0 hl r x;refine Cf (ht [] s1 (start N vs) H _ I hq) (λfl s' hs=>?_) λe s' hs=>AS hs
 have fin:∀{σ':St} {H':Hp} {v:V} {u:Value},Inv (ib P w K mg base N qual (Qm st) f cdv A outer s H) [] σ' H' s'->RelV v u->Q v H'->CE outer P w H s Q u s':=
  λ{σ' H' v u} J rv q=>⟨v,H',J.os,J.bare,J.base,J.hok,rv,q⟩
 cases fl with
 | ret u=>
  obtain⟨v,σ',H',J,rv,q⟩:=hs;exact fin J rv q
 | next=>
  obtain⟨σ',H',J,q⟩:=hs;exact fin (v:=V.non) (u:=Value.none) J rfl q
 | brk=>
  obtain⟨_,_,_,q⟩:=hs;exact AS q
 | cont=>
  obtain⟨_,_,_,q⟩:=hs;exact AS q
end
structure HQ (P:Program)(w:World)(K:W.Frag)(mg:Str->Option Value)(base:Heap)(k:Nat)(name:Str)(ps:List Str)(sp:Addr->Sp):Prop where
 ex:∃(f:Addr) (fd:FuncData),FnOkH P w K mg base k f fd ps sp/\Binds K fd ps []/\W.keepIn K (.ref f)=true/\mg name=some (.ref f)
section
variable {X:Cx} {k:Nat} {name:Str} {ps:List Str} {sp:Addr->Sp} {ea:Addr} {p pos:Pos} {e:Expr} {es:List Expr} {t:TA}
theorem RD (C:HQ X.prog X.w X.K X.mg X.base k name ps sp)(hr:RoomH k X.A ea)(hg:Gl X name)(ha:PA X (e::es) t)(hdb:(name==("__debug__":Str))=false:=by decide)
  (he:starEach (e::es) X.env=(false,eval e X.env)::starEach es X.env:=by rfl) (hpl:(backTo pos (starEach es X.env)).any (·.1)=false:=by rfl) :
  PE X (.Call (.Name name p) (e::es) [] pos) (Kb (sp ea) [] E0 t):=by
 obtain ⟨f,fd,F,hb,hk,hm⟩:=C.ex;intro pins s σ H Q I h;refine Ae (Zo I hg hm ?_ hdb);refine W.callWith_K (h₀:=X.base) I.ok.mod.kin hk (A4 (ha pos pins s σ H _ I h) fun us s1 ⟨vs,H1,U,r,q⟩=>⟨U.kIn,?_⟩) he hpl;have r2:Vals (vs++[]) (us++[]):=r.append .nil;have hl:(us++[]).length=ps.length:=by rw [<-r2.length];exact F.len _ _ _ _ _ q
 refine wpAny_call (C5 (F.run X.A ea X.stack s1 H1 ⟨us,[]⟩ (us++[]) (vs++[]) Q E0 hr U.env0 (hb s1 us U.kIn hl) r2 q) λr s' J=>?_);cases r with
 | error e=>exact AS J
 | ok fl=>
  cases fl with
  | ret u=>exact U.after J
  | next=>exact AS J
  | brk=>exact AS J
  | cont=>exact AS J
end
structure Cj {α:Type}(t:Sem α):Prop where
 out:∀(M:Model) (Γ:PySem.Ctx) (Q1 Q2:α->Pos->Shared->Prop) (E1 E2:Value->Pos->Shared->Prop) (p:Pos) (s:Shared),Sem.wp M Γ t Q1 E1 p s->Sem.wp M Γ t Q2 E2 p s ->
  Sem.wp M Γ t (λa p s=>Q1 a p s/\Q2 a p s) (λe p s=>E1 e p s/\E2 e p s) p s
section
variable {α β:Type}
theorem QS {a}:Cj (pure a:Sem α):=⟨λ_ _ _ _ _ _ _ _ h1 h2=>⟨h1,h2⟩⟩
theorem Xo:Cj (unsupported x:Sem α):=⟨λ_ _ _ _ _ _ _ _ h1 _=>h1.elim⟩
theorem QG {m:Sem α}{f:α->Sem β}(h:Cj m)(hf:∀a,Cj (f a)):Cj (m >>= f):=⟨λM Γ Q1 Q2 E1 E2 p s h1 h2=>by
 have e:=λQ E=>Sem.wp_bind M Γ m f Q E p s
 have J:=(e Q1 E1).mp h1;have U:=(e Q2 E2).mp h2;exact(e _ _).mpr (Sem.wp_mono M Γ m (λa p' s' ⟨z1,z2⟩=>(hf a).out M Γ Q1 Q2 E1 E2 p' s' z1 z2) (λ_ _ _ z=>z) p s (h.out M Γ _ _ _ _ p s J U))⟩
theorem Vz:Cj (load a):=⟨λ_ _ _ _ _ _ _ _ ⟨o,e,h1⟩ ⟨o',e',h2⟩=>by
 rw[e] at e';cases e';exact⟨o,e,h1,h2⟩⟩
theorem Ky {f}:Cj (update a f):=⟨λ_ _ _ _ _ _ _ _ ⟨e,h1⟩ ⟨_,h2⟩=>⟨e,h1,h2⟩⟩
theorem Us:Cj (alloc o):=⟨λ_ _ _ _ _ _ _ _ h1 h2=>⟨h1,h2⟩⟩
theorem JB:Cj stack:=⟨λ_ _ _ _ _ _ _ _ h1 h2=>⟨h1,h2⟩⟩
end
theorem Cj.any (h:Cj t){A:Around}{Q1 Q2:α->Shared->Prop}{E1 E2:Value->Shared->Prop}{s:Shared}(h1:wpAny M A t Q1 E1 s)(h2:wpAny M A t Q2 E2 s):wpAny M A t (λa s=>Q1 a s/\Q2 a s) (λe s=>E1 e s/\E2 e s) s:=
 λΓ p hΓ=>h.out M Γ _ _ _ _ p s (h1 Γ p hΓ) (h2 Γ p hΓ)
theorem Ur {v}:Cj (fieldsOf v):=by
 unfold fieldsOf;split
 ·refine QG Vz λo=>?_
  split
  ·exact QS
  ·exact Xo
 ·exact Xo
theorem Y4 {v}:Cj (field v i):=by
 unfold field;refine QG Ur λvs=>?_
 split
 ·exact QS
 ·exact Xo
theorem JA {v}:Cj (updateField a i v):=by
 unfold updateField;refine QG Vz λo=>?_
 split
 ·split
  ·exact Ky
  ·exact Xo
 ·exact Xo
theorem X9 {v x}:Cj (setField v i x):=by
 unfold setField;split
 ·exact JA
 ·exact Xo
theorem cj_setFlight {e}{f}:Cj (setFlight e f):=by
 unfold setFlight;refine QG Y4 λtb=>?_
 split
 ·exact X9
 ·exact QS
theorem Mf {l}:Cj (behindIsImport env l):=by
 unfold behindIsImport;split
 ·exact QS
 ·split
  ·exact QS
  ·exact QG Y4 λ_=>QS
theorem Bl:Cj underTheClaimsCaller:=by
 unfold underTheClaimsCaller;exact QG JB λ_=>QS
theorem Pq {b}{l}:Cj (keptBack env b l):=by
 unfold keptBack;split
 ·split
  ·exact QS
  ·exact QG Bl λ_=>QS
 ·exact QS
theorem Uq:∀{l},Cj (readyFrames l)
 | []=>QS
 | env::outer=>by
  have J:=Uq (l:=outer);unfold readyFrames;split
  ·refine QG Vz λo=>?_
   split
   ·exact QS
   ·exact QG Mf λ_=>QG Pq λ_=>QG Ky λ_=>J
  ·exact Xo
theorem Gy:Cj (PySem.frameOf env):=by
 unfold PySem.frameOf frameEnvs;refine QG (QG JB λ_=>QS) λl=>?_
 refine QG ?_ λr=>?_
 ·unfold frameObject;split
  ·exact QS
  ·exact QG Uq λ_=>QS
 ·split
  ·exact QS
  ·exact Xo
theorem Bm {b}:Cj (entryPlaceOf f b):=by
 unfold entryPlaceOf;refine QG JB λacts=>?_
 split<;>exact QS
theorem Vy {ty}{l}:Cj (newFields ty l):=by
 unfold newFields newObj newObjAsIs;dsimp only;split
 ·exact QG Xo λ_=>QG Us λ_=>QS
 ·exact QG Us λ_=>QS
theorem Bo {a b c d e}{l}:Cj (EntryCells.newEntry a b c d e l):=Vy
theorem cj_noteFrame {e}:Cj (noteFrame e env):=by
 unfold noteFrame;split
 ·refine QG Y4 λJ=>?_
  have rest:∀{b:Bool} {f:Addr},Cj (do
    let a <-PySem.frameOf env
    let pl <-entryPlaceOf f b
    let x <-EntryCells.newEntry J a Value.none (rawInt ↑f) Value.none pl
    setField e 1 x):=λ{b f}=>QG Gy λ_=>QG Bm λ_=>QG Bo λ_=>X9
  dsimp only;split
  ·refine QG Y4 λfl=>?_
   split
   ·exact QS
   ·exact QG X9 λ_=>rest
  ·exact rest
 ·exact Xo
theorem cj_leaving {e}:Cj (leaving env e):=QG cj_noteFrame λ_=>cj_setFlight
def F2 (e:Addr)(h:Heap):Prop:=∃o vs,h.get? e=some o/\o.data=.fields vs/\vs[2]?=some .none
def F3 (e:Addr)(h:Heap):Prop:=∃o vs T oT ts,h.get? e=some o/\o.data=.fields vs/\vs[2]?=some .none/\vs[1]?=some (.ref T)/\T≠e/\h.get? T=some oT/\oT.data=.fields ts/\3<ts.size
theorem F3.f2 (x:F3 e h):F2 e h:=by
 obtain⟨o,vs,_,_,_,h1,h2,h3,_⟩:=x;exact⟨o,vs,h1,h2,h3⟩
theorem Gc {o}{vs}{f}(h:o.data=.fields vs):(Obj.mapFields f o).data=.fields (f vs)/\(Obj.mapFields f o).isFreed=false:=by
 obtain⟨c,d,J,sl⟩:=o;cases h;exact⟨rfl,rfl⟩
section
variable {M:Model} {A:Around} {E:Value->Shared->Prop} {s:Shared} {e:Addr} {Q:Unit->Shared->Prop}
theorem XC {fr}(x:F3 e s.heap)(q:∀h',F3 e h'->Q () { s with heap:=h' }):wpAny M A (setFlight (.ref e) fr) Q E s:=by
 obtain⟨o,vs,T,oT,ts,h1,h2,h3,h4,h5,U,h7,h8⟩:=x;unfold setFlight;refine DX (wpAny_field h1 h2 h4 ?_);rw[DZ (by rfl)];refine wpAny_setField U h7 h8 (q _ ?_);obtain⟨m1,m2⟩:=Gc (f:=λJ=>J.setIfInBounds 3 (fr.elim Value.none λf=>rawInt ↑f)) h7;refine⟨o,vs,T,_,_,?_,h2,h3,h4,h5,Ab _ U m2,m1,by simpa using h8⟩;exact CW _ h5 h1
theorem Nq {hd}{b}(hf:A.frames=some (env::outer))(ff:s.heap.FunFrames base (env::outer))(hL:env.frame=some L){o}{vs}(h1:s.heap.get? e=some o)(h2:o.data=.fields vs)(h3:vs[2]?=some .none)
  (q:∀h',F3 e h'->Q () { s with heap:=h' }):wpAny M A (do
    let a <-PySem.frameOf env
    let pl <-entryPlaceOf L b
    let x <-EntryCells.newEntry hd a Value.none (rawInt ↑L) Value.none pl
    setField (.ref e) 1 x) Q E s:=by
 refine DX (wpAny_frameOf_fun hf ff hL λh' so=>?_);obtain⟨sl,k1⟩:=so.2.2 e o h1;refine DX (wpAny_entryPlaceOf λpl hp=>DX ?_);unfold EntryCells.newEntry newFields;refine wpAny_newObj_type ?_ ?_
 ·have k2:∀ob:Obj,(h'.push ob).get? e=some { cls:=o.cls,dict:=o.dict,data:=o.data,slots:=sl }:=λob=>D8 _ k1
  have J:1<vs.size:=by
   have:=(Array.getElem?_eq_some_iff.mp h3).1;omega
  refine wpAny_setField (k2 _) h2 J (q _ ?_);obtain⟨m1,m2⟩:=Gc (o:={ cls:=o.cls,dict:=o.dict,data:=o.data,slots:=sl }) (f:=λU=>U.setIfInBounds 1 (Value.ref h'.objs.size)) h2;have ne:h'.objs.size≠e:=λz=>absurd (D5 k1) (by rw[z];exact CB _)
  refine⟨_,_,h'.objs.size,_,_,Ab _ (k2 _) m2,m1,?_,?_,ne,CW _ ne.symm (Cz _ rfl),rfl,?_⟩
  ·rw[Array.getElem?_setIfInBounds_ne (by decide)];exact h3
  ·rw[Array.getElem?_setIfInBounds_self_of_lt J]
  ·rw[CA,D0];show 3<5+_;omega
 ·show([hd,Value.ref L,Value.none,rawInt ↑L,Value.none]++_).toArray.size<=sizeLine+2;rcases hp with rfl|⟨_,_,_,_,_,_,_,rfl⟩
  ·show 11<=sizeLine+2
   decide
  ·show 11<=sizeLine+2
   decide
theorem L8 (hf:A.frames=some (env::outer))(ff:s.heap.FunFrames base (env::outer))(hL:env.frame=some L){o}{vs}(h1:s.heap.get? e=some o)(h2:o.data=.fields vs)(h3:vs[2]?=some .none)(h4:vs[1]?=some .none)
  (q:∀h',F3 e h'->Q () { s with heap:=h' }):wpAny M A (noteFrame (.ref e) env) Q E s:=by
 unfold noteFrame;rw[hL];refine DX (wpAny_field h1 h2 h4 ?_);exact Nq hf ff hL h1 h2 h3 q
theorem Vr (hf:A.frames=some (env::outer))(ff:s.heap.FunFrames base (env::outer))(hL:env.frame=some L)(x:F3 e s.heap)
  (q:∀h',F3 e h'->Q () { s with heap:=h' }):wpAny M A (noteFrame (.ref e) env) Q E s:=by
 obtain⟨o,vs,T,oT,ts,h1,h2,h3,h4,h5,U,h7,h8⟩:=id x;unfold noteFrame;rw[hL];refine DX (wpAny_field h1 h2 h4 ?_);dsimp only;rw[DZ (by rfl)];refine DX (wpAny_field U h7 (Array.getElem?_eq_getElem h8) ?_);split
 ·exact D3 (q _ x)
 ·refine DX (wpAny_setField U h7 h8 ?_);have k1:(s.heap.update T (Obj.mapFields λJ=>J.setIfInBounds 3 Value.none)).get? e=some o:=CW _ h5 h1;refine Nq (s:={ s with heap:=s.heap.update T (Obj.mapFields λJ=>J.setIfInBounds 3 Value.none) }) hf (Heap.FunFrames.of_keeps (λb ob hb nf=>?_) ff) hL k1 h2 h3 q;have ne:T≠b:=λz=>by
   subst z;rw[U] at hb;cases hb;exact nf _ h7
  exact⟨ob,CW _ ne hb,rfl⟩
end
section
variable {X:Cx} {pins:List (Addr×Obj)} {σ:St} {H:Hp} {s:Shared} {h':Heap}
theorem Gh {vs}{Q}(I:Inv X pins σ H s)(ow:QK X)(hx:Heap.MadeExcOf s.heap h' e cls vs)
  (q:∀U,Inv X pins σ H { s with heap:=U }->Air X pins H U cls e->F3 e U->Q () { s with heap:=U }):wpAny M X.A (leaving X.env (.ref e)) Q E { s with heap:=h' }:=by
 have I1:Inv X pins σ H { s with heap:=h' }:=I.kept (t':=s.toks) hx.keeps;obtain⟨t,he,_,_⟩:=hx.there;have fs:=QT (ex:=[e]) I1;have fr:=I1.ok.frames;rw[ow.2.1] at fs fr;have w1:=NY (M:=M) (E:=λ_ _=>False) (Q:=λ_ s'=>∃U,s'={ s with heap:=U }/\Inv X pins σ H { s with heap:=U }/\Air X pins H U cls e) I ow hx λU J a=>⟨U,rfl,J,a⟩
 have w2:wpAny M X.A (leaving X.env (.ref e)) (λ_ s'=>F3 e s'.heap) (λ_ _=>False) { s with heap:=h' }:=
  DX (L8 fr fs ow.2.2 he rfl rfl rfl λh2 x=>XC (s:={ s with heap:=h2 }) x λh3 y=>y)
 refine Cf (cj_leaving.any w1 w2) (λ_ s' ⟨⟨U,e1,J,a⟩,f⟩=>?_) λ_ _ z=>z.1.elim
 subst e1;exact q U J a f
theorem NW {Q}(I:Inv X pins σ H s)(ow:QK X)(a:Air X pins H s.heap cls e)(x:F3 e s.heap)
  (q:∀U,Inv X pins σ H { s with heap:=U }->Air X pins H U cls e->F3 e U->Q () { s with heap:=U }):wpAny M X.A (leaving X.env (.ref e)) Q E s:=by
 have fs:=QT (ex:=[]) I;have fr:=I.ok.frames;rw[ow.2.1] at fs fr;have w1:=Ub (M:=M) (E:=λ_ _=>False) (Q:=λ_ s'=>∃U,s'={ s with heap:=U }/\Inv X pins σ H { s with heap:=U }/\Air X pins H U cls e) I ow a λU J a=>⟨U,rfl,J,a⟩
 have w2:wpAny M X.A (leaving X.env (.ref e)) (λ_ s'=>F3 e s'.heap) (λ_ _=>False) s:=
  DX (Vr fr fs ow.2.2 x λh2 x=>XC (s:={ s with heap:=h2 }) x λh3 y=>y)
 refine Cf (cj_leaving.any w1 w2) (λ_ s' ⟨⟨U,e1,J,a⟩,f⟩=>?_) λ_ _ z=>z.1.elim
 subst e1;exact q U J a f
end
def CXn (P:Program)(w:World):CXT:=λouter H s E e s'=>
 ∃ea cls H',e=.ref ea/\s'.os=s.os/\AllBare s'.gens/\Un (IA outer) [] H H' s.heap s'.heap/\HOk P w H' s'.heap/\BI H' s'.heap s.heap cls ea/\F3 ea s'.heap/\E cls none H'
section
variable {X:Cx} {pins:List (Addr×Obj)} {σ:St} {H:Hp} {s s':Shared} {E:XK} {e:Value}
theorem CXn.here (I:Inv X pins σ H s)(hx:X.ex=[])(c:CXn X.prog X.w X.stack H s E e s'):∃ea cls H',e=.ref ea/\Inv X pins σ H' s'/\Air X pins H' s'.heap cls ea/\F3 ea s'.heap/\E cls none H':=by
 obtain⟨ea,cls,H',h1,h2,h3,h4,h5,h6,f,q⟩:=c;have J:CXr X.prog X.w X.stack H s (λJ n' H2=>J=cls/\H2=H'/\e=.ref ea) e s':=⟨ea,cls,H',h1,h2,h3,h4,h5,h6,rfl,rfl,h1⟩
 obtain⟨a4,U,H2,e1,I2,a,rfl,rfl,e2⟩:=CXr.here I hx J;rw[e1] at e2;cases e2;exact⟨_,_,_,e1,I2,a,f,q⟩
end
section
variable {P:Program} {w:World} {K:W.Frag} {mg:Str->Option Value} {base:Heap} {N:List Str} {qual:Str} {sc:Scope} {f:Addr} {cd:Value} {A:Around} {outer:List Env} {s0:Shared} {H0:Hp} {E:XK}
theorem Gw (I:Inv (Xi (CXn P w) P w K mg base N qual sc f cd A outer s0 H0 E) pins σ H s)(a:Air (Xi (CXn P w) P w K mg base N qual sc f cd A outer s0 H0 E) pins H s.heap cls e)(x:F3 e s.heap)(q:E cls none H):CXn P w outer H0 s0 E (.ref e) s:=by
 obtain⟨oe,vs,T,oT,ts,a0,h1,h2,h3,h4,U,h7,h8,h9,l1,J⟩:=a;exact⟨e,cls,H,rfl,I.os,I.bare,I.base,I.hok,⟨oe,vs,T,oT,ts,a0,h1,h2,h3,h4,U,h7,h8,h9,⟨l1.1,l1.2.1⟩,⟨J.1,J.2.1⟩⟩,x,q⟩
theorem X4 (hE:∀cls H,E' cls none H->E cls none H):ZI (CXn P w) (Xi (CXn P w) P w K mg base N qual sc f cd A outer s0 H0 E) E':=by
 intro pins σ H s e s' I c;obtain⟨ea,cls,H',rfl,I',a,x,q⟩:=CXn.here I rfl c;exact NW I' Wh a x λU I2 a2 J=>Gw I2 a2 J (hE _ _ q)
theorem XI:BE (Xi (CXn P w) P w K mg base N qual sc f cd A outer s0 H0 E) E:=λ_ _ _ _ _ _ _ _ I hx q=>Gh I Wh hx λ_ I2 a2 x2=>Gw I2 a2 x2 q
end
structure WI (P:Program)(w:World)(K:W.Frag)(mg:Str->Option Value)(base:Heap)(k:Nat)(name:Str)(ps:List Str)(sp:Sp):Prop where
 ex:∃(f:Addr) (fd:FuncData),FnOk P w K mg base (CXn P w) k f fd ps sp/\Binds K fd ps []/\W.keepIn K (.ref f)=true/\mg name=some (.ref f)
def nP (X:Cx)(pins:List (Addr×Obj))(σ:St)(E:XK)(ev:Value)(s':Shared):Prop:=∃ea cls H',ev=.ref ea/\Inv X pins σ H' s'/\Air X pins H' s'.heap cls ea/\F3 ea s'.heap/\E cls none H'
def PN (X:Cx)(e:Expr)(t:TX):Prop:=
 ∀(pins:List (Addr×Obj)) (s:Shared) (σ:St) (H:Hp) (Q:VK) (E:XK),Inv X pins σ H s->t σ H Q E->wpAny (model X.prog X.w) X.A (eval e X.env) (EP X pins σ Q) (nP X pins σ E) s
def nV (X:Cx)(sts:List Stmt)(t:QO->XK->St->Hp->Prop):Prop:=
 ∀(pins:List (Addr×Obj)) (s:Shared) (σ:St) (H:Hp) (D:QO) (E:XK),Inv X pins σ H s->t D E σ H->wpAny (model X.prog X.w) X.A (execs sts X.env) (SP X pins D) (nP X pins σ E) s
section
variable {X:Cx} {k:Nat} {f:Addr} {fd:FuncData} {ps:List Str} {sp:Sp} {x name:Str} {p pos:Pos} {e:Expr} {es:List Expr} {t:TA} {E:XK}
theorem Zn (C:WI X.prog X.w X.K X.mg X.base k name ps sp)(hr:Room k X.A)(hg:Gl X name)(hx:ZI (CXn X.prog X.w) X E)(ha:PA X (e::es) t)(hdb:(name==("__debug__":Str))=false:=by decide)
  (he:starEach (e::es) X.env=(false,eval e X.env)::starEach es X.env:=by rfl) (hpl:(backTo pos (starEach es X.env)).any (·.1)=false:=by rfl) :
  PE X (.Call (.Name name p) (e::es) [] pos) (Kb sp [] E t):=by
 obtain⟨f,fd,F,b,kp,m⟩:=C.ex;exact G7 F hr hg m kp b .nil hx ha hdb he hpl
theorem Rh (C:WI X.prog X.w X.K X.mg X.base k name ps sp)(hr:Room k X.A)(hx0:X.ex=[])(hg:Gl X name)(ha:PA X.nox (e::es) t)
  (hdb:(name==("__debug__":Str))=false:=by decide) (he:starEach (e::es) X.env=(false,eval e X.env)::starEach es X.env:=by rfl) (hpl:(backTo pos (starEach es X.env)).any (·.1)=false:=by rfl) :
  PN X (.Call (.Name name p) (e::es) [] pos) (Yz sp t):=by
 obtain⟨f,fd,F,hb,hk,hm⟩:=C.ex;intro pins s σ H Q E I h;refine Ae (Zo I hg hm ?_ hdb);refine W.callWith_K (h₀:=X.base) I.ok.mod.kin hk (Cf (ha pos pins s σ H _ (I.wish _) h) (λus s1 ⟨vs,H1,J,r,q⟩=>⟨J.kIn,?_⟩) λ_ _ z=>AS z) he hpl;have J:=J.unwish;have hl:(us++[]).length=ps.length:=by rw[Cs,<-r.length];exact F.len _ _ _ _ q
 have a4:=hb s1 us J.kIn hl;rw[Cs] at a4;refine wpAny_call (C5 (F.run X.A X.stack s1 H1 ⟨us,[]⟩ us vs Q E hr J.env0 a4 r q) λr s' U=>?_);cases r with
 | error e=>exact CXn.here J hx0 U
 | ok fl=>
  cases fl with
  | ret u=>exact J.after U
  | next=>exact AS U
  | brk=>exact AS U
  | cont=>exact AS U
variable {tx:TX}
theorem Rj (hN:X.N.Nodup)(hi:X.N[i]?=some y)(hx:ic X.env.scope y)(he:PN X e tx)(hs:swapsWith e (some (.Name y pos')) pos.line X.env=pure false:=by rfl)(hf:X.fn y=true∨X.env.scope.names.lookup y=some .local:=by first|exact .inl rfl|exact .inr rfl|assumption) :
  nV X [.Assign [.Name y pos'] e pos] (lM i tx):=by
 intro pins s σ H D E I h;refine wpAny_execs_cons (wpAny_Assign_Name (A4 (he pins s σ H _ E I h) λv s1 ⟨x,H1,I1,r1,J⟩=>?_) hs);exact Xa I1 hN hi hx r1 (λs2 U=>Al ⟨_,H1,U,J⟩) hf
end
section
variable {P:Program} {w:World} {K:W.Frag} {mg:Str->Option Value} {base:Heap}
theorem Fun.okN {x}{N}{k:Nat}{sp}(F:Fun K x qual st f fd)(S:QW N ps (Qm st))(len:∀vs H Q E,sp vs H Q E->vs.length=ps.length)
  (hbody:∀(cdv:Value) (A:Around) (outer:List Env) (s:Shared) (H:Hp) (vs:List V) (Q:VK) (E:XK),Room k (A.deeper (envOfC qual (Qm st) s.heap.objs.size f cdv))->sp vs H Q E ->
   ∃t,PSs (Xi (CXn P w) P w K mg base N qual (Qm st) f cdv A outer s H E) (QN st) t/\t { nx:=λ_ H'=>Q .non H',rt:=Q } (start N vs) H):FnOk P w K mg base (CXn P w) (k+1) f fd ps sp:=by
 obtain⟨oc,od,kV,doc,pm,an,cdv,ct,a4,rfl,lk,U⟩:=F.ex;exact Nj lk U S len λA outer s H vs Q E hr J=>hbody cdv A outer s H vs Q E hr J
end
end L2
namespace L2
open Spec PyProof.Rows W Builtin Builtin.ObjectAttr Builtin.Getset_descriptor
def Yb (e:Addr)(cls:Value)(h:Heap):Prop:=∃o vs,h.get? e=some o/\o.cls=cls/\o.data=.fields vs/\vs[2]?=some .none
section
variable {X:Cx} {body suite:List Stmt} {b₀:Stmt} {x n:Str} {C:Addr} {np hp pos:Pos} {tb:QO->XK->St->Hp->Prop} {ts:Addr->TS}
theorem Pt {name}{Q}(I:Inv X pins σ H s)(ow:QK X)(hg:Gl X x)(hm:X.mg x=some (.ref C))(a:Air X pins H s.heap cls ea)(f3:F3 ea s.heap)(hmatch:W.exmOne X.K cls (.ref C)=some true)
  (h:∀h6,Inv X pins σ H { s with heap:=h6 }->Air X pins H h6 cls ea->F3 ea h6->codeAny (model X.prog X.w) (X.A.mark (some (.ref ea))) (.handlers (.ref ea) [.ExceptHandler none name (b₀::suite) hp] X.env) (λr s₂=>match r with
     | .ok f=>(match name with
      | none=>Q f s₂
      | some n=>wpAny (model X.prog X.w) X.A (do bindName X.env n .none;unbindBehindTheSuite X.env n hp) (λ_ s₃=>Q f s₃) X.xe s₂)
     | .error x=>cameBackBy (model X.prog X.w) X.A X.env X.xe x s₂) { s with heap:=h6 }) (hd:(x==("__debug__":Str))=false:=by decide) :
  wpAny (model X.prog X.w) X.A (noteFrame (.ref ea) X.env) (λ_ s₂=>wpAny (model X.prog X.w) X.A (setFlight (.ref ea) none) (λ_ s₃=>wpAny (model X.prog X.w) X.A (handleBy (.ref ea) X.env [.ExceptHandler (some (.Name x np)) name (b₀::suite) hp]) Q X.xe s₃) X.xe s₂) X.xe s:=by
 obtain⟨T,a0,a9,a8,tr⟩:=a.two;have fs:=QT (ex:=[ea,T]) I;have fr:=I.ok.frames;rw[ow.2.1] at fs fr;have w1:=wpAny_looks_onW (M:=model X.prog X.w) (A:=X.A) (E:=λ_ _=>False) (s:=s) (base:=ZZ X s.heap [ea,T]) (Q:=λ_ s'=>∃h4,s'={ s with heap:=h4 }/\(ZZ X s.heap [ea,T]).HeldW (X.env::X.outer) ea cls a0 X.env.locals h4/\s.heap.UpToSlots h4) fr ow.2.2 ⟨Zv,Xg (by simp),fs,tr⟩ λh4 a6 a7=>⟨h4,rfl,a6,a7⟩
 have w2:wpAny (model X.prog X.w) X.A (noteFrame (.ref ea) X.env) (λ_ s'=>F3 ea s'.heap) (λ_ _=>False) s:=Vr fr fs ow.2.2 f3 λh2 x=>x
 refine Cf (cj_noteFrame.any w1 w2) (λ_ s' ⟨⟨h4,e4,a6,a7⟩,f4⟩=>?_) λ_ _ z=>z.1.elim
 subst e4;have v1:=wpAny_landsW (M:=model X.prog X.w) (A:=X.A) (E:=λ_ _=>False) (s:={ s with heap:=h4 }) (base:=ZZ X s.heap [ea,T]) (Q:=λ_ s'=>∃U,s'={ s with heap:=U }/\(ZZ X s.heap [ea,T]).FlyingW (X.env::X.outer) ea cls a0 U/\h4.UpToSlots U) a6 λU J a4=>⟨U,rfl,J,a4⟩
 have v2:wpAny (model X.prog X.w) X.A (setFlight (.ref ea) none) (λ_ s'=>F3 ea s'.heap) (λ_ _=>False) { s with heap:=h4 }:=XC (s:={ s with heap:=h4 }) f4 λh2 x=>x
 refine Cf (cj_setFlight.any v1 v2) (λ_ s' ⟨⟨U,e5,J,a4⟩,f5⟩=>?_) λ_ _ z=>z.1.elim
 subst e5;have I5:Inv X pins σ H { s with heap:=U }:=ZX I a9 a8 J.1 (a7.trans a4);have l5:=J.2.2.1;rw [<-ow.2.1] at l5;have a5:Air X pins H U cls ea:=Yo I ow.1 a9 (by simp) l5 J.2.2.2;refine wpAny_handleBy_cons (codeAny_handlers_test (Zo (X:=X.hand ea) (I5.hand ea) hg hm ?_ hd)) (by intro q;cases q);obtain ⟨oe,vs,T5,oT,aa,ae,e1,e2,_⟩:=id a5;have LT:W.Looks (model X.prog X.w) U (typeOf (.ref ea)) cls:=e2.1 ▸ (W.Looks.ld e1).andThen .now;exact W.exm_one I5.kIn LT hmatch _ _ _ _ (fun _ _ z=>z) (h U I5 a5 f5)
theorem Vl {Q}(I:Inv X pins σ H s)(ow:QK X)(a:Air X pins H s.heap cls ea)(f3:F3 ea s.heap)
  (q:∀h',Inv X pins σ H { s with heap:=h' }->Air X pins H h' cls ea->F3 ea h'->Q () { s with heap:=h' }):wpAny M A (setFlight (.ref ea) none) Q E s:=by
 have w1:=Wy (M:=M) (A:=A) (E:=λ_ _=>False) (Q:=λ_ s'=>∃h',s'={ s with heap:=h' }/\Inv X pins σ H { s with heap:=h' }/\Air X pins H h' cls ea) I ow a λh' J b=>⟨h',rfl,J,b⟩
 have w2:wpAny M A (setFlight (.ref ea) none) (λ_ s'=>F3 ea s'.heap) (λ_ _=>False) s:=XC f3 λh2 x=>x
 refine Cf (cj_setFlight.any w1 w2) (λ_ s' ⟨⟨U,e5,J,b⟩,f5⟩=>?_) λ_ _ z=>z.1.elim
 subst e5;exact q U J b f5
end
end L2
namespace L2
open Spec PyProof.Rows W Builtin
section
variable {prog:Program} {w:World} {A:Around} {E:Value->Shared->Prop} {s:Shared} {e it l:Addr} {i:Nat} {items:Array Value}
theorem Xn:entryFor table "proto.unchain"=some Builtin.«proto.unchain»:=by kernel_rfl
theorem Wf {o}{us}{Q}(hh:A.handled=some (.ref e))(f2:F2 e s.heap)(ha:s.heap.get? a=some o)(hd:o.data=.fields us)(h2:2<us.size)(hne:e≠a)
  (hE:E (.ref a) { s with heap:=s.heap.update a (Obj.mapFields λJ=>J.setIfInBounds 2 (.ref e)) }):wpAny (model prog w) A (raiseNew (.ref a):Sem α) Q E s:=by
 obtain⟨U,vs,k1,k2,k3⟩:=f2;unfold raiseNew;refine DX (wpAny_handled ?_);rw[hh];dsimp only;rw[DZ (by rw[bne_iff_ne];intro z;cases z;exact hne rfl)];refine DX (wpAny_holding (wpAny_runValue (codeAny_builtin Xn ?_)));unfold Builtin.«proto.unchain»;dsimp only;refine DX (wpAny_field k1 k2 k3 ?_);rw[DZ (by rfl)];refine D3 ?_;refine DX ?_;show wpAny (model prog w) A (setField (.ref a) 2 (.ref e)) _ _ _;refine wpAny_setField ha hd h2 ?_;exact wpAny_throw hE
def F2c (e:Addr):Option Addr->Heap->Prop
 | none,h=>F2 e h
 | some c,h=>(∃o vs,h.get? e=some o/\o.data=.fields vs/\vs[2]?=some (.ref c))/\F2 c h
theorem F2c.at (x:F2c e co h)(k:∀b o,(b=e∨some b=co)->h.get? b=some o->h'.get? b=some o):F2c e co h':=by
 cases co with
 | none=>obtain⟨o,vs,k1,k2,k3⟩:=x;exact⟨o,vs,k _ _ (.inl rfl) k1,k2,k3⟩
 | some c=>
  obtain⟨⟨o,vs,k1,k2,k3⟩,o',J,U,y2,y3⟩:=x;exact⟨⟨o,vs,k _ _ (.inl rfl) k1,k2,k3⟩,o',J,k _ _ (.inr rfl) U,y2,y3⟩
theorem F2c.there (x:F2c e co h):∀b,(b=e∨some b=co)->∃o,h.get? b=some o:=λb J=>by
 cases co with
 | none=>obtain⟨o,vs,k1,_⟩:=x;rcases J with rfl|J;exact⟨o,k1⟩;cases J
 | some c=>
  obtain⟨⟨o,vs,k1,_⟩,o',a4,U,_⟩:=x;rcases J with rfl|J
  ·exact⟨o,k1⟩
  ·cases J;exact⟨o',U⟩
theorem U9 {o}{us}{Q}(hh:A.handled=some (.ref e))(f2:F2c e co s.heap)(ha:s.heap.get? a=some o)(hd:o.data=.fields us)(h2:2<us.size)(hne:∀b,(b=e∨some b=co)->b≠a)
  (hE:E (.ref a) { s with heap:=s.heap.update a (Obj.mapFields λU=>U.setIfInBounds 2 (.ref e)) }):wpAny (model prog w) A (raiseNew (.ref a):Sem α) Q E s:=by
 cases co with
 | none=>exact Wf hh f2 ha hd h2 (hne e (.inl rfl)) hE
 | some c=>
  obtain⟨⟨oe,vs,k1,k2,k3⟩,oc,vc,J,y2,y3⟩:=f2;have ce:c≠e:=λz=>by
   subst z;rw[k1] at J;cases J;rw[k2] at y2;cases y2;rw[k3] at y3;cases y3
  unfold raiseNew;refine DX (wpAny_handled ?_);rw[hh];dsimp only;rw[DZ (by rw[bne_iff_ne];intro z;cases z;exact hne _ (.inl rfl) rfl)];refine DX (wpAny_holding (wpAny_runValue (codeAny_builtin Xn ?_)));unfold Builtin.«proto.unchain»;dsimp only;refine DX (wpAny_field k1 k2 k3 ?_);rw[DY (by simp),DY (by rw[beq_iff_eq];intro z;exact hne c (.inr rfl) (Value.ref.inj z)),DY (by rw[beq_iff_eq];intro z;exact ce (Value.ref.inj z))];refine DX (D3 ?_);refine D3 ⟨Code.quiet_builtin _ (by decide +kernel),codeAny_builtin Xn ?_⟩;unfold Builtin.«proto.unchain»;dsimp only;refine DX (wpAny_field J y2 y3 ?_);rw[DZ (by rfl)];refine D3 ?_;refine DX ?_;show wpAny (model prog w) A (setField (.ref a) 2 (.ref e)) _ _ _;refine wpAny_setField ha hd h2 ?_;exact wpAny_throw hE
theorem RT {Q}(hh:A.handled=some (.ref e))(f2:F2c e co s.heap)(ne:∀b,(b=e∨some b=co)->b≠it)(hit:s.heap.IsListIter it l i)(hl:s.heap.IsList l items)(hx:items[i]?=none)
  (hE:∀(h':Heap) (x:Addr),Heap.ExtBut it s.heap h'->(∃o,h'.get? x=some o/\o.cls=Value.type "StopIteration")->E (.ref x) { s with heap:=h' }):wpAny (model prog w) A (callSpecial? (.ref it) "__next__") Q E s:=by
 obtain⟨o,ho,hc,hd⟩:=id hit;obtain⟨ol,a9,left,nl,a7⟩:=hl;refine wpAny_callSpecial?_slot hit.typeIs slot_listiter_next (wpAny_call_entry slot_listiter_next hit.typeIs entry_listiter_next ?_)
 change wpAny _ _ (field (.ref it) 0 >>= _) _ _ _
 refine DX (wpAny_field ho hd rfl ?_)
 change wpAny _ _ (field (.ref it) 1 >>= _) _ _ _
 refine DX (wpAny_field ho hd rfl ?_)
 change wpAny _ _ (seqItems? (.ref l) >>= _) _ _ _
 refine DX (wpAny_seqItems a9 a7 ?_);have ae:items[(i:Int).toNat]?=none:=hx;dsimp only[Int.toNat_natCast];rw[hx];dsimp only;refine DX (wpAny_rule (DX (wpAny_setField ho hd (by simp) ?_)));unfold SmallTypes.stopIteration newExc;refine DX (DX (wpAny_newObj_type (DX (wpAny_of_eq (Eq.refl (firstArgMember (Value.type "StopIteration") [])) (wpAny_newObj_type ?_)))));have e1:Heap.ExtBut it s.heap (s.heap.update it (Obj.mapFields λx=>x.setIfInBounds 0 Value.none)):=λb ob hb hg=>CW _ (CP hb) hg
 generalize s.heap.update it (Obj.mapFields λx=>x.setIfInBounds 0 Value.none)=h1 at *;have fe:F2c e co h1:=f2.at λb o hb g=>e1 b o (ne b hb) g
 dsimp only;generalize U:({ cls:=Value.type "StopIteration",data:=Data.fields _ }:Obj)=ob;have a5:ob.cls=Value.type "StopIteration":=by rw [<-U]
 obtain⟨us,J,hsz⟩:∃us,ob.data=.fields us/\2<us.size:=by
  rw [<-U];refine ⟨_,rfl,?_⟩;rw [Array.size_append];show 2<6+_;omega
 clear U;have k2:∀b o,h1.get? b=some o->(h1.push { cls:=Value.type "tuple",data:=Data.seq #[] }).get? b=some o:=λb o q=>D8 _ q
 generalize h1.push { cls:=Value.type "tuple",data:=Data.seq #[] }=h2 at *;have k3:∀b o,h2.get? b=some o->(h2.push ob).get? b=some o:=λb o q=>D8 _ q
 have a4:ob.isFreed=false:=by
  obtain⟨c,d,dt,sl⟩:=ob;cases J;rfl
 have kn:(h2.push ob).get? h2.objs.size=some ob:=Cz _ a4;have fresh:∀b o,h2.get? b=some o->h2.objs.size≠b:=λb o q z=>absurd (D5 q) (by rw[z];exact CB _)
 have a6:F2c e co (h2.push ob):=fe.at λb o _ g=>k3 _ _ (k2 _ _ g)
 have aa:∀b,(b=e∨some b=co)->b≠h2.objs.size:=λb hb=>by
  obtain⟨o,q1⟩:=fe.there b hb;exact(fresh _ _ (k2 _ _ q1)).symm
 refine U9 (s:={ s with heap:=h2.push ob }) hh a6 kn J hsz aa (hE _ _ (λb o hb hg=>?_) ?_)
 ·have q:=k2 _ _ (e1 b o hb hg);exact CW _ (fresh _ _ q) (k3 _ _ q)
 ·obtain⟨m1,m2⟩:=Gc (f:=λa8=>a8.setIfInBounds 2 (Value.ref e)) J;refine⟨_,Ab _ kn m2,?_⟩;obtain⟨c,d,dt,sl⟩:=ob;cases J;exact a5
theorem RS {Q}(hh:A.handled=some (.ref e))(f2:F2 e s.heap)(ne:e≠it)(hit:s.heap.IsListIter it l i)(hl:s.heap.IsList l items)(hx:items[i]?=none)
  (hE:∀(h':Heap) (x:Addr),Heap.ExtBut it s.heap h'->(∃o,h'.get? x=some o/\o.cls=Value.type "StopIteration")->E (.ref x) { s with heap:=h' }):wpAny (model prog w) A (callSpecial? (.ref it) "__next__") Q E s:=RT hh (show F2c e none s.heap from f2) (λb J=>by rcases J with rfl | J;exact ne;cases J) hit hl hx hE
theorem XH {Q}(hh:A.handled=some (.ref e))(f2:F2 e s.heap)(ne:e≠it)(hit:s.heap.IsListIter it l i)(hl:s.heap.IsList l items)(hx:items[i]?=none)
  (hQ:∀h':Heap,Heap.ExtBut it s.heap h'->Q none { s with heap:=h' }):wpAny (model prog w) A (pyNext (.ref it)) Q E s:=by
 unfold pyNext;refine DX (wpAny_attempt (RS hh f2 ne hit hl hx λh' x J ⟨o,k1,k2⟩=>?_));dsimp only;unfold isInstance;refine DX ?_
 repeat (first|(with_reducible refine wpAny_loadPart_at k1 ?_;rw[k2])|wp_step)
 refine wpAny_of_eq (show isSubtype (Value.type "StopIteration") (Value.type "StopIteration")=pure true by kernel_rfl) (D3 ?_);exact hQ _ J
end
def DW (K:W.Frag)(ea a:Addr):It:=
 ⟨(O2 K a).go,(O2 K a).yld,λi H=>(∃xs,A6 K H a xs/\xs.length<=i)/\∃cls,H ea=some (.ext (Yb ea cls))⟩
structure BD (P:Program)(w:World)(K:W.Frag)(ea:Addr)(tg:Expr)(J:It)(fp:List Addr)(it:Addr)(tn:Nat->Heap->Prop):Prop where
 mem:it∈fp
 obj:∀i h,tn i h->∀b∈fp,∃o,h.get? b=some o/\∀v,o.data≠.cell v
 keep:∀i h h',tn i h->(∀b∈fp,∀o,h.get? b=some o->h'.get? b=some o)->tn i h'
 item:∀(X:Cx),X.prog=P->X.w=w->X.K=K->X.A.handled=some (.ref ea)->∀(i:Nat) (pins:List (Addr×Obj)) (s:Shared) (σ:St) (H:Hp) (E:Value->Shared->Prop),Inv X pins σ H s->(∀b∈fp,XT X pins H b)->tn i s.heap->J.go i H ->
  wpAny (model P w) X.A (pyNext (.ref it)) (λr s1=>∃u,r=some u /\
   wpAny (model P w) X.A (letOwnedTupleGo tg (.ref it) u) (λ_ s2=>∃x H',Inv X pins σ H' s2/\RelV x u/\J.yld i H x H'/\tn (i+1) s2.heap/\∀b∈fp,H' b=none) E s1) E s
 done:∀(X:Cx),X.prog=P->X.w=w->X.K=K->X.A.handled=some (.ref ea)->∀(i:Nat) (pins:List (Addr×Obj)) (s:Shared) (σ:St) (H:Hp) (E:Value->Shared->Prop),Inv X pins σ H s->(∀b∈fp,XT X pins H b)->tn i s.heap->J.stop i H ->
  wpAny (model P w) X.A (pyNext (.ref it)) (λr s1=>r=none/\Inv X pins σ H s1) E s
 self:∀(A:Around) (i:Nat) (s:Shared) (Q:Value->Shared->Prop) (E:Value->Shared->Prop),tn i s.heap->Q (.ref it) s->wpAny (model P w) A (pyIter (.ref it)) Q E s
def DT (X:Cx)(ea:Addr)(pins:List (Addr×Obj))(σ:St)(tg:Expr)(R:It->Hp->Prop)(itv:Value)(s2:Shared):Prop:=
 ∃(it:Addr) (fp:List Addr) (tn:Nat->Heap->Prop) (J:It) (H':Hp),itv=.ref it/\Inv X pins σ H' s2/\BD X.prog X.w X.K ea tg J fp it tn/\tn 0 s2.heap/\(∀b∈fp,XT X pins H' b)/\R J H'
def nW (X:Cx)(ea:Addr)(tg iter:Expr)(wi:TI):Prop:=
 ∀(pins:List (Addr×Obj)) (s:Shared) (σ:St) (H:Hp) (R:It->Hp->Prop),Inv X pins σ H s->wi σ H R ->
  wpAny (model X.prog X.w) X.A (eval iter X.env) (λv J=>wpAny (model X.prog X.w) X.A (pyIter v) (DT X ea pins σ tg R) X.xe J) X.xe s
theorem U0 (a it):BD P w K ea tg (DW K ea a) [it] it (λi h=>h.IsListIter it a i) where
 mem:=by simp
 obj:=λi h st b J=>by
  have e:b=it:=by simpa using J
  subst e;obtain⟨o,e,c,d⟩:=st;exact⟨o,e,λv z=>by rw[d] at z;cases z⟩
 keep:=λi h h' st k=>st.at λo e=>k it (by simp) o e
 item:=by
  intro X hP hw hK hc i pins s σ H E I hf st hg;subst hP hw hK;obtain⟨xs,x,hq,hx⟩:=hg;obtain⟨its,rv,p,hz⟩:=I.list hq;obtain⟨u,hu,ru⟩:=rv.get hx;obtain⟨f0,f1,f2,f3,f4,f5⟩:=hf it (by simp);refine wpAny_pyNext_list_item st p.isList (x:=u) (by simpa using hu) λh' U sb=>?_
  have I1:Inv X pins σ H { s with heap:=h' }:=I.turned (t':=s.toks) (λb o J e=>(sb.2 b J).trans e) f0 f1 f3 f4 f5;obtain⟨o,e,c,d⟩:=id U;exact⟨u,rfl,Ku (s:={ s with heap:=h' }) e c d (by decide) ⟨x,H,I1,ru,⟨rfl,λys hy=>by rw[I.list_inj hy hq];exact hx⟩,U,λb J=>(hf b J).1⟩⟩
 done:=by
  intro X hP hw hK hc i pins s σ H E I hf st hg;subst hP hw hK;obtain⟨⟨xs,hq,hx⟩,cls,he⟩:=hg;obtain⟨xn,_⟩:=(show ObjOk X.prog X.w H s.heap ea (.ext (Yb ea cls)) from I.hok ea _ he)
  have fx:F2 ea s.heap:=by
   obtain⟨o,vs,k1,_,k2,k3⟩:=xn;exact⟨o,vs,k1,k2,k3⟩
  obtain⟨its,rv,p,hz⟩:=I.list hq;obtain⟨f0,f1,f2,f3,f4,f5⟩:=hf it (by simp);have hl:=rv.length;exact XH hc fx (λz=>by rw[z,f0] at he;cases he) st p.isList (by simp;omega) λh' eb=>⟨rfl,I.turned (t':=s.toks) (λb o J e=>eb b o J e) f0 f1 f3 f4 f5⟩
 self:=λ_ _ _ _ _ st h=>wpAny_pyIter_listiter st h
theorem Lu {x}{cl}{N}(hc:X.A.handled=some (.ref ea))(O:ZQ X scope cl N caps)
  (hi:nW X ea (.Name x px) iter wi) (hg:∀C s H ex,PG (GC X scope cl N C s H ex) (.Name x px) g) (ht:∀C s H ex,gv (GC X scope cl N C s H ex) ifs tt) (he:∀C s H ex,PE (GC X scope cl N C s H ex) elt te)
  (hs:∀v,foldedSetIterable iter X.env v=pure v:=by intro _;rfl):PE X (.ListComp elt [⟨.Name x px,iter,ifs,0⟩] scope pos) (X1 caps wi g tt te):=by
 intro pins s σ H Q I h;rw [eval_ListComp];refine wpAny_comprehension_free (use:=none) rfl hs O.clos O.kind O.names (A4 (hi pins s σ H _ I h) fun v s1 h1=>A4 h1 fun b9 s2 h2=>?_);obtain ⟨it,fp,tn,J,H2,e,I2,T,av,f2,W,⟨m0,w0⟩,au⟩:=h2;subst e;refine wpAny_newObj_type (wpAny_newFunctionEnv O.nocell (by intro y hy;simp at hy) (fun h₁ aa a5=>?_) O.kind);dsimp only at aa a5 ⊢;generalize aj:s2.heap.push { cls:=.type "list",dict:=none,data:=.seq ([]:List Value).toArray }=P2 at aa a5 ⊢;have hC:P2.objs.size=s2.heap.objs.size+1:=by rw [<-aj,Heap.size_push]
 have a8:s2.heap.objs.size≠P2.objs.size:=by rw[hC];exact Cd (Ao _)
 have a6:s2.heap.objs.size<=P2.objs.size:=by rw[hC];exact CY _
 have ar:∀b o,s2.heap.get? b=some o->h₁.get? b=some o:=λb o e=>a5.extBut b o (Cd (Cn (D5 e) a6)) (D8 _ (aj▸D8 _ e))
 have aq:h₁.PlainList s2.heap.objs.size #[]:=⟨_,a5.extBut _ _ a8 (D8 _ (aj▸Cz _ rfl))⟩
 have a7:∀b∈fp,b<s2.heap.objs.size:=λb U=>by
  obtain⟨o,e,_⟩:=T.obj 0 _ av b U;exact D5 e
 generalize b8:P2.objs.size=C at *;generalize a4:s2.heap.objs.size=Dl at *;have I3:Inv (GC X scope cl N C s2 H2 fp) [] (JE caps σ) H2 { s2 with heap:=h₁,toks:=s2.toks+([]:List (Str×Value)).length }:=KB I2 O f2 (by rw[a4];exact a7) ar (by rw[a4];exact a6) aa;have a9:tn 0 h₁:=T.keep 0 _ _ av λb _ o e=>ar b o e
 have az:H2 Dl=none:=I2.hok.fresh (by rw[a4];exact D2 _);have b5:∀b∈fp,b∉IA X.stack:=λb U z=>by
  rcases Ca.mp (I2.stkSub b z) with q|q
  ·exact(f2 b U).2.1 q
  ·exact(f2 b U).2.2.1 q
 have af:∀{H':Hp},(∀b∈fp,H' b=none)->∀b∈fp,XT (GC X scope cl N C s2 H2 fp) [] H' b:=λhn b U=>
  ⟨hn b U,Cd (Cn (a7 b U) a6),b5 b U,.inl U,λx c e=>(f2 b U).2.2.2.2.1 x c (O.sub x c e),λp hp=>absurd (show p∈([]:List (Addr×Obj)) from hp) (by simp)⟩
 have ao:∀x c,cl.lookup x=some c->c≠Dl:=λx c e z=>by
  obtain⟨v,q⟩:=I2.cell x c (O.sub x c e);have:=q.lt;rw[a4] at this;exact CB _ (z▸this)
 have ae:Dl∉IA X.stack:=λz=>by
  have:=I2.stkSub Dl z;rcases Ca.mp this with q|q
  ·have:=I2.lt;rw[a4] at this;exact CB _ (q▸this)
  ·exact I2.nofs (by rw[a4];exact D2 _) q
 have ai:∀{H':Hp},H' Dl=none->XT (GC X scope cl N C s2 H2 fp) [] H' Dl:=λhn=>⟨hn,a8,ae,.inr (Nat.le_of_eq a4),ao,λp hp=>absurd (show p∈([]:List (Addr×Obj)) from hp) (by simp)⟩
 have ah:∀s₃:Shared,s₃={ s2 with heap:=h₁,toks:=s2.toks+([]:List (Str×Value)).length } ->
   codeAny (model X.prog X.w) X.A (.compLoop (.ListComp elt [⟨.Name x px,iter,ifs,0⟩] scope pos) 0 (.ref it) (.ref Dl) (compEnvC scope cl C X.env))
    (compPost (model X.prog X.w) X.A X.xe none (EP X pins σ Q) (.ref Dl) C) s₃:=by
  intro s₃ ay;subst ay;refine Vw (λn s'=>∃i σ' H' acc its,Inv (GC X scope cl N C s2 H2 fp) [] σ' H' s'/\tn i s'.heap/\(∀b∈fp,H' b=none)/\H' Dl=none/\Vals acc its/\s'.heap.PlainList Dl its.toArray/\acc.length<=sizeLine/\W i n acc σ' H') ?_ m0
   ⟨0,JE caps σ,H2,[],[],I3,a9,λb U=>(f2 b U).1,az,.nil,aq,CF _,w0⟩
  rintro n s3 ⟨i,σ3,H3,acc,its,J3,a9,fr3,d3,va,pl3,la,w3⟩;rcases au i n acc σ3 H3 w3 with ⟨aw,qn⟩|⟨go,la2,step⟩
  ·refine A4 (T.done (GC X scope cl N C s2 H2 fp) rfl rfl rfl hc i [(Dl,{ cls:=.type "list",data:=.seq its.toArray (Classical.choose pl3) })] s3 σ3 H3 (λ_ _=>False) (J3.pins_of λp hp=>?_) (λb U=>?_) a9 aw) λr s4 ⟨hr,J4⟩=>?_
   ·have e:=D7.mp (show p∈[_] from hp);subst e;exact⟨Ax pl3,d3,a8,ae,λv z=>by cases z⟩
   ·obtain ⟨q1,q2,q3,q4,q5,q6⟩:=af fr3 b U;refine ⟨q1,q2,q3,q4,q5,fun p hp z=>?_⟩;have e:=D7.mp (show p∈[_] from hp);subst e;exact absurd (a7 b U) (by rw [<-z];exact CB _)
   ·subst hr;obtain⟨m,hn,_⟩:=J4.loc;refine⟨m,hn,λh' sb=>?_⟩;have pD:=J4.pin (Dl,_) (by simp;rfl);have J5:=VC I2 f2 J4 (by rw[a4];exact a6) sb;refine⟨.ref Dl,upd H3 Dl (.lst acc),?_,rfl,qn _ d3⟩;refine J5.track (o:=.lst acc) (Co I2.sz (by rw[a4];exact D2 _)) d3 (λz=>by
     have:=I2.lt;rw[a4,<-z] at this;exact CB _ this) (λy c e z=>by
     obtain⟨v,q⟩:=I2.cell y c e;have:=q.lt;rw[a4] at this;exact CB _ (z▸this)) (λp hp z=>by
     have:=D5 (I2.pin p hp).1;rw[a4,z] at this;exact CB _ this) ⟨la,its,_,va,(sb.2 Dl a8).trans pD.1⟩
  ·refine A4 (T.item (GC X scope cl N C s2 H2 fp) rfl rfl rfl hc i [(Dl,{ cls:=.type "list",data:=.seq its.toArray (Classical.choose pl3) })] s3 σ3 H3 (λ_ _=>False) (J3.pins_of λp hp=>?_) (λb U=>?_) a9 go) λr s4 ⟨u,hr,h4⟩=>?_
   ·have e:=D7.mp (show p∈[_] from hp);subst e;exact⟨Ax pl3,d3,a8,ae,λv z=>by cases z⟩
   ·obtain ⟨q1,q2,q3,q4,q5,q6⟩:=af fr3 b U;refine ⟨q1,q2,q3,q4,q5,fun p hp z=>?_⟩;have e:=D7.mp (show p∈[_] from hp);subst e;exact absurd (a7 b U) (by rw [<-z];exact CB _)
   ·subst hr;refine A4 h4 λ_ s5 ⟨y,H5,J5,r5,y5,ak,b0⟩=>?_
    have b6:Inv (GC X scope cl N C s2 H2 fp) ([(Dl,{ cls:=.type "list",data:=.seq its.toArray (Classical.choose pl3) })]++X3 fp s5.heap) σ3 H5 s5:=J5.pinned (λb U=>by
     obtain ⟨q1,q2,q3,q4,q5,q6⟩:=af b0 b U;refine ⟨q1,q2,q3,q4,q5,fun p hp z=>?_⟩;have e:=D7.mp (show p∈[_] from hp);subst e;exact absurd (a7 b U) (by rw [<-z];exact CB _)) (T.obj _ _ ak)
    refine A4 (hg C s2 H2 fp _ s5 σ3 H5 y u _ b6 r5 (step y H5 y5)) λ_ s6 ⟨σ6,H6,J6,q6⟩=>?_
    refine A4 (ht C s2 H2 fp _ s6 σ6 H6 _ J6 q6) λok s7 ⟨H7,J7,q7⟩=>?_
    have ag:∀{H8:Hp} {s8:Shared},Inv (GC X scope cl N C s2 H2 fp) ([(Dl,{ cls:=.type "list",data:=.seq its.toArray (Classical.choose pl3) })]++X3 fp s5.heap) σ6 H8 s8 ->
      tn (i+1) s8.heap/\(∀b∈fp,H8 b=none)/\H8 Dl=none/\s8.heap.PlainList Dl its.toArray:=λ{H8 s8} J8=>by
     have pb:∀b∈fp,∀o,s5.heap.get? b=some o->s8.heap.get? b=some o/\H8 b=none:=λb U o e=>by
      have:=J8.pin (b,o) (CU _ (CU _ (XQ U e)));exact⟨this.1,this.2.1⟩
     have pd:=J8.pin (Dl,_) (CU _ (C0 _ (D7.mpr rfl)));refine⟨T.keep _ _ _ ak λb U o e=>(pb b U o e).1,λb U=>?_,pd.2.1,⟨_,pd.1⟩⟩;obtain⟨o,e,_⟩:=T.obj _ _ ak b U;exact(pb b U o e).2
    cases ok with
    | false=>
     rw[DY Cy] at q7 ⊢;obtain⟨m',hm,w7⟩:=q7;obtain⟨b1,b2,b3,b4⟩:=ag J7;exact⟨m',hm,i+1,σ6,H7,acc,its,J7.pins_of (λp hp=>absurd hp (by simp)),b1,b2,b3,va,b4,la,w7⟩
    | true=>
     rw[DZ rfl] at q7 ⊢;refine A4 (he C s2 H2 fp _ s7 σ6 H7 _ J7 q7) λz s8 ⟨zv,H8,J8,r8,q8⟩=>?_
     obtain⟨m',hm,w8⟩:=q8;obtain⟨b1,b2,b3,b4⟩:=ag J8;have z1:its.length=acc.length:=va.length.symm;refine wpAny_list_append_plain (hsz:=by rw[CA];omega) b4 λh9 b7 ax=>?_
     have J9:Inv (GC X scope cl N C s2 H2 fp) [] σ6 H8 { s8 with heap:=h9,toks:=s8.toks }:=by
      obtain⟨k0,k1,k2,k3,k4,k5⟩:=ai (H':=H8) b3;exact(J8.pins_of (pins':=[]) (λp hp=>absurd hp (by simp))).turned (it:=Dl) (λb o U e=>(ax.2 b U).trans e) k0 k1 k3 k4 k5
     refine⟨m',hm,i+1,σ6,H8,acc++[zv],its++[z],J9,T.keep _ _ _ b1 λb U o e=>(ax.2 b (Cd (a7 b U))).trans e,b2,b3,va.append (.cons r8 .nil),?_,?_,w8⟩
     ·simpa using b7
     ·rw[D0,D6];omega
 exact codeAny_compStart_list (ah _ rfl) (T.self X.A 0 _ _ _ a9 (ah _ rfl))
end L2
namespace L2
open Spec PyProof.Rows
def Q6 (z:Str):Prop:=(z.cps.all λx=>decide (x<128))=true
def mC (z:Str):It:=⟨λi _=>i<z.cps.size,λi H x H'=>H'=H/\∃c,z.cps[i]?=some c/\x=.str ⟨#[c]⟩,λi _=>z.cps.size<=i⟩
theorem MW (it):UG P w K tg (mC z) [it] it (λi h=>h.IsStrIter it "str_ascii_iterator" z t i) where
 mem:=by simp
 obj:=λi h st b U=>by
  have e:b=it:=by simpa using U
  subst e;obtain⟨o,e,c,d⟩:=st;exact⟨o,e,λv z=>by rw[d] at z;cases z⟩
 keep:=λi h h' ⟨o,e,c,d⟩ k=>⟨o,k it (by simp) o e,c,d⟩
 item:=by
  intro X hP hw hK hc i pins s σ H E I hf st J;subst hP hw hK;have J:i<z.cps.size:=J;obtain⟨f0,f1,f2,f3,f4,f5⟩:=hf it (by simp);refine wpAny_pyNext_ascii_item (c:=z.cps[i]) st (by simp[J]) λh' a4 sb=>?_
  have I1:Inv X pins σ H { s with heap:=h',toks:=s.toks+1 }:=I.turned (t':=s.toks+1) (λb o U e=>(sb.2 b U).trans e) f0 f1 f3 f4 f5;obtain⟨o,e,c,d⟩:=id a4;exact⟨_,rfl,Ku (s:={ s with heap:=h',toks:=s.toks+1 }) e c d (by decide) ⟨.str ⟨#[z.cps[i]]⟩,H,I1,⟨_,rfl⟩,⟨rfl,z.cps[i],by simp[J],rfl⟩,a4,λb U=>(hf b U).1⟩⟩
 done:=by
  intro X hP hw hK hc i pins s σ H E I hf st J;subst hP hw hK;have J:z.cps.size<=i:=J;obtain⟨f0,f1,f2,f3,f4,f5⟩:=hf it (by simp);exact wpAny_pyNext_ascii_end (I.ok.hd hc) st (by simp[J]) λh' eb=>⟨rfl,I.turned (t':=s.toks) (λb o U e=>eb b o U e) f0 f1 f3 f4 f5⟩
 self:=λA i s Q E st h=>wpAny_pyIter_striter_ascii st h
def Hr (tl:TE):TI:=λσ H R=>tl σ H λx H1=>∃z,x=.str z/\Q6 z/\R (mC z) H1
theorem Ln {l}(hl:PE X l tl):PI X tg l (Hr tl):=by
 intro pins s σ H R I h;refine A4 (hl pins s σ H _ I h) λv J ⟨x,H1,U,r1,q1⟩=>?_
 obtain⟨z,e,ha,q⟩:=q1;subst e;obtain⟨t,rfl⟩:=r1;refine wpAny_pyIter_ascii ha ?_;refine⟨J.heap.objs.size,[J.heap.objs.size],_,_,H1,rfl,U.kept (t':=J.toks) λb o e=>D8 _ e,MW (z:=z) (t:=t) _,⟨_,Cz _ rfl,rfl,rfl⟩,λb hb=>?_,q⟩;have e:b=J.heap.objs.size:=by simpa using hb
 subst e;exact U.fpOk (D2 _) (U.hok.fresh (D2 _))
theorem MM:Hr tl σ H R=tl σ H λx H1=>∃z,x=.str z/\Q6 z/\R (mC z) H1:=rfl
theorem Tt (Pv)(h0:Pv 0 [] σ0 H)(hn:z.cps.size<=1000)
  (hs:∀i c acc σ H,z.cps[i]?=some c->acc.length<=i->Pv i acc σ H->g (.str ⟨#[c]⟩) σ H λJ H2=>tt J H2 λb H3=>if b=true then te J H3 λv H4=>CN Pv z.cps.size i (acc++[v]) J H4 else CN Pv z.cps.size i acc J H3)
  (hd:∀acc σ H,Pv z.cps.size acc σ H->∀p,H p=none->Q (.ref p) (upd H p (.lst acc))):Y9 (mC z) g tt te σ0 H Q:=by
 refine⟨λi m acc σ H=>m=z.cps.size-i/\i<=z.cps.size/\acc.length<=i/\Pv i acc σ H,⟨z.cps.size,by simp,CF _,D2 _,h0⟩,?_⟩;rintro i m acc σ H ⟨rfl,hi,ha,p⟩;by_cases U:i<z.cps.size
 ·refine .inr ⟨U,Z7 (by omega),λx H' y=>?_⟩;obtain⟨rfl,c,hc,rfl⟩:=y;exact hs i c acc σ _ hc ha p
 ·have e:i=z.cps.size:=by omega
  subst e;exact .inl ⟨D2 _,hd acc σ H p⟩
theorem Hq:∀c<128,Txt.contains "abcdefghijklmnopqrstuvwxyz" ⟨#[c]⟩=(decide (97<=c)&&decide (c<=122)):=by decide +kernel
def Et:List V->Hp->VK->Prop:=λxs H Q=>∃x n,xs=[.str x]/\intText? x=some n/\x.length<=640/\Q (.int n) H
theorem Mp:CallR X (.type "int") Et:=by
 intro pins s σ H xs us Q I r h;obtain⟨x,n,rfl,hn,J,q⟩:=h;obtain⟨u,rfl,t,rfl⟩:=ZK r;exact W.KIN.call_text hn J ⟨.int n,H,I.tok _,⟨_,rfl⟩,q⟩
def Ej:V->List V->Hp->VK->Prop:=λx xs H Q=>∃z y,x=.str z/\xs=[.str y]/\(y.length==0)=false/\z.length<=sizeLine/\∀p,H p=none->Q (.ref p) (upd H p (.tup [.str (Txt.partition z y).1,.str (Txt.partition z y).2.1,.str (Txt.partition z y).2.2]))
theorem Vi:kA X "str.partition" Ej:=by
 intro pins s σ H x xs v us Q I U rs q;obtain⟨z,y,rfl,rfl,hy,hz,q⟩:=q;obtain⟨t,rfl⟩:=U;obtain⟨_,rfl,u,rfl⟩:=ZK rs;refine call_meets PySem.F.slot_str_partition (typeIs_str _ _ _) PySem.F.entry_str_partition (PySem.F.args_str_partition_2 _ _) (meets_str_partition z y t u hy hz) ?_;have J:=q;unfold Txt.partition at J;revert J;cases Builtin.Str.occurrences z y 0 z.length 1 with
 | nil=>
  intro J;refine⟨.ref s.heap.objs.size,_,I.laid (t':=s.toks+1) (o:=.tup [.str z,.str Str.empty,.str Str.empty]) (λb o e=>D8 _ e) (D2 _) ?_,rfl,J _ (I.hok.fresh (D2 _))⟩;exact⟨by rw[Cb];exact(by decide:3<=16777216),_,.cons ⟨_,rfl⟩ (.cons ⟨_,rfl⟩ (.cons ⟨_,rfl⟩ .nil)),_,Cz s.heap rfl,rfl,0,rfl⟩
 | cons i r=>
  intro J;refine⟨.ref s.heap.objs.size,_,I.laid (t':=s.toks+1+1) (o:=.tup [.str (Builtin.Str.strSub z 0 i),.str y,.str (Builtin.Str.strSub z (i+y.length) z.length)]) (λb o e=>D8 _ e) (D2 _) ?_,rfl,J _ (I.hok.fresh (D2 _))⟩;exact⟨by rw[Cb];exact(by decide:3<=16777216),_,.cons ⟨_,rfl⟩ (.cons ⟨_,rfl⟩ (.cons ⟨_,rfl⟩ .nil)),_,Cz s.heap rfl,rfl,0,rfl⟩
def Lg:V->List V->Hp->VK->Prop:=λx xs H Q=>∃z y,x=.str z/\xs=[.str y]/\(y.length==0)=false/\z.length<=sizeLine/\(Txt.split z y).length<=sizeLine/\∀p,H p=none->Q (.ref p) (upd H p (.lst ((Txt.split z y).map V.str)))
theorem JZ:∀(ys) (k:Nat),Vals (ys.map V.str) (strsFrom k ys)
 | [],_=>.nil
 | _::ys,k=>.cons ⟨_,rfl⟩ (JZ ys (k+1))
theorem Xx:kA X "str.split" Lg:=by
 intro pins s σ H x xs v us Q I rx rs q;obtain⟨z,y,rfl,rfl,U,hz,hn,q⟩:=q;obtain⟨t,rfl⟩:=rx;obtain⟨_,rfl,u,rfl⟩:=ZK rs;have one:Txt.split z y=[z]->EP X pins σ Q (.ref s.heap.objs.size) { s with heap:=s.heap.push { cls:=.type "list",data:=.seq [Value.str z t].toArray } }:=λe=>by
  rw[e] at q;refine⟨.ref s.heap.objs.size,_,I.laid (t':=s.toks) (o:=.lst [.str z]) (λb o e=>D8 _ e) (D2 _) ?_,rfl,q _ (I.hok.fresh (D2 _))⟩;exact⟨by rw[Cb];exact(by decide:1<=16777216),_,_,.cons ⟨_,rfl⟩ .nil,Cz s.heap rfl⟩
 cases h1:(decide (z.length<y.length)||decide (Builtin.Str.strKind z<Builtin.Str.strKind y))
 ·cases J:(Builtin.Str.occurrences z y 0 z.length (z.length+1)).isEmpty
  ·have e:Txt.split z y=Builtin.Str.partsBetween z (Builtin.Str.occurrences z y 0 z.length (z.length+1)) y.length:=(DY (ne_true_of_eq_false h1)).trans (DY (ne_true_of_eq_false J));refine call_meets F.slot_str_split (typeIs_str _ _ _) F.entry_str_split (F.args_str_split_2 _ _) (meets_str_split_sep z y t u h1 U J hz (by rw [<-e];exact hn)) ?_;rw [<-e];refine ⟨.ref s.heap.objs.size,_,I.laid (t':=s.toks+(Txt.split z y).length) (o:=.lst ((Txt.split z y).map V.str)) (fun b o e=>D8 _ e) (D2 _) ?_,rfl,q _ (I.hok.fresh (D2 _))⟩;exact ⟨by rw [D1];exact hn,_,_,JZ _ _,Cz s.heap rfl⟩
  ·exact call_meets F.slot_str_split (typeIs_str _ _ _) F.entry_str_split (F.args_str_split_2 _ _) (meets_str_split_not_found z y t u h1 U J) (one ((DY (ne_true_of_eq_false h1)).trans (DZ J)))
 ·exact call_meets F.slot_str_split (typeIs_str _ _ _) F.entry_str_split (F.args_str_split_2 _ _) (meets_str_split_cannot_occur z y t u h1) (one (DZ h1))
def Eu:V->List V->Hp->VK->Prop:=λx xs H Q=>∃z y,x=.str z/\xs=[.str y]/\Q (.bl (Txt.endswith z y)) H
theorem V8:kA X "str.endswith" Eu:=by
 intro pins s σ H x xs v us Q I J rs q;obtain⟨z,y,rfl,rfl,q⟩:=q;obtain⟨t,rfl⟩:=J;obtain⟨_,rfl,u,rfl⟩:=ZK rs;exact SC.endswith ⟨.bl _,H,I,rfl,q⟩
def n6 (w:World)(K:W.Frag)(a:Addr)(kvs:List (Key×V)):Prop:=∃o vs ep,K.lookup a=some o/\(∀P,mE P w o vs ep)/\KV kvs vs/\(a==sysModules)=false
structure KDic (w:World)(K:W.Frag)(mg:Str->Option Value)(n:Str)(a:Addr)(kvs:List (Key×V)):Prop where
 m:mg n=some (.ref a)
 s:n6 w K a kvs
def om (K:W.Frag)(a:Addr)(xs:List V):Prop:=∀H,A9 K H a xs
theorem kts_of {its}{k:Nat}{sl}{xs}(l:K.lookup a=some ⟨.type "tuple",od,.seq its k,sl⟩)(hz:its.size<=sizeLine)(r:Vals xs its.toList):om K a xs:=
 λH=>.inr ⟨_,_,_,l,rfl,rfl,hz,r⟩
theorem Ls {n}(k:KDic X.w X.K X.mg n a kvs)(hg:Gl X n:=by rfl)(hd:(n==("__debug__":Str))=false:=by decide):PE X (.Name n pos) (tC (.ref a)):=Q9 (v:=.ref a) hg k.m rfl hd
theorem KDic.at {n}(k:KDic X.w X.K X.mg n a kvs)(I:Inv X pins σ H s):(a==sysModules)=false/\∃o vs ep,s.heap.get? a=some o/\mE X.prog X.w o vs ep/\KV kvs vs/\s.heap.DictAt (QQ X.prog X.w) a vs ep:=by
 obtain⟨_,o,vs,ep,hk,hd,r,hs⟩:=k;have g:=I.kIn a o hk;obtain⟨es,U,o2,J,o4,o5⟩:=hd X.prog;exact⟨hs,o,vs,ep,g,⟨es,U,o2,J,o4,o5⟩,r,o,es,g,U,o2,J,o4,o5⟩
def GP (kvs:List (Key×V))(ty:TE):TE:=λσ H Q=>ty σ H λy H1=>∃k v,y=kV k/\Z3 kvs k=some v/\Q v H1
def GO (kvs:List (Key×V))(ty:TE):TE:=λσ H Q=>ty σ H λy H1=>∃k,y=kV k/\Q (.bl (!(Z3 kvs k).isSome)) H1
section
variable {X:Cx} {i:Expr} {pos npos:Pos} {ty:TE} {n:Str} {a:Addr} {kvs:List (Key×V)}
theorem YQ (k:KDic X.w X.K X.mg n a kvs)(hi:PE X i ty)(hs:HP i)(hg:Gl X n:=by rfl)(hd:(n==("__debug__":Str))=false:=by decide):PE X (.Subscript (.Name n npos) i pos) (GP kvs ty):=by
 intro pins s σ H Q I h;refine GS PySem.F.slot_dict_getitem.lookup hs (A4 (Ls (pos:=npos) k hg hd pins s σ H (λx H1=>x=.ref a/\H1=H) I ⟨rfl,rfl⟩) λu s1 ⟨x,H1,I1,rx,ex,eH⟩=>?_);subst ex;subst eH;obtain rfl:u=Value.ref a:=rx;refine A4 (hi pins s1 σ H1 _ I1 h) λiv s2 ⟨y,H2,I2,ry,kk,v,ey,l,q2⟩=>?_
 subst ey;obtain ⟨a4,o,vs,ep,g,_,J,dd⟩:=k.at I2;have dd:=dd.dictOf;obtain ⟨w',hw,U⟩:=RelO.some_of (v:=v) (o:=valueAt vs kk) (by rw [<-l];exact J.val kk);exact ⟨dd.typeIs,wpAny_getItem_of (Kr ry) dd.mapOf hw ⟨v,H2,I2.tok _,U,q2⟩⟩
theorem NR (k:KDic X.w X.K X.mg n a kvs)(hi:PE X i ty)(hg:Gl X n:=by rfl)(hd:(n==("__debug__":Str))=false:=by decide):PC X .NotIn i (.Name n npos) (GO kvs ty):=by
 intro pins s σ H Q I h;refine A4 (hi pins s σ H _ I h) λiv s1 ⟨y,H1,I1,ry,kk,ey,q1⟩=>A4 (Ls (pos:=npos) k hg hd pins s1 σ H1 (λx H2=>x=.ref a/\H2=H1) I1 ⟨rfl,rfl⟩) λu s2 ⟨x,H2,I2,rx,ex,eH⟩=>?_
 subst ex;subst eH;subst ey;obtain rfl:u=Value.ref a:=rx;obtain ⟨J,o,vs,ep,g,_,U,dd⟩:=k.at I2;refine wpAny_notIn_of (Kr ry) J dd.dictOf.mapOf ?_;rw [<-(U.val kk).isSome_eq];exact ⟨.bl _,H2,I2.tok _,rfl,q1⟩
end
def mD (kvs:List (Key×V)):It:=⟨λi _=>i<kvs.length,λi H x H'=>H'=H/\∃kv,kvs[i]?=some kv/\x=kV kv.1,λi _=>kvs.length<=i⟩
theorem NG {o}{vs}{ep:Nat}(hob:mE P w o vs ep)(rel:KV kvs vs)(hk:K.lookup d=some o) :
  UG P w K tg (mD kvs) [it] it (λi h=>h.IsKeyIter it d i vs.length ep) where
 mem:=by simp
 obj:=λi h st b J=>by
  have e:b=it:=by simpa using J
  subst e;obtain⟨q,e,c,dd⟩:=st;exact⟨q,e,λv z=>by rw[dd] at z;cases z⟩
 keep:=λi h h' ⟨q,e,r⟩ k=>⟨q,k it (by simp) q e,r⟩
 item:=by
  intro X hP hw hK hc i pins s σ H E I hf st hi;subst hP hw hK;have hi:i<kvs.length:=hi;obtain⟨es,o1,o2,o3,o4,o5⟩:=hob;obtain⟨f0,f1,f2,f3,f4,f5⟩:=hf it (by simp);have gd:s.heap.get? d=some o:=I.kIn d o hk;have hm:s.heap.DictAt (QQ X.prog X.w) d vs ep:=⟨o,es,gd,o1,o2,o3,o4,o5⟩
  have hl:=rel.length;obtain⟨⟨k,u⟩,hx⟩:∃kv,vs[i]?=some kv:=⟨_,D4 (by omega)⟩
  have a4:(kvs.map (·.1))[i]?=some k:=by rw[rel.keys,Ct,hx];rfl
  rw[Ct] at a4;obtain⟨kv,a5,rfl⟩:=Cv.mp a4;refine wpAny_pyNext_dict_item st hm hx λa6 h' hk U sb=>?_
  have I1:Inv X pins σ H { s with heap:=h' }:=I.turned (t':=s.toks) (λb o J e=>(sb.2 b J).trans e) f0 f1 f3 f4 f5;obtain⟨q,e,c,dd⟩:=id U;exact⟨a6,rfl,Ku (s:={ s with heap:=h' }) e c dd (by decide) ⟨kV kv.1,H,I1,Hl hk,⟨rfl,kv,a5,rfl⟩,U,λb J=>(hf b J).1⟩⟩
 done:=by
  intro X hP hw hK hc i pins s σ H E I hf st hi;subst hP hw hK;have hi:kvs.length<=i:=hi;obtain⟨es,o1,o2,o3,o4,o5⟩:=hob;obtain⟨f0,f1,f2,f3,f4,f5⟩:=hf it (by simp);have gd:s.heap.get? d=some o:=I.kIn d o hk;have hm:s.heap.DictAt (QQ X.prog X.w) d vs ep:=⟨o,es,gd,o1,o2,o3,o4,o5⟩
  have hl:=rel.length;exact wpAny_pyNext_dict_end (I.ok.hd hc) st hm (Ad (by omega)) λh' eb=>⟨rfl,I.turned (t':=s.toks) (λb o J e=>eb b o J e) f0 f1 f3 f4 f5⟩
 self:=λ_ _ _ _ _ st h=>wpAny_pyIter_keyiter st h
def ES (kvs:List (Key×V)):TI:=λ_ H R=>R (mD kvs) H
theorem Ru {n}(k:KDic X.w X.K X.mg n a kvs)(hg:Gl X n:=by rfl)(hd:(n==("__debug__":Str))=false:=by decide):PI X tg (.Name n pos) (ES kvs):=by
 intro pins s σ H R I h;refine A4 (Ls (pos:=pos) k hg hd pins s σ H (λx H2=>x=.ref a/\H2=H) I ⟨rfl,rfl⟩) λv J ⟨x,H1,U,r1,ex,eH⟩=>?_
 subst ex;subst eH;cases r1;obtain⟨hs,o,vs,ep,gd,a4,a5,hm⟩:=k.at U;obtain⟨_,o',a9,a8,hk,a7,a6,_⟩:=k;have e:=U.kIn a o' hk;rw[gd] at e;cases e;refine wpAny_pyIter_dict hs hm ?_;have hn:H1 J.heap.objs.size=none:=U.hok.fresh (D2 _);refine⟨J.heap.objs.size,[J.heap.objs.size],_,_,_,rfl,U.kept (t':=J.toks) λb o e=>D8 _ e,NG a4 a5 hk,⟨_,Cz _ rfl,rfl,rfl⟩,λb hb=>?_,h⟩;have e:b=J.heap.objs.size:=by simpa using hb
 subst e;exact U.fpOk (D2 _) hn
theorem DJ {D}(Pv:Nat->St->Hp->Prop)(h0:Pv 0 σ H)
  (hs:∀i kv σ H,kvs[i]?=some kv->Pv i σ H->g (kV kv.1) σ H λU H2=>tb { D with nx:=Pv (i+1),ct:=Pv (i+1),bk:=D.nx } U H2) (hd:∀σ H,Pv kvs.length σ H->D.nx σ H):KN (mD kvs) g tb D σ H:=by
 refine⟨λi m σ H=>m=kvs.length-i/\i<=kvs.length/\Pv i σ H,⟨kvs.length,by simp,CF _,h0⟩,?_⟩;rintro i m σ H ⟨rfl,hi,p⟩;rcases Nat.lt_or_ge i kvs.length with hlt|hge
 ·refine .inr ⟨hlt,Pv (i+1),λσ' H' J=>⟨kvs.length-(i+1),by omega,rfl,hlt,J⟩,?_⟩;rintro x H' ⟨rfl,kv,hk,rfl⟩;exact hs i kv σ _ hk p
 ·have e:i=kvs.length:=by omega
  subst e;exact .inl ⟨hge,hd σ H p⟩
theorem HC {o}(l:List (Str×Tok×Value)){ep:Nat}(ho:o.ExactDict)(hd:o.data=.dict (l.map λe=>(⟨hashStr w e.1,.str e.1 e.2.1,e.2.2⟩:DictEntry)).toArray ep)(nd:(l.map (·.1)).Nodup)(P:Program) :
  mE P w o (l.map λe=>(Sum.inr e.1,e.2.2)) ep:=by
 refine⟨_,ho,hd,?_,?_,?_⟩
 ·intro e he;have he:e∈l.map λe=>(⟨hashStr w e.1,.str e.1 e.2.1,e.2.2⟩:DictEntry):=by simpa using he
  obtain⟨x,_,rfl⟩:=C8.mp he;exact⟨.inr x.1,Wm x.1 x.2.1,rfl⟩
 ·clear hd nd;simp only[]
  induction l with
  | nil=>exact .nil
  | cons x l J=>exact .cons (Wm x.1 x.2.1) rfl J
 ·rw[Ah];have:((λkv:Key×Value=>kv.1) ∘ λe:Str×Tok×Value=>((Sum.inr e.1:Key),e.2.2))=(λx:Str=>(Sum.inr x:Key)) ∘ λe:Str×Tok×Value=>e.1:=rfl
  rw[show(Prod.fst ∘ λe:Str×Tok×Value=>((Sum.inr e.1:Key),e.2.2))=(λx:Str=>(Sum.inr x:Key)) ∘ λe:Str×Tok×Value=>e.1 from rfl,<-Ah];exact List.Pairwise.map _ (λa b h e=>h (Sum.inr.inj e)) nd
theorem kds_of {l:List (Str×Tok×Value)}{es:Array DictEntry}{ep:Nat}(h:K.lookup a=some ⟨.type "dict",none,.dict es ep,#[]⟩)
  (e:es=(l.map λe=>(⟨hashStr w e.1,.str e.1 e.2.1,e.2.2⟩:DictEntry)).toArray) (nd:(l.map (·.1)).Nodup) (r:KV kvs (l.map λe=>(Sum.inr e.1,e.2.2))) (hs:(a==sysModules)=false):n6 w K a kvs:=
 ⟨_,_,_,h,λP=>HC l ⟨rfl,rfl,rfl⟩ (by rw[e]) nd P,r,hs⟩
theorem E4 {b}{xs ys}(Pv)(hz:xs.length=ys.length)(h0:Pv 0 [] σ0 H)(hl:∀i acc σ H,Pv i acc σ H->A6 K H a xs/\A6 K H b ys)(hn:xs.length<=1000)
  (hs:∀i x y acc σ H p,xs[i]?=some x->ys[i]?=some y->acc.length<=i->Pv i acc σ H->H p=none->g (.ref p) σ (upd H p (.tup [x,y])) λJ H2=>tt J H2 λb H3=>if b=true then te J H3 λv H4=>CN Pv xs.length i (acc++[v]) J H4 else CN Pv xs.length i acc J H3)
  (hd:∀acc σ H,Pv xs.length acc σ H->∀p,H p=none->Q (.ref p) (upd H p (.lst acc))):Y9 (ly K a b) g tt te σ0 H Q:=by
 refine⟨λi m acc σ H=>m=xs.length-i/\i<=xs.length/\acc.length<=i/\Pv i acc σ H,⟨xs.length,by simp,CF _,D2 _,h0⟩,?_⟩;rintro i m acc σ H ⟨rfl,hi,ha,p⟩;obtain⟨U,q2⟩:=hl i acc σ H p;by_cases a4:i<xs.length
 ·refine .inr ⟨⟨xs,ys,xs[i],ys[i]'(by omega),U,q2,by simp[a4],D4 _⟩,Z7 (by omega),λx H' y=>?_⟩;obtain⟨p',x',y',rfl,hp,rfl,hx,hy⟩:=y;exact hs i x' y' acc σ _ p' (hx xs U) (hy ys q2) ha p hp
 ·have e:i=xs.length:=by omega
  subst e;exact .inl ⟨⟨xs,ys,U,q2,.inl (D2 _)⟩,hd acc σ H p⟩
theorem Ea (x y):Txt.split x y≠[]:=by
 unfold Txt.split;split
 ·simp
 ·split
  ·simp
  ·rw[StrLaws.partsBetween_eq];obtain⟨p,r,e⟩:=StrLaws.partsFrom_ne x y.length 0 (Builtin.Str.occurrences x y 0 x.length (x.length+1));rw[e];simp
theorem Bk {c:Nat}:∀{x y a b},c∉x->c∉y->x++c::a=y++c::b->x=y/\a=b
 | [],[],_,_,_,_,h=>⟨rfl,(List.cons.inj h).2⟩
 | [],d::y,_,_,_,hy,h=>absurd (Ca.mpr (.inl (List.cons.inj h).1)) hy
 | d::x,[],_,_,hx,_,h=>absurd (Ca.mpr (.inl (List.cons.inj h).1.symm)) hx
 | d::x,e::y,a,b,hx,hy,h=>by
  obtain⟨h1,h2⟩:=List.cons.inj h;obtain⟨J,U⟩:=Bk (λm=>hx (Cu _ m)) (λm=>hy (Cu _ m)) h2;exact⟨by rw[h1,J],U⟩
theorem WR {x}(h:x.cps.toList=y.cps.toList):x=y:=by
 obtain⟨xs⟩:=x;obtain⟨ys⟩:=y
 congr 1
 exact Array.toList_inj.mp h
theorem Yy (a b:Str):(a++b).cps.toList=a.cps.toList++b.cps.toList:=by
 show(a.cps++b.cps).toList=_;rw[AR]
theorem Lx (x z:Str)(c:Nat):(x++⟨#[c]⟩++z).cps.toList=x.cps.toList++c::z.cps.toList:=by
 rw[Yy,Yy,List.append_assoc];rfl
theorem Ud {c:Nat}:∀{a b},a≠[]->b≠[]->(∀z∈a,c∉z.cps.toList)->(∀z∈b,c∉z.cps.toList)->Str.join ⟨#[c]⟩ a=Str.join ⟨#[c]⟩ b->a=b
 | [],_,h,_,_,_,_=>absurd rfl h
 | _,[],_,h,_,_,_=>absurd rfl h
 | [x],[y],_,_,_,_,e=>by have e:x=y:=e;rw[e]
 | [x],y::y2::r,_,_,hx,_,e=>by
  have e:x=y++⟨#[c]⟩++Str.join ⟨#[c]⟩ (y2::r):=e;exact absurd (by rw[e,Lx];exact CU _ Cw) (hx x Cw)
 | x::x2::r,[y],_,_,_,hy,e=>by
  have e:x++⟨#[c]⟩++Str.join ⟨#[c]⟩ (x2 :: r)=y:=e;exact absurd (by rw [<-e,Lx];exact CU _ Cw) (hy y Cw)
 | x::x2::r,y::y2::r2,_,_,hx,hy,e=>by
  have e:x++⟨#[c]⟩++Str.join ⟨#[c]⟩ (x2::r)=y++⟨#[c]⟩++Str.join ⟨#[c]⟩ (y2::r2):=e;have e:=congrArg (λs:Str=>s.cps.toList) e;simp only[Lx] at e;obtain⟨h1,h2⟩:=Bk (hx x Cw) (hy y Cw) e;have U:=Ud (a:=x2::r) (b:=y2::r2) (by simp) (by simp) (λz J=>hx z (Cu _ J)) (λz J=>hy z (Cu _ J)) (WR h2);rw[WR h1,U]
theorem U3 {c:Nat}{ws}(h0:ws≠[])(h:∀z∈ws,c∉z.cps.toList):Txt.split (Txt.join ⟨#[c]⟩ ws) ⟨#[c]⟩=ws:=by
 refine Ud (Ea _ _) h0 (StrLaws.split_free _ c) h ?_;rw[StrLaws.join_split];exact StrLaws.glued_eq_join _ _
theorem LO (sep)(ws):(Txt.join sep ws).length<=(ws.map (·.length)).sum+ws.length*sep.length:=by
 show(Builtin.Str.glued sep ws).length<=_;rw[StrLaws.glued_eq_join];exact StrLaws.join_length_le sep ws
theorem Ry {k:Nat}{sp}{x}{p}(G:JK X.prog X.w X.K X.mg X.base k C ps sp)(hr:Room (k+1) X.A)(hg:Gl X x)(hm:X.mg x=some (.ref C))(hdb:(x==("__debug__":Str))=false:=by decide):PE X (.Call (.Name x p) [] [] pos) (Yt C sp [] E0 JO):=by
 obtain⟨f,fd,F,b,M⟩:=G.ex;exact Lr M F hr hg hm b .nil Kj hdb
open W
open Calls
structure FunD (K:W.Frag)(x qual:Str)(st:Stmt)(f:Addr)(fd:FuncData):Prop where
 ex:∃(oc:Value) (od:Option Addr) (dV kV doc pm:Value) (an:Option Addr) (cdv ct:Value) (osl:Array (Option Value)),
  fd=W.fnOf x qual (Zp st) (QN st) (Qm st) dV kV doc pm an cdv ct/\K.lookup f=some ⟨oc,od,.func fd,osl⟩/\W.codeIn K cdv qual=true
 kp:W.keepIn K (.ref f)=true
section
variable {P:Program} {w:World} {K:W.Frag} {mg:Str->Option Value} {base:Heap}
theorem FunD.ok {x}{N}{k:Nat}{sp}(F:FunD K x qual st f fd)(S:QW N ps (Qm st))(len:∀vs H Q E,sp vs H Q E->vs.length=ps.length)
  (hbody:∀(cdv:Value) (A:Around) (outer:List Env) (s:Shared) (H:Hp) (vs:List V) (Q:VK) (E:XK),Room k (A.deeper (envOfC qual (Qm st) s.heap.objs.size f cdv))->sp vs H Q E ->
   ∃t,PSs (Xi Ih P w K mg base N qual (Qm st) f cdv A outer s H E).nox (QN st) t/\t { nx:=λ_ H'=>Q .non H',rt:=Q } (start N vs) H):FnOk P w K mg base Ih (k+1) f fd ps sp:=by
 obtain⟨oc,od,dV,kV,doc,pm,an,cdv,ct,a4,rfl,lk,U⟩:=F.ex;refine Nj lk U S len λA outer s H vs Q E hr J=>?_
 obtain⟨t,h,q⟩:=hbody cdv A outer s H vs Q E hr J;exact⟨t,h.nox,q⟩
theorem Pc {x}{osl}{dV kV}(l:K.lookup f=some ⟨oc,od,.func (W.fnOf x qual (Zp st) (QN st) (Qm st) dV kV doc pm an cdv ct),osl⟩)
  (c:W.codeIn K cdv qual=true) (k:W.keepIn K (.ref f)=true):FunD K x qual st f (W.fnOf x qual (Zp st) (QN st) (Qm st) dV kV doc pm an cdv ct):=⟨⟨oc,od,dV,kV,doc,pm,an,cdv,ct,osl,rfl,l,c⟩,k⟩
end
abbrev nS:=V->V->V->V->V->V->V->V->V->V->Hp->VK->Prop
def HM (φ:nS):Sp:=λvs H Q _=>∃a b c d e f g h i j,vs=[a,b,c,d,e,f,g,h,i,j]/\φ a b c d e f g h i j H Q
def Sp10M (φ:nS):Sp:=λvs H Q _=>match vs with|[a,b,c,d,e,f,g,h,i,j]=>φ a b c d e f g h i j H Q|_=>False
theorem Sp10M.imp {φ}(vs)(H)(Q)(E:XK)(h:Sp10M φ vs H Q E):HM φ vs H Q E:=by
 unfold Sp10M at h;split at h
 ·exact⟨_,_,_,_,_,_,_,_,_,_,rfl,h⟩
 ·exact h.elim
theorem TC {φ}{a d e f g h i j}{E}:Sp10M φ [a,b,c,d,e,f,g,h,i,j] H Q E=φ a b c d e f g h i j H Q:=rfl
theorem TN {N}{a d e f g h i j}:start N [a,b,c,d,e,f,g,h,i,j]=some a::some b::some c::some d::some e::some f::some g::some h::some i::some j::List.replicate (N.length-10) none:=rfl
def Tb (K:W.Frag):R2:=λx y H Q=>∃p r xs ys,x=.ref p/\y=.ref r/\A6 K H p xs/\A6 K H r ys/\xs.length≠ys.length/\Q (.bl false) H
theorem RH (hu:X.A.units+64<cLine):OpR X (compareOp .Eq) (Tb X.K):=by
 intro pins s σ H x y v u Q I rx ry h;obtain⟨p,r,xs,ys,rfl,rfl,h1,h2,hl,q⟩:=h;obtain rfl:=rx.ref_of;obtain rfl:=ry.ref_of;obtain⟨its,rI,pt,_⟩:=I.list h1;obtain⟨its',U,J,_⟩:=I.list h2;have z1:its.length=xs.length:=rI.length.symm;have z2:its'.length=ys.length:=U.length.symm;exact SeqAt.eq_list_lengthsAt pt.isList J.isList (by simp;omega) (by omega) ⟨.bl _,H,I,rfl,q⟩
def Ef (K:W.Frag):R2:=λx y H Q=>sEq K x y H Q∨Tb K x y H Q
theorem DL (K){X}(h:X.K=K)(hu:X.A.units+64<cLine):OpR X (compareOp .Eq) (Ef K):=(m7 K h hu).or (by subst h;exact RH hu)
section
variable {X:Cx}
end
section
variable {M:Model} {A:Around} {E:Value->Shared->Prop} {s:Shared} {e L:Addr} {base:Heap} {env:Env} {outer l:List Env} {cls a0 fl:Value} {Q:Unit->Shared->Prop}
theorem Lz (hfr:A.frames=some (env::outer))(hl:s.heap.FunFrames base (env::outer))(hf:env.frame=some L)(ht:s.heap.TracedAtW base e cls a0 fl)(hkb:base.StaysIn s.heap)(hen:base.get? e=none)
  (h:∀h',base.StaysIn h'->h'.FunFrames base (env::outer)->h'.TracedAtW base e cls a0 (rawInt L)->s.heap.UpToSlots h'->Q () { s with heap:=h' }):wpAny M A (noteFrame (.ref e) env) Q E s:=by
 have up:s.heap.UpToSlots s.heap:=λb o hb _=>⟨o.slots,hb⟩
 by_cases hz:(fl==rawInt L)=true
 ·have z:=eq_of_beq hz;subst z;exact wpAny_noteFrame_againW hf ht (h s.heap hkb hl ht up)
 ·obtain⟨oe,vs,T,oT,ts,g1,⟨rfl,g2⟩,g3,g4,g5,g6,g7,U,g9⟩:=ht;unfold noteFrame;rw[hf];dsimp only;refine DX (wpAny_field g1 g3 g4 ?_);rw[DZ (by rfl)];refine DX (wpAny_field g7 U g9 ?_);rw[DY hz];refine DX (wpAny_setField g7 U (Array.getElem?_eq_some_iff.mp g9).1 ?_);have J:∀b,b≠T->(s.heap.update T (Obj.mapFields λx=>x.setIfInBounds 3 Value.none)).get? b=s.heap.get? b:=λb n=>Heap.get?_update_other _ _ n.symm
  have nr:∀b o,s.heap.get? b=some o->(∀vs,o.data≠.fields vs)->b≠T:=λb o p n z=>by
   subst z;rw[g7] at p;cases p;exact n _ U
  refine wpAny_entryW (s:={ s with heap:=s.heap.update T (Obj.mapFields λx=>x.setIfInBounds 3 Value.none) }) hfr (hl.of_keeps λb o p n=>⟨o,(J b (nr b o p n)).trans p,rfl⟩) hf ((J e g6.symm).trans g1) (λb o p=>?_) hen g3 (Array.getElem?_eq_some_iff.mp g4).1 g2 λh' x=>?_
  ·refine(J b λz=>?_).trans (hkb b o p);subst z;rw[g5] at p;cases p
  ·obtain⟨x1,x2,x3,x4⟩:=x;exact h h' x1 x2 x3 λb o p n=>x4 b o ((J b (nr b o p n)).trans p) n
theorem Gu {fr}(hl:s.heap.FunFrames base l)(ht:s.heap.TracedAtW base e cls a0 fl)(hkb:base.StaysIn s.heap)
  (h:∀h',base.StaysIn h'->h'.FunFrames base l->h'.TracedAtW base e cls a0 (fr.elim .none λf=>rawInt f)->s.heap.UpToSlots h'->Q () { s with heap:=h' }):wpAny M A (setFlight (.ref e) fr) Q E s:=by
 obtain⟨oe,vs,T,oT,ts,g1,⟨rfl,g2⟩,g3,g4,g5,g6,U,g8,g9⟩:=ht;have sz:3<ts.size:=(Array.getElem?_eq_some_iff.mp g9).1;unfold setFlight;refine DX (wpAny_field g1 g3 g4 ?_);rw[DZ (by rfl)];have J:∀b,b≠T->(s.heap.update T (Obj.mapFields λx=>x.setIfInBounds 3 (fr.elim Value.none λf=>rawInt f))).get? b=s.heap.get? b:=λb n=>Heap.get?_update_other _ _ n.symm
 have nr:∀b o,s.heap.get? b=some o->(∀vs,o.data≠.fields vs)->b≠T:=λb o p n z=>by
  subst z;rw[U] at p;cases p;exact n _ g8
 obtain⟨m1,m2⟩:=Gc (f:=λx=>x.setIfInBounds 3 (fr.elim Value.none λf=>rawInt ↑f)) g8;refine wpAny_setField U g8 sz (h _ (λb o p=>?_) (hl.of_keeps λb o p n=>⟨o,(J b (nr b o p n)).trans p,rfl⟩) ⟨oe,vs,T,_,_,(J e g6.symm).trans g1,⟨rfl,g2⟩,g3,g4,g5,g6,Ab _ U m2,m1,by simp[sz]⟩ λb o p n=>⟨o.slots,(J b (nr b o p n)).trans p⟩);refine(J b λz=>?_).trans (hkb b o p);subst z;rw[g5] at p;cases p
end
section
variable {X:Cx} {pins:List (Addr×Obj)} {σ:St} {H:Hp} {s:Shared} {cls fl:Value} {e:Addr} {h':Heap}
def AirF (X:Cx)(pins:List (Addr×Obj))(H:Hp)(h:Heap)(cls:Value)(e:Addr)(fl:Value):Prop:=
 ∃oe vs T oT ts a0,h.get? e=some oe/\(oe.cls=cls/\vs[0]?=some a0)/\oe.data=.fields vs/\vs[1]?=some (.ref T)/\T≠e/\h.get? T=some oT/\oT.data=.fields ts/\ts[3]?=some fl/\Z2 X pins H e/\Z2 X pins H T
theorem AirF.two (a:AirF X pins H h cls e fl):∃T a0,(∀b∈[e,T],Z2 X pins H b)/\(∀b∈[e,T],∀o,h.get? b=some o->∃vs,o.data=.fields vs)/\h.TracedAtW (ZZ X h [e,T]) e cls a0 fl:=by
 obtain⟨oe,vs,T,oT,ts,a0,h1,h2,h3,h4,h6,U,h8,h9,l1,l2⟩:=a;refine⟨T,a0,λb J=>?_,λb J o z=>?_,oe,vs,T,oT,ts,h1,h2,h3,h4,W.hideAll_none _ (CU _ (by simp)),h6,U,h8,h9⟩
 ·rcases Ca.mp J with rfl|J
  ·exact l1
  ·rw[D7.mp J];exact l2
 ·rcases Ca.mp J with rfl|J
  ·rw[h1] at z;cases z;exact⟨_,h3⟩
  ·rw[D7.mp J,U] at z;cases z;exact⟨_,h8⟩
theorem Uz {a0}(I:Inv X pins σ H s)(hx0:X.ex=[])(hex:∀b∈ex,Z2 X pins H b)(he:e∈ex)(fr:h'.FunFrames (ZZ X s.heap ex) X.stack)(tr:h'.TracedAtW (ZZ X s.heap ex) e cls a0 fl):AirF X pins H h' cls e fl:=by
 obtain⟨oe,vs,T,oT,ts,h1,h2,h3,h4,U,h6,h7,h8,h9⟩:=tr;refine⟨oe,vs,T,oT,ts,a0,h1,h2,h3,h4,h6,h7,h8,h9,hex e he,?_⟩;have nf:T∉IA X.stack:=λz=>by
  obtain⟨_,o,q,d⟩:=fr.mem z;rw[h7] at q;cases q;exact d _ h8
 have J:∀o,s.heap.get? T=some o->T∈ex:=λo q=>by
  by_cases z:T∈ex
  ·exact z
  ·rw[YZ q nf z] at U;cases U
 refine⟨?_,?_,λp hp z=>?_⟩
 ·cases q:s.heap.get? T with
  | none=>exact I.hok.none_of q
  | some o=>exact(hex T (J o q)).1
 ·cases q:X.s₀.heap.get? T with
  | none=>rfl
  | some o=>
   obtain⟨o',q'⟩:=I.base.there T o q (by rw[hx0];simp);rw[(hex T (J o' q')).2.1] at q;cases q
 ·have q:=(I.pin p hp).1;rw[z] at q;exact(hex T (J _ q)).2.2 p hp z
def Tw (X:Cx)(h h':Heap):Prop:=∀b o,h.get? b=some o->(∀vs,o.data≠.fields vs)->b∉IA X.stack->h'.get? b=some o
theorem Km {Q}(I:Inv X pins σ H s)(ow:QK X)(a:AirF X pins H s.heap cls e fl)(x:F3 e s.heap)
  (q:∀U,Inv X pins σ H { s with heap:=U }->AirF X pins H U cls e (rawInt X.env.locals)->F3 e U->Tw X s.heap U->Q () { s with heap:=U }):wpAny M X.A (noteFrame (.ref e) X.env) Q E s:=by
 obtain⟨T,a0,a5,a4,tr⟩:=a.two;have fs:=QT (ex:=[e,T]) I;have fr:=I.ok.frames;rw[ow.2.1] at fs fr;have w1:wpAny M X.A (noteFrame (.ref e) X.env) (λ_ s'=>∃U,s'={ s with heap:=U }/\Inv X pins σ H { s with heap:=U }/\AirF X pins H U cls e (rawInt X.env.locals)/\Tw X s.heap U) (λ_ _=>False) s:=by
  refine Lz (base:=ZZ X s.heap [e,T]) fr fs ow.2.2 tr Zv (Xg (by simp)) λU l1 l2 l3 l4=>⟨U,rfl,ZX I a5 a4 l1 l4,Uz I ow.1 a5 (by simp) (by rw[ow.2.1];exact l2) l3,λb o p n nf=>l1 b o (YZ p nf λz=>?_)⟩
  obtain⟨vs,z⟩:=a4 b z o p;exact n vs z
 have w2:wpAny M X.A (noteFrame (.ref e) X.env) (λ_ s'=>F3 e s'.heap) (λ_ _=>False) s:=by
  have fs:=QT (ex:=[]) I;rw[ow.2.1] at fs;exact Vr fr fs ow.2.2 x λh2 y=>y
 refine Cf (cj_noteFrame.any w1 w2) (λ_ s' ⟨⟨U,e1,J,a,st⟩,f⟩=>?_) λ_ _ z=>z.1.elim
 subst e1;exact q U J a f st
theorem Wz {Q}{fr}(I:Inv X pins σ H s)(ow:QK X)(a:AirF X pins H s.heap cls e fl)(x:F3 e s.heap)
  (q:∀U,Inv X pins σ H { s with heap:=U }->AirF X pins H U cls e (fr.elim .none λf=>rawInt f)->F3 e U->Q () { s with heap:=U }):wpAny M X.A (setFlight (.ref e) fr) Q E s:=by
 obtain⟨T,a0,a5,a4,tr⟩:=a.two;have fs:=QT (ex:=[e,T]) I;have w1:wpAny M X.A (setFlight (.ref e) fr) (λ_ s'=>∃U,s'={ s with heap:=U }/\Inv X pins σ H { s with heap:=U }/\AirF X pins H U cls e (fr.elim .none λf=>rawInt f)) (λ_ _=>False) s:=
  Gu (base:=ZZ X s.heap [e,T]) fs tr Zv λU l1 l2 l3 l4=>⟨U,rfl,ZX I a5 a4 l1 l4,Uz I ow.1 a5 (by simp) l2 l3⟩
 have w2:wpAny M X.A (setFlight (.ref e) fr) (λ_ s'=>F3 e s'.heap) (λ_ _=>False) s:=XC x λh3 y=>y
 refine Cf (cj_setFlight.any w1 w2) (λ_ s' ⟨⟨U,e1,J,a⟩,f⟩=>?_) λ_ _ z=>z.1.elim
 subst e1;exact q U J a f
theorem Gj {Q}(I:Inv X pins σ H s)(ow:QK X)(a:AirF X pins H s.heap cls e fl)(x:F3 e s.heap)
  (q:∀h'',Inv X pins σ H { s with heap:=h'' }->Air X pins H h'' cls e->F3 e h''->Q () { s with heap:=h'' }):wpAny M X.A (leaving X.env (.ref e)) Q E s:=
 DX (Km I ow a x λh1 I1 a1 U _=>Wz (s:={ s with heap:=h1 }) (fr:=none) I1 ow a1 U λh2 I2 a2 J=>q h2 I2 a2 J)
end
section
variable {X:Cx} {pins:List (Addr×Obj)} {σ:St} {H:Hp} {s:Shared} {cls fl:Value} {e:Addr} {h h':Heap} {E':XK}
def NB (X:Cx)(E':XK):Prop:=∀(pins:List (Addr×Obj)) (σ:St) (H:Hp) (s:Shared) (cls:Value) (e:Addr) (fl:Value),Inv X pins σ H s->AirF X pins H s.heap cls e fl->F3 e s.heap->E' cls none H->X.xe (.ref e) s
theorem Hg {N}{s0}{E}(hE:∀cls H,E' cls none H->E cls none H) :
  NB (Xi (CXn P w) P w K mg base N qual sc f cd A outer s0 H0 E) E':=λ_ _ _ _ _ _ _ I a x q=>Gj I Wh a x λ_ U a2 J=>Gw U a2 J (hE _ _ q)
theorem Vh {oc o}{vs}(hc:h.get? C=some oc)(nc:∀vs,oc.data≠.fields vs)(p:h.get? e=some o)(d:o.data=.fields vs):e≠C:=λz=>by
 subst z;rw[hc] at p;cases p;exact nc _ d
theorem AirF.but {oc}(a:AirF X pins H h cls e fl)(hc:h.get? C=some oc)(nc:∀vs,oc.data≠.fields vs)(sb:Heap.SameBut C h h'):AirF X pins H h' cls e fl:=by
 obtain⟨oe,vs,T,oT,ts,a0,h1,h2,h3,h4,h6,J,U,h9,l1,l2⟩:=a;exact⟨oe,vs,T,oT,ts,a0,(sb.2 _ (Vh hc nc h1 h3)).trans h1,h2,h3,h4,h6,(sb.2 _ (Vh hc nc J U)).trans J,U,h9,l1,l2⟩
theorem F3.but {oc}(x:F3 e h)(hc:h.get? C=some oc)(nc:∀vs,oc.data≠.fields vs)(sb:Heap.SameBut C h h'):F3 e h':=by
 obtain⟨o,vs,T,oT,ts,h1,h2,h3,h4,h5,J,U,h8⟩:=x;exact⟨o,vs,T,oT,ts,(sb.2 _ (Vh hc nc h1 h2)).trans h1,h2,h3,h4,h5,(sb.2 _ (Vh hc nc J U)).trans J,U,h8⟩
theorem HG {m}(I:Inv X pins σ H s)(ow:QK X)(ld:NB X E')(a:AirF X pins H s.heap cls e fl)(x:F3 e s.heap)(q:E' cls none H)(hn:s.heap.Ns C m)(fr:H C=none)(nL:C≠X.env.locals)
  (hz:X.s₀.heap.objs.size<=C) (cC:∀x c,X.env.cells.lookup x=some c->c≠C) (hp:∀p∈X.pn++pins,p.1≠C) (nf:C∉IA X.stack):ju X C (.ref e) s:=by
 obtain⟨oc,es,ep,ho,hd,r⟩:=hn;have J:∀vs,oc.data≠.fields vs:=λvs z=>by rw[hd] at z;cases z
 refine Km I ow a x λh1 I1 a1 x1 st=>⟨m,⟨oc,es,ep,st C oc ho J nf,hd,r⟩,λh' U a4 _=>?_⟩
 have hc:=st C oc ho J nf;have I2:Inv X pins σ H { s with heap:=h' }:=I1.turned (t':=s.toks) (λb o hb e=>(U.2 b hb).trans e) fr nL (.inr hz) cC hp;have a2:=a1.but hc J U;have x2:=x1.but hc J U;obtain⟨oe,vs,T,oT,ts,a0,g1,g2,g3,g4,g6,g7,g8,g9,l1,l2⟩:=id a2;unfold PySem.passOn;refine DX (wpAny_field g1 g3 g4 ?_);rw[DY (by intro z;cases z)];refine DX (Wz (s:={ s with heap:=h' }) I2 ow a2 x2 λh3 I3 a3 x3=>?_);exact wpAny_throw (ld _ _ _ _ _ _ _ I3 a3 x3 q)
theorem EB {cl}{N}{s2}(I2:Inv X pins σ H2 s2)(ow:QK X)(ld:NB X E')(f2:∀b∈fp,XT X pins H2 b)(hC:s2.heap.objs.size<=C) :
  ZI (CXn X.prog X.w) ((GC X scope cl N C s2 H2 fp).wish (ju X C)) E':=by
 intro a4 σb H7 s7 ev s' J c;obtain⟨ea,cls,H8,rfl,os,bare,un,a5,⟨oe,vs,T,oT,ts,a0,h1,h2,h3,h4,h5,h6,h7,h8,n1,n2⟩,f3,q⟩:=c;have J7:=J.unwish;have J8:Inv (GC X scope cl N C s2 H2 fp) a4 σb H8 s':=J7.call' (ch:=[]) os un a5 bare λb hb=>absurd hb (by simp)
 have I8:Inv X pins σ H8 s':=VC I2 f2 J8 hC (⟨rfl,λ_ _=>rfl⟩:Heap.SameBut C s'.heap s'.heap);have ls:∀b,H8 b=none->s7.heap.get? b=none->Z2 X pins H8 b:=λb hn ho=>by
  have no:∀o,s2.heap.get? b=some o->b∈fp:=λo z=>by
   by_cases hb:b∈fp
   ·exact hb
   ·obtain⟨o2,z2⟩:=J7.base.there b o z hb;rw[ho] at z2;cases z2
  refine⟨hn,?_,λp hp z=>?_⟩
  ·cases q:X.s₀.heap.get? b with
   | none=>rfl
   | some o=>
    obtain⟨o',z⟩:=I2.base.there b o q (by rw[ow.1];simp);rcases(f2 b (no o' z)).2.2.2.1 with w|w
    ·rw[ow.1] at w;cases w
    ·exact absurd (D5 q) (Ay.mpr w)
  ·have q:=(I2.pin p hp).1;rw[z] at q;exact(f2 b (no _ q)).2.2.2.2.2 p hp z
 have a:AirF X pins H8 s'.heap cls ea .none:=⟨oe,vs,T,oT,ts,a0,h1,h2,h3,h4,h5,h6,h7,h8,ls _ n1.1 n1.2,ls _ n2.1 n2.2⟩
 obtain⟨m,hn,_⟩:=J8.loc;have U:∀{z:Addr},z<s2.heap.objs.size->z≠C:=λq=>Cd (Cn q hC)
 refine HG I8 ow ld a f3 q hn J8.free (U I2.lt).symm (Co I2.sz hC) (λy c e=>?_) (λp hp=>U (D5 (I2.pin p hp).1)) λz=>?_
 ·obtain⟨v,q⟩:=I2.cell y c e;exact U q.lt
 ·rcases Ca.mp (I2.stkSub C z) with q|q
  ·exact U I2.lt q.symm
  ·exact I2.nofs hC q
end
section
variable {X:Cx}
theorem Lv {cl}{N}(ow:QK X)(ld:NB X E')(hc:X.calm=true)(O:ZQ X scope cl N caps)
  (hi:PI X tg iter wi) (hg:∀C s H ex,PG (GC X scope cl N C s H ex) tg g) (ht:∀C s H ex,gv (GC X scope cl N C s H ex) ifs tt)
  (he:∀C s H ex,ZI (CXn X.prog X.w) ((GC X scope cl N C s H ex).wish (ju X C)) E'->PE ((GC X scope cl N C s H ex).wish (ju X C)) elt te)
  (hs:∀v,foldedSetIterable iter X.env v=pure v:=by intro _;rfl):PE X (.ListComp elt [⟨tg,iter,ifs,0⟩] scope pos) (X1 caps wi g tt te):=λpins s σ H Q I h=>by
 rw[eval_ListComp];exact Jw hc O hi hg ht (λC s H ex I2 f2 hC=>he C s H ex (EB I2 ow ld f2 hC)) hs I h λJ hn q fr U hz cC hp=>⟨_,hn,λh' sb=>⟨.ref _,_,J.turned (λb o hb e=>(sb.2 b hb).trans e) fr U (.inr hz) cC hp,rfl,q⟩⟩
end
abbrev ZP (C t:Addr)(od:Option Addr):Obj:={ cls:=.ref C,dict:=od,data:=.fields #[.ref t,.none,.none,.none,.bool false,.none] }
abbrev Zi (h:Heap)(C:Addr)(us:List Value):Heap:=(h.push { cls:=.type "tuple",data:=.seq us.toArray }).push (ZP C h.objs.size none)
section
variable {prog:Program} {w:World} {A:Around} {E:Value->Shared->Prop} {h:Heap} {g:Array GenState} {d:Drawn} {t:Nat} {os:OsState} {nm q:Str} {C N:Addr} {bs bm bmB:List Value} {hdct:Bool} {sn:List Str} {sub:List Value} {ab:Bool} {col:Option Bool} {dd:Option Addr} {k0 k1 k2 k3 k5:Option Value} {B Bn newId nid initId inN:String} {bmN:List Value} {K:W.Frag} {f:Addr} {rest:List Value}
theorem JN (Fn:ExcBaseFacts Bn newId inN bmN)(hBn:bmB.contains (.type Bn)=true)(F:ExcBaseFacts B nid initId bmB)(T:OwnTail h bmB bm)(hC:h.get? C=some (excClassObj nm q C N bs bm hdct sn sub ab col dd k0 k1 k2 k3 k5 newId))(KX:K.In h)
  (hi:W.findIn K (.ref C) "__init__"=some (some (.ref f))) (hf:W.typeIn K (.ref f)=some (.type "function")) (hr:rest.length<=sizeLine) {Q}
  (h0:wpAny (model prog w) A (call (.ref f) (.ref (h.objs.size+1)::rest)) (λr s'=>r=.none/\Q (Fin.done (Flow.ret (.ref (h.objs.size+1)))) s') E { heap:=Zi h C rest,gens:=g,drawn:=d,toks:=t,os:=os }) :
  wpAny (model prog w) A (Builtin.«type.__call__» ⟨.ref C::rest,[]⟩) Q E { heap:=h,gens:=g,drawn:=d,toks:=t,os:=os }:=by
 have kp:∀b o,h.get? b=some o->(Zi h C rest).get? b=some o:=λb o e=>D8 _ (D8 _ e)
 have U:K.In (Zi h C rest):=KX.keeps kp;have a4:=kp _ _ hC;have J:(Zi h C rest).get? (h.objs.size+1)=some (ZP C h.objs.size none):=by
  have z:(h.push { cls:=.type "tuple",data:=.seq rest.toArray }).objs.size=h.objs.size+1:=Heap.size_push _ _;exact z▸Cz _ rfl
 unfold Builtin.«type.__call__»;dsimp only;refine wpAny_ite_false (by rfl) (DX ?_);unfold mroOf;refine DX ?_;refine DX (wpAny_load' hC (D3 (D3 ?_)));refine wpAny_ite_false (by rfl) (DX (wpAny_madeBy_exc hC (DX (D3 (DX (wpAny_holding (wpAny_call ?_)))))));refine codeAny_call_builtin_code (Code.quiet_builtin _ Fn.quiet) (wpAny_check_new_subU Fn hBn T hC (codeAny_exc_new_subU Fn hBn F T hC ?_ hr));dsimp only;unfold isInstance;refine DX (DX ?_);unfold typeOf;dsimp only;refine DX (wpAny_loadPart_at J (D3 (wpAny_isSubtype_exc a4 ?_)));rw[show(Value.ref C::bm).contains (Value.ref C)=true by simp];refine wpAny_ite_false (by rfl) (DX (wpAny_holding ?_));unfold callSpecial? specialOf;refine DX (DX ?_);unfold typeOf;dsimp only;refine DX (wpAny_loadPart_at J (D3 ?_));refine W.Looks.here (W.looks_findIn U hi) ?_;refine wpAny_holding (DX (W.Looks.here (W.bind_fn U _ hf) ?_));dsimp only;refine DX (Cf h0 (λr s' ⟨e,q⟩=>?_) λ_ _ z=>z);subst e;refine D3 ?_;dsimp only;refine wpAny_ite_false (by rfl) ?_;exact D3 q
theorem Yx (Fn:ExcBaseFacts Bn newId inN bmN)(hBn:bmB.contains (.type Bn)=true)(F:ExcBaseFacts B nid initId bmB)(T:OwnTail h bmB bm)(hC:h.get? C=some (excClassObj nm q C N bs bm hdct sn sub ab col dd k0 k1 k2 k3 k5 newId))(KX:K.In h)
  (hi:W.findIn K (.ref C) "__init__"=some (some (.ref f))) (hf:W.typeIn K (.ref f)=some (.type "function")) (hr:rest.length<=sizeLine) {R}
  (h0:codeAny (model prog w) (A.under (.builtin "type.__call__" ⟨.ref C::rest,[]⟩)) (.call (.ref f) ⟨.ref (h.objs.size+1)::rest,[]⟩) (W.InitBack (h.objs.size+1) R) { heap:=Zi h C rest,gens:=g,drawn:=d,toks:=t,os:=os }) :
  codeAny (model prog w) A (.call (.ref C) ⟨rest,[]⟩) R { heap:=h,gens:=g,drawn:=d,toks:=t,os:=os }:=by
 have U:=tc_lookup;have f2:=tc_bind (Value.ref C);have J:Shared.TypeIs { heap:=h,gens:=g,drawn:=d,toks:=t,os:=os } (.ref C) "type":=⟨_,hC,rfl⟩
 refine codeAny_of_tree ?_
 change wpAny _ _ (callAny (.ref C) ⟨rest,[]⟩) _ _ _
 unfold callAny;dsimp only;refine DX (wpAny_load' hC ?_)
 change wpAny _ _ (callAny.viaDunder (.ref C) ⟨rest,[]⟩) _ _ _
 unfold callAny.viaDunder;refine DX (wpAny_specialOf J U ?_);dsimp only;refine DX (wpAny_of_eq f2 (DX (D3 (wpAny_ite_true (by rfl) (D3 ⟨rfl,?_⟩)))));refine codeAny_call_builtin_at (Code.quiet_builtin _ (by kernel_rfl)) entry_typeCall (wpAny_check_type_call_sub hC ?_);refine JN Fn hBn F T hC KX hi hf hr (wpAny_call (C5 h0 λr s' z=>?_));unfold W.InitBack at z;split at z
 ·exact z
 ·exact z.elim
 ·exact z
end
def Vg:List Value->Bool
 | .ref _::r=>Vg r
 | l=>l==[.type "ValueError",.type "Exception",.type "BaseException",.type "object"]
theorem NK (self):refuseLoop self "__setattr__" [.type "ValueError",.type "Exception",.type "BaseException",.type "object"]=pure ():=by kernel_rfl
theorem Ke (self):∀{l},Vg l=true->refuseLoop self "__setattr__" l=pure ()
 | .ref c::r,h=>by
  rw[refuseLoop_ref];exact Ke self h
 | [],h=>by cases h
 | .type _::_,h=>by rw[eq_of_beq h];exact NK self
 | .none::_,h=>by cases eq_of_beq h
 | .ellipsis::_,h=>by cases eq_of_beq h
 | .notImplemented::_,h=>by cases eq_of_beq h
 | .bool _::_,h=>by cases eq_of_beq h
 | .int .. :: _,h=>by cases eq_of_beq h
 | .float .. :: _,h=>by cases eq_of_beq h
 | .str .. :: _,h=>by cases eq_of_beq h
 | .bytes .. :: _,h=>by cases eq_of_beq h
 | .builtin _::_,h=>by cases eq_of_beq h
structure Mu (K:W.Frag)(C:Addr):Prop where
 sa:W.findIn K (.ref C) "__setattr__"=some (some (.builtin "object.__setattr__"))
 mO:W.mroIn K C (.type "object")=some true
 cd:∃cd,W.clsIn K C=some cd/\Vg cd.mro=true/\cd.hasDict=true
section
variable {prog:Program} {w:World} {A:Around} {E:Value->Shared->Prop} {s:Shared} {K:W.Frag} {C x t:Addr} {name:Str} {v:Value}
theorem Pl {Q}(X:K.In s.heap)(Z:Mu K C)(hx:s.heap.get? x=some (ZP C t none))(ht:W.findIn K (.ref C) name=some none)
  (h:∀h',h'.get? x=some (ZP C t (some s.heap.objs.size))->h'.Ns1 s.heap.objs.size (λy=>if y=name then some v else none)->(∀b o,b≠x->s.heap.get? b=some o->h'.get? b=some o)->Q () { s with heap:=h',toks:=s.toks+2 }) :
  wpAny (model prog w) A (setAttr (.ref x) name v) Q E s:=by
 have SF:=F.store_object;obtain⟨cd,hc,ho,hd⟩:=Z.cd;have J:W.InstAt s.heap x (ZP C t none) C none:=⟨hx,rfl,rfl,trivial⟩
 refine W.set_plain X J Z.sa ?_;have L0:W.Looks (model prog w) s.heap (typeOf (.ref x)) (.ref C):=(W.Looks.ld hx).andThen .now;have sub:W.Looks (model prog w) s.heap (isInstance (.ref x) (.type "object")) true:=L0.andThen (W.looks_mroIn X Z.mO);refine codeAny_call_builtin SF.slot.plain SF.entry (W.check_slot SF.kind SF.split sub (SF.args (.ref x) (.str name s.toks) v) ?_);rw[W.osa_eq];refine DX ?_;unfold Builtin.ObjectAttr.refuseIfOverridden;refine DX (L0.at (DX ?_));have hm:W.Looks (model prog w) s.heap (mroOf (.ref C)) cd.mro:=(W.looks_clsIn X hc).andThen .now;refine hm.at ?_;refine wpAny_of_eq (t:=refuseLoop (.ref x) "__setattr__" cd.mro) (Ke _ ho) ?_;refine DX (L0.at (DX (W.Looks.at (W.looks_findIn X ht) (DX (D3 ?_)))));dsimp only;unfold Builtin.ObjectAttr.storeInOwnDict;refine DX (D3 (wpAny_ite_false (by rfl) (DX ?_)));unfold Builtin.ObjectAttr.ownDictForStores instanceDict;dsimp only;refine DX (wpAny_loadPart_at hx ?_);dsimp only;refine DX (W.Looks.at (W.looks_clsIn X hc) ?_);rw[hd];refine wpAny_ite_false (by rfl) (wpAny_ite_false (by rfl) (DX (wpAny_alloc (DX ?_))));have U:(s.heap.push { cls:=Value.type "dict",data:=Data.dict #[] }).get? x=some (ZP C t none):=D8 _ hx;have ae:(s.heap.push { cls:=Value.type "dict",data:=Data.dict #[] }).get? s.heap.objs.size=some { cls:=Value.type "dict",data:=Data.dict #[] }:=Cz _ rfl;have ne:x≠s.heap.objs.size:=Cd (D5 hx);refine wpAny_update U (D3 ?_);dsimp only;unfold Builtin.ObjectAttr.storeInDict;refine DX (D3 (DX ?_));have af:=Ab (λo:Obj=>{ cls:=o.cls,dict:=some s.heap.objs.size,data:=o.data,slots:=o.slots }) U rfl;have a8:=CW (λo:Obj=>{ cls:=o.cls,dict:=some s.heap.objs.size,data:=o.data,slots:=o.slots }) ne ae;have aa:∀b o,b≠x->s.heap.get? b=some o->((s.heap.push { cls:=Value.type "dict",data:=Data.dict #[] }).update x λo=>{ cls:=o.cls,dict:=some s.heap.objs.size,data:=o.data,slots:=o.slots }).get? b=some o:=λb o hb e=>
  CW _ (CP hb) (D8 _ e)
 generalize ((s.heap.push { cls:=Value.type "dict",data:=Data.dict #[] }).update x λo=>{ cls:=o.cls,dict:=some s.heap.objs.size,data:=o.data,slots:=o.slots })=h3 at *;have n0:h3.Ns1 s.heap.objs.size (λ_=>none):=Heap.Ns1.of_empty ⟨_,_,_,a8,rfl,(λe he=>absurd he (by simp)),λ_=>rfl⟩;refine wpAny_nsSet1 n0 λh' a5 a4=>?_
 obtain⟨oD,ag,ah,a7,a9,a6⟩:=a5.count (ns:=[name]) (Within.cons (ns:=[]) name v (λ_ z=>absurd rfl z));refine DX (wpAny_lookBehind a7 (by rw[a9];exact pastItsLine_dict (Co a6 (show 1<=sizeLine+1 by decide))) ?_);refine D3 (h _ ((a4.2 _ ne).trans af) a5 λb o h1 h2=>(a4.2 b (Cd (D5 h2))).trans (aa b o h1 h2))
theorem Pm {o}{expr}{Q}(X:K.In s.heap)(Z:Zs K C)(hh:W.hasDictIn K C=true)(hx:s.heap.get? a=some o)(hc:o.cls=.ref C)(hd:o.dict=some dx)(hno:W.notCls o=true)
    (hn:s.heap.Ns1 dx mA) (ha:W.findIn K (.ref C) name=some none) (hv:mA name=some v) (hv':W.handedIn v=true) (q:Q v { s with toks:=s.toks+1 }):wpAny (model prog w) A (getAttr (.ref a) name expr) Q E s:=by
  obtain⟨od,ho,hl⟩:=Kq hn;have J:W.InstAt s.heap a o C (some od):=⟨hx,hc,hno,by rw[hd];exact ho⟩
  have U:=W.InstAt.type (M:=model prog w) J;have L1:=W.looks_findIn (M:=model prog w) X Z.ga;have L2:=W.looks_findIn (M:=model prog w) X Z.gt;have L3:=W.looks_find (M:=model prog w) X J (W.findObj_own (v:=v) hh ha rfl (by rw[hl,hv]));have f3:=F.attr_ValueError.ga.bind (.ref a);obtain⟨h,g,d,t,os⟩:=s;unfold getAttr getAttrBy;refine DX (wpAny_mkText (wpAny_holding (DX (U.at (DX (L1.at ?_))))));dsimp only;rw[DY (show¬((onTheHeap (Value.ref C)&&Value.builtin "BaseException.__getattribute__" == Value.builtin "object.__getattribute__")=true) by
    rw[show(Value.builtin "BaseException.__getattribute__" == Value.builtin "object.__getattribute__")=false by decide +kernel,Aa];exact Cy)]
  unfold getAttrByItsOwn hookBefore;rw[DZ (show onTheHeap (Value.ref C)=true from rfl)];refine DX (L2.at ?_);refine DX (wpAny_attempt (wpAny_holding ?_));unfold callGetattribute;rw[DY (show¬((expr&&onTheHeap (Value.builtin "BaseException.__getattribute__"))=true) by rw[show onTheHeap (Value.builtin "BaseException.__getattribute__")=false from rfl,Aa];exact Cy)];unfold boundAndCalled;rw[f3];refine DX (D3 (wpAny_call ?_));refine codeAny_call_builtin F.attr_ValueError.ga.plain F.entry_bexc_ga (Kw Z X hx hc ?_);unfold Builtin.«object.__getattribute__»;refine DX (D3 ?_);dsimp only;refine DX (D3 (DX (U.at (DX (L3.at ?_)))));dsimp only;refine D3 ?_;dsimp only;rw[W.handedOut_of hv'];exact D3 q
end
def gw (H:Hp)(v:Value):Prop:=v=.none∨∃c cls,v=.ref c/\H c=some (.ext (Yb c cls))
def IP (H:Hp)(od:Option Addr)(e:Addr)(h:Heap):Prop:=∃o vs T oT ts,h.get? e=some o/\o.data=.fields vs/\(∃cx,vs[2]?=some cx/\gw H cx)/\vs[1]?=some (.ref T)/\T≠e/\h.get? T=some oT/\oT.data=.fields ts/\3<ts.size/\o.dict=od
abbrev Y1 (C t:Addr)(od:Option Addr)(cx cs sp:Value):Obj:={ cls:=.ref C,dict:=od,data:=.fields #[.ref t,.none,cx,cs,sp,.none] }
theorem EN {o}{vs}{f}(h:o.data=.fields vs):(Obj.mapFields f o).dict=o.dict:=by
 obtain⟨c,d,dt,sl⟩:=o;cases h;rfl
section
variable {M:Model} {A:Around} {E:Value->Shared->Prop} {s:Shared} {e:Addr} {od:Option Addr} {Q:Unit->Shared->Prop} {H:Hp}
theorem Yl {fr}(x:IP H od e s.heap)(q:∀h',IP H od e h'->Q () { s with heap:=h' }):wpAny M A (setFlight (.ref e) fr) Q E s:=by
 obtain⟨o,vs,T,oT,ts,h1,h2,h3,h4,h5,U,h7,h8,h9⟩:=x;unfold setFlight;refine DX (wpAny_field h1 h2 h4 ?_);rw[DZ (by rfl)];refine wpAny_setField U h7 h8 (q _ ?_);obtain⟨m1,m2⟩:=Gc (f:=λJ=>J.setIfInBounds 3 (fr.elim Value.none λf=>rawInt ↑f)) h7;refine⟨o,vs,T,_,_,?_,h2,h3,h4,h5,Ab _ U m2,m1,by simpa using h8,h9⟩;exact CW _ h5 h1
theorem Nl {hd}{b}(hf:A.frames=some (env::outer))(ff:s.heap.FunFrames base (env::outer))(hL:env.frame=some L){o}{vs}(h1:s.heap.get? e=some o)(h2:o.data=.fields vs)(U:∃cx,vs[2]?=some cx/\gw H cx)(h9:o.dict=od)
  (q:∀h',IP H od e h'->Q () { s with heap:=h' }):wpAny M A (do
    let a <-PySem.frameOf env
    let pl <-entryPlaceOf L b
    let x <-EntryCells.newEntry hd a Value.none (rawInt ↑L) Value.none pl
    setField (.ref e) 1 x) Q E s:=by
 refine DX (wpAny_frameOf_fun hf ff hL λh' so=>?_);obtain⟨sl,k1⟩:=so.2.2 e o h1;refine DX (wpAny_entryPlaceOf λpl hp=>DX ?_);unfold EntryCells.newEntry newFields;refine wpAny_newObj_type ?_ ?_
 ·have k2:∀ob:Obj,(h'.push ob).get? e=some { cls:=o.cls,dict:=o.dict,data:=o.data,slots:=sl }:=λob=>D8 _ k1
  obtain⟨cx,U,a5⟩:=U;have J:1<vs.size:=by
   have:=(Array.getElem?_eq_some_iff.mp U).1;omega
  refine wpAny_setField (k2 _) h2 J (q _ ?_);obtain⟨m1,m2⟩:=Gc (o:={ cls:=o.cls,dict:=o.dict,data:=o.data,slots:=sl }) (f:=λa4=>a4.setIfInBounds 1 (Value.ref h'.objs.size)) h2;have ne:h'.objs.size≠e:=λz=>absurd (D5 k1) (by rw[z];exact CB _)
  refine⟨_,_,h'.objs.size,_,_,Ab _ (k2 _) m2,m1,?_,?_,ne,CW _ ne.symm (Cz _ rfl),rfl,?_,?_⟩
  ·exact⟨cx,by rw[Array.getElem?_setIfInBounds_ne (by decide)];exact U,a5⟩
  ·rw[Array.getElem?_setIfInBounds_self_of_lt J]
  ·rw[CA,D0];show 3<5+_;omega
  ·exact(EN (o:={ cls:=o.cls,dict:=o.dict,data:=o.data,slots:=sl }) h2).trans h9
 ·show([hd,Value.ref L,Value.none,rawInt ↑L,Value.none]++_).toArray.size<=sizeLine+2;rcases hp with rfl|⟨_,_,_,_,_,_,_,rfl⟩
  ·show 11<=sizeLine+2
   decide
  ·show 11<=sizeLine+2
   decide
theorem L5 (hf:A.frames=some (env::outer))(ff:s.heap.FunFrames base (env::outer))(hL:env.frame=some L){o}{vs}(h1:s.heap.get? e=some o)(h2:o.data=.fields vs)(h3:∃cx,vs[2]?=some cx/\gw H cx)(h4:vs[1]?=some .none)(h9:o.dict=od)
  (q:∀h',IP H od e h'->Q () { s with heap:=h' }):wpAny M A (noteFrame (.ref e) env) Q E s:=by
 unfold noteFrame;rw[hL];refine DX (wpAny_field h1 h2 h4 ?_);exact Nl hf ff hL h1 h2 h3 h9 q
theorem Nm (hf:A.frames=some (env::outer))(ff:s.heap.FunFrames base (env::outer))(hL:env.frame=some L)(x:IP H od e s.heap)
  (q:∀h',IP H od e h'->Q () { s with heap:=h' }):wpAny M A (noteFrame (.ref e) env) Q E s:=by
 obtain⟨o,vs,T,oT,ts,h1,h2,h3,h4,h5,U,h7,h8,h9⟩:=id x;unfold noteFrame;rw[hL];refine DX (wpAny_field h1 h2 h4 ?_);dsimp only;rw[DZ (by rfl)];refine DX (wpAny_field U h7 (Array.getElem?_eq_getElem h8) ?_);split
 ·exact D3 (q _ x)
 ·refine DX (wpAny_setField U h7 h8 ?_);have k1:(s.heap.update T (Obj.mapFields λJ=>J.setIfInBounds 3 Value.none)).get? e=some o:=CW _ h5 h1;refine Nl (s:={ s with heap:=s.heap.update T (Obj.mapFields λJ=>J.setIfInBounds 3 Value.none) }) hf (Heap.FunFrames.of_keeps (λb ob hb nf=>?_) ff) hL k1 h2 h3 h9 q;have ne:T≠b:=λz=>by
   subst z;rw[U] at hb;cases hb;exact nf _ h7
  exact⟨ob,CW _ ne hb,rfl⟩
end
section
variable {X:Cx} {pins:List (Addr×Obj)} {σ:St} {H:Hp} {s:Shared} {od:Option Addr}
theorem Gi {t}{cs sp}{Q}(I1:Inv X pins σ H s)(ow:QK X)(lo:Z2 X pins H e)(he:s.heap.get? e=some (Y1 C t od cx cs sp))(hcx:gw H cx)
  (q:∀U,Inv X pins σ H { s with heap:=U }->Air X pins H U (.ref C) e->IP H od e U->Q () { s with heap:=U }):wpAny M X.A (leaving X.env (.ref e)) Q E s:=by
 have a4:∀b∈[e],Z2 X pins H b:=λb hb=>by
  rw[D7.mp hb];exact lo
 have fs:=QT (ex:=[e]) I1;have fr:=I1.ok.frames;rw[ow.2.1] at fs fr;have w1:wpAny M X.A (leaving X.env (.ref e)) (λ_ s'=>∃U,s'={ s with heap:=U }/\Inv X pins σ H { s with heap:=U }/\Air X pins H U (.ref C) e) (λ_ _=>False) s:=by
  refine wpAny_leaving_firstW (base:=ZZ X s.heap [e]) fr fs ow.2.2 he (Zv (s:=s)) (Xg (s:=s) (by simp)) rfl rfl rfl λU L=>?_
  obtain ⟨l1,l2,l3,l4⟩:=L;rw [<-ow.2.1] at l2;exact ⟨U,rfl,ZX I1 a4 (fun b hb o z=>by
   have w:=D7.mp hb;subst w;rw[he] at z;cases z;exact⟨_,rfl⟩) l1 l4,Yo I1 ow.1 a4 (by simp) l2 l3⟩
 have w2:wpAny M X.A (leaving X.env (.ref e)) (λ_ s'=>IP H od e s'.heap) (λ_ _=>False) s:=
  DX (L5 fr fs ow.2.2 he rfl ⟨cx,rfl,hcx⟩ rfl rfl λh2 x=>Yl (s:={ s with heap:=h2 }) x λh3 y=>y)
 refine Cf (cj_leaving.any w1 w2) (λ_ s' ⟨⟨U,e1,J,a⟩,f⟩=>?_) λ_ _ z=>z.1.elim
 subst e1;exact q U J a f
theorem NX {Q}(I:Inv X pins σ H s)(ow:QK X)(a:Air X pins H s.heap cls e)(x:IP H od e s.heap)
  (q:∀U,Inv X pins σ H { s with heap:=U }->Air X pins H U cls e->IP H od e U->Q () { s with heap:=U }):wpAny M X.A (leaving X.env (.ref e)) Q E s:=by
 have fs:=QT (ex:=[]) I;have fr:=I.ok.frames;rw[ow.2.1] at fs fr;have w1:=Ub (M:=M) (E:=λ_ _=>False) (Q:=λ_ s'=>∃U,s'={ s with heap:=U }/\Inv X pins σ H { s with heap:=U }/\Air X pins H U cls e) I ow a λU J a=>⟨U,rfl,J,a⟩
 have w2:wpAny M X.A (leaving X.env (.ref e)) (λ_ s'=>IP H od e s'.heap) (λ_ _=>False) s:=
  DX (Nm fr fs ow.2.2 x λh2 x=>Yl (s:={ s with heap:=h2 }) x λh3 y=>y)
 refine Cf (cj_leaving.any w1 w2) (λ_ s' ⟨⟨U,e1,J,a⟩,f⟩=>?_) λ_ _ z=>z.1.elim
 subst e1;exact q U J a f
end
def CXd (P:Program)(w:World):CXT:=λouter H s E e s'=>
 ∃ea cls od H',e=.ref ea/\s'.os=s.os/\AllBare s'.gens/\Un (IA outer) [] H H' s.heap s'.heap/\HOk P w H' s'.heap/\BI H' s'.heap s.heap cls ea/\IP H' od ea s'.heap/\E cls od H'
section
variable {X:Cx} {pins:List (Addr×Obj)} {σ:St} {H:Hp} {s s':Shared} {E:XK} {e:Value}
theorem CXd.here (I:Inv X pins σ H s)(hx:X.ex=[])(c:CXd X.prog X.w X.stack H s E e s'):∃ea cls od H',e=.ref ea/\Inv X pins σ H' s'/\Air X pins H' s'.heap cls ea/\IP H' od ea s'.heap/\E cls od H':=by
 obtain⟨ea,cls,od,H',h1,h2,h3,h4,h5,h6,f,q⟩:=c;have J:CXr X.prog X.w X.stack H s (λJ n' H2=>J=cls/\H2=H'/\e=.ref ea) e s':=⟨ea,cls,H',h1,h2,h3,h4,h5,h6,rfl,rfl,h1⟩
 obtain⟨a4,U,H2,e1,I2,a,rfl,rfl,e2⟩:=CXr.here I hx J;rw[e1] at e2;cases e2;exact⟨_,_,_,_,e1,I2,a,f,q⟩
end
def VG (X:Cx)(E:XK):Prop:=∀(pins:List (Addr×Obj)) (σ:St) (H:Hp) (s:Shared) (e C t:Addr) (od:Option Addr) (cx cs sp:Value),Inv X pins σ H s->Z2 X pins H e->s.heap.get? e=some (Y1 C t od cx cs sp)->gw H cx->E (.ref C) od H->X.xe (.ref e) s
section
variable {P:Program} {w:World} {K:W.Frag} {mg:Str->Option Value} {base:Heap} {N:List Str} {qual:Str} {sc:Scope} {f:Addr} {cd:Value} {A:Around} {outer:List Env} {s0:Shared} {H0:Hp} {E:XK}
theorem Bi (I:Inv (Xi (CXd P w) P w K mg base N qual sc f cd A outer s0 H0 E) pins σ H s)(a:Air (Xi (CXd P w) P w K mg base N qual sc f cd A outer s0 H0 E) pins H s.heap cls e)(x:IP H od e s.heap)(q:E cls od H):CXd P w outer H0 s0 E (.ref e) s:=by
 obtain⟨oe,vs,T,oT,ts,a0,h1,h2,h3,h4,U,h7,h8,h9,l1,J⟩:=a;exact⟨e,cls,od,H,rfl,I.os,I.bare,I.base,I.hok,⟨oe,vs,T,oT,ts,a0,h1,h2,h3,h4,U,h7,h8,h9,⟨l1.1,l1.2.1⟩,⟨J.1,J.2.1⟩⟩,x,q⟩
theorem EC (hE:∀cls od H,E' cls od H->E cls od H):ZI (CXd P w) (Xi (CXd P w) P w K mg base N qual sc f cd A outer s0 H0 E) E':=by
 intro pins σ H s e s' I c;obtain⟨ea,cls,od,H',rfl,I',a,x,q⟩:=CXd.here I rfl c;exact NX I' Wh a x λU I2 a2 J=>Bi I2 a2 J (hE _ _ _ q)
theorem U1:VG (Xi (CXd P w) P w K mg base N qual sc f cd A outer s0 H0 E) E:=λ_ _ _ _ _ _ _ _ _ _ _ I lo he J q=>Gi I Wh lo he J λ_ I2 a2 U=>Bi I2 a2 U q
end
def Xp (e C:Addr)(od:Option Addr)(h:Heap):Prop:=∃t,h.get? e=some (ZP C t od)
def XD (d:Addr)(fs:List (Str×V))(h:Heap):Prop:=∃mA,h.Ns1 d mA/\(∀f,RelO (fs.lookup f) (mA f))/\PySem.Within mA (fs.map (·.1))
def ExcD (e:Addr)(cls:Value)(od:Option Addr)(cx:Value)(h:Heap):Prop:=∃o vs,h.get? e=some o/\o.cls=cls/\o.data=.fields vs/\vs[2]?=some cx/\o.dict=od
def Ys (H:Hp)(a:Addr):Hp:=λb=>if b=a then none else H b
theorem Ym:Ys H a a=none:=by unfold Ys;rw[DZ rfl]
theorem Yn {b}(h:b≠a):Ys H a b=H b:=by unfold Ys;rw[DY h]
theorem Vt (x:Xp e C od h):ObjOk P w H h e (.ext (Xp e C od)):=by
 obtain⟨t,hx⟩:=id x;exact⟨x,⟨_,hx⟩,λh1 h2 ⟨t,y⟩ k=>⟨t,k _ y⟩⟩
theorem Fm {fs}(x:XD d fs h):ObjOk P w H h d (.ext (XD d fs)):=by
 obtain⟨mA,⟨o,es,J,e,r⟩,_⟩:=id x;exact⟨x,⟨o,e⟩,λh1 h2 ⟨m,⟨o,es,J,e,r⟩,z⟩ k=>⟨m,⟨o,es,J,k _ e,r⟩,z⟩⟩
theorem XR {φ}(x:HOk P w H h)(e:H a=some (.ext φ)):φ h:=(show ObjOk P w H h a (.ext φ) from x a _ e).1
section
variable {X:Cx} {pins:List (Addr×Obj)} {σ:St} {H:Hp} {s:Shared} {e C d:Addr} {od:Option Addr}
theorem Inv.untrack {φ}(I:Inv X pins σ H s)(he:H e=some (.ext φ))(h0:X.s₀.heap.get? e=none):Inv X pins σ (Ys H e) s:=by
 have fr:∀b,H b=none->Ys H e b=none:=λb z=>by
  unfold Ys;split
  ·rfl
  ·exact z
 have J:∀b u,H b=some u->(∀φ,u≠.ext φ)->Ys H e b=some u:=λb u z n=>by
  rw[Yn (λq=>by subst q;rw[he] at z;cases z;exact n _ rfl)];exact z
 refine⟨I.ok,I.os,I.bare,⟨I.base.keep,I.base.slot,λb o q n U=>fr _ (I.base.free b o q n U),I.base.there,λb xs q=>J _ _ (I.base.tups b xs q) (λ_ z=>nomatch z),λb o u q=>J _ _ (I.base.frzs b o u q) (λ_ z=>nomatch z),λb ps q=>?_⟩,I.loc,I.cell,fr _ I.free,λx c q=>fr _ (I.freeC x c q),λp hp=>?_,λb u q=>?_,I.len⟩
 ·obtain⟨m,z⟩:=I.base.tbls b ps q;exact⟨m,J _ _ z (λ_ z=>nomatch z)⟩
 ·obtain⟨a1,a2,a3⟩:=I.pin p hp;exact⟨a1,fr _ a2,a3⟩
 ·have hb:b≠e:=λz=>by subst z;rw[Ym] at q;cases q
  rw[Yn hb] at q;exact(I.hok b u q).stay (λ_ _ _ q=>q) (λc q=>J _ _ q (λ_ z=>nomatch z)) λc xs q=>J _ _ q (λ_ z=>nomatch z)
end
def Ee (K:W.Frag)(ta tv:TE)(f:Str):TS:=λD σ H=>tv σ H λv H1=>ta σ H1 λx H2=>∃e C,x=.ref e/\H2 e=some (.ext (Xp e C none))/\Mu K C/\NoAttr K C f /\
 ∀d,H2 d=none->d≠e->D.nx σ (upd (upd H2 e (.ext (Xp e C (some d)))) d (.ext (XD d [(f,v)])))
section
variable {X:Cx} {o value:Expr} {ta tv:TE} {f:Str} {pos pos':Pos}
theorem G2 (K)(hK:X.K=K)(ha:PE X o ta)(hv:PE X value tv)(hs:swapsWith value (some (.Attribute o f pos')) pos.line X.env=pure false:=by rfl):PS X (.Assign [.Attribute o f pos'] value pos) (Ee K ta tv f):=by
 subst hK;intro pins s σ H D I h;refine AH (A4 (hv pins s σ H _ I h) λu s1 ⟨y,H1,I1,ry,q⟩=>A4 (ha pins s1 σ H1 _ I1 q) λov s2 ⟨x,H2,U,rx,e,C,ex,he,Z,n,q2⟩=>?_) hs;subst ex;obtain rfl:ov=Value.ref e:=rx;obtain⟨t,hx⟩:=XR U.hok he;have a4:=D5 hx;refine Pl U.kIn Z hx n λh' k1 k2 k3=>?_
 have hd:H2 s2.heap.objs.size=none:=U.hok.fresh (D2 _);have ne:s2.heap.objs.size≠e:=(Cd a4).symm;have I3:Inv X pins σ (upd H2 e (.ext (Xp e C (some s2.heap.objs.size)))) { s2 with heap:=h',toks:=s2.toks+2 }:=
  U.write (t':=s2.toks+2) (by rw[he];exact trivial) (.inl rfl) (λb u hb e=>k3 b u hb e) ⟨_,k1⟩ (Vt ⟨t,k1⟩)
 refine⟨σ,_,I3.track (o:=.ext (XD s2.heap.objs.size [(f,y)])) U.sz (by rw[Qj ne];exact hd) (AC U.lt) (λy c e z=>?_) (λp hp z=>?_) (Fm ⟨_,k2,λg=>?_,λg J=>?_⟩),q2 _ hd ne⟩
 ·obtain⟨v,q⟩:=U.cell y c e;exact CB _ (z▸q.lt)
 ·exact CB _ (z▸D5 (U.pin p hp).1)
 ·show RelO (List.lookup g [(f,y)]) (if g=f then some u else none);by_cases J:g=f
  ·rw[DZ J];have hb:(g==f)=true:=beq_iff_eq.mpr J;simp only[List.lookup,hb];exact ry
  ·rw[DY J];have hb:(g==f)=false:=beq_eq_false_iff_ne.mpr J;simp only[List.lookup,hb];exact trivial
 ·show g∈[f];have J:(if g=f then some u else none)≠none:=J;by_cases hh:g=f
  ·rw[hh];exact D7.mpr rfl
  ·rw[DY hh] at J;exact absurd rfl J
end
def M1 (K:W.Frag)(ta:TE)(f:Str):TE:=λσ H Q=>ta σ H λx H1=>∃a C d fs v cx,x=.ref a/\H1 a=some (.ext (ExcD a (.ref C) (some d) cx))/\H1 d=some (.ext (XD d fs))/\Zs K C/\Mu K C/\NoAttr K C f/\fs.lookup f=some v/\Q v H1
theorem G6 (K){X}{e}{ta}{f}{pos}(hK:X.K=K)(he:PE X e ta)(hb:attributeBase e f X.env (eval e X.env)=eval e X.env:=by rfl):PE X (.Attribute e f pos) (M1 K ta f):=by
 subst hK;intro pins s σ H Q I h;refine Nx hb (A4 (he pins s σ H _ I h) fun u s1 ⟨x,H1,J,rx,a,C,d,fs,v,cx,ex,ea,ed,Z,Y,n,l,q⟩=>?_);subst ex;obtain rfl:u=Value.ref a:=rx;obtain ⟨o,vs,k1,k2,k3,_,k4⟩:=XR J.hok ea;obtain ⟨mA,m1,m2,_⟩:=XR J.hok ed;obtain ⟨u,hu,U⟩:=RelO.some_of (show RelO (some v) (mA f) by rw [<-l];exact m2 f);obtain ⟨cd,hc,_,hd⟩:=Y.cd;refine Pm J.kIn Z (by unfold W.hasDictIn;rw [hc];exact hd) k1 k2 k4 (by obtain ⟨c,dd,dt,sl⟩:=o;cases k3;rfl) m1 n hu (Kt U) ⟨v,H1,J.tok _,U,q⟩
structure RoomA (k:Nat)(A:Around):Prop where
 dp:A.depth+3*k+5<recursionLimit
 un:A.units+16*k+200<cLine
theorem Room.any {k:Nat}(r:Room k A):RoomA k A:=⟨r.dp,r.un⟩
theorem RoomA.deeper {k:Nat}(r:RoomA (k+1) A)(env):RoomA k (A.deeper env):=
 ⟨by have:=r.dp;show A.depth+1+3*k+5<_;omega,by have:=r.un;show A.units+3+16*k+200<_;omega⟩
theorem RoomA.make {k:Nat}(r:RoomA (k+1) A)(C)(us)(kw:List (Str×Value)):RoomA k (A.under (.builtin "type.__call__" ⟨.ref C::us,kw⟩)):=
 ⟨by have:=r.dp;rw[Jj];omega,by have:=r.un;rw[Ji];omega⟩
structure FnOkA (P:Program)(w:World)(K:W.Frag)(mg:Str->Option Value)(base:Heap)(k:Nat)(f:Addr)(fd:FuncData)(ps:List Str)(sp:Sp):Prop where
 len:∀vs H Q E,sp vs H Q E->vs.length=ps.length
 run:∀(A:Around) (outer:List Env) (s:Shared) (H:Hp) (args:Args) (us:List Value) (vs:List V) (Q:VK) (E:XK),RoomA k A->Env0 P w K mg base A outer s H->BindsTo s fd args (ps.zip us)->Vals vs us->sp vs H Q E ->
  codeAny (model P w) A (.call (.ref f) args) (CR Ih outer P w H s Q E) s
theorem FnOkA.imp {k:Nat}{sp sp'}(F:FnOkA P w K mg base k f fd ps sp)
  (h:∀vs H Q E,sp' vs H Q E->sp vs H Q E):FnOkA P w K mg base k f fd ps sp':=
 ⟨λvs H Q E q=>F.len vs H Q E (h _ _ _ _ q),λA outer s H J us vs Q E hr he U hv hs=>F.run A outer s H J us vs Q E hr he U hv (h _ _ _ _ hs)⟩
section
variable {P:Program} {w:World} {K:W.Frag} {mg:Str->Option Value} {base:Heap}
theorem Fun.okA {x}{N}{k:Nat}{sp}(F:Fun K x qual st f fd)(S:QW N ps (Qm st))(len:∀vs H Q E,sp vs H Q E->vs.length=ps.length)
  (hbody:∀(cdv:Value) (A:Around) (outer:List Env) (s:Shared) (H:Hp) (vs:List V) (Q:VK) (E:XK),RoomA k (A.deeper (envOfC qual (Qm st) s.heap.objs.size f cdv))->sp vs H Q E ->
   ∃t,PSs (ib P w K mg base N qual (Qm st) f cdv A outer s H) (QN st) t/\t { nx:=λ_ H'=>Q .non H',rt:=Q } (start N vs) H):FnOkA P w K mg base (k+1) f fd ps sp:=by
 obtain⟨oc,od,kV,doc,pm,an,cdv,ct,a8,rfl,lk,a5⟩:=F.ex;refine⟨len,λA outer s H a7 us vs Q E hr e0 hb r a4=>?_⟩;have hl:=len _ _ _ _ a4;have KX:K.In s.heap:=e0.mod.kin.keeps λb o e=>(e0.bs b o e).1
 have a6:s.heap.NoLimit:=e0.mod.nolimit.keeps λb o e=>(e0.bs b o e).1
 have U:∀y∈ps.zip us,(Qm st).names.lookup y.1=some .local∨((Qm st).names.lookup y.1=some .cell/\((cellsFrom (s.heap.objs.size+1) (Qm st).names []).lookup y.1).isSome=true):=λ⟨n,v⟩ hy=>by
  rcases S.par n (List.of_mem_zip hy).1 with q|q
  ·exact .inl q
  ·exact .inr ⟨q,W.cellsFrom_some _ _ _ (.inl q)⟩
 refine codeAny_call_function (show A.depth<recursionLimit by have:=hr.dp;omega) (KX _ _ lk) rfl S.co S.gen rfl (W.codeRec_of KX a5) (hb _ _ _ _ ?_);refine wpAny_newFunctionEnv_cells S.kind U λenv he s1 x=>?_
 subst he;refine⟨a6.keeps x.toInCall.keep,codeAny_func ?_⟩;obtain⟨t,ht,hq⟩:=hbody cdv A outer s H vs Q E (hr.deeper _) a4;have I:Inv (ib P w K mg base N qual (Qm st) f cdv A outer s H) [] (start N vs) H s1:=Jq S e0 hl r x;refine Cf (ht [] s1 (start N vs) H _ I hq) (λfl s' hs=>?_) λe s' hs=>AS hs
 have fin:∀{σ':St} {H':Hp} {v:V} {u:Value},Inv (ib P w K mg base N qual (Qm st) f cdv A outer s H) [] σ' H' s'->RelV v u->Q v H'->CE outer P w H s Q u s':=
  λ{σ' H' v u} J rv q=>⟨v,H',J.os,J.bare,J.base,J.hok,rv,q⟩
 cases fl with
 | ret u=>
  obtain⟨v,σ',H',J,rv,q⟩:=hs;exact fin J rv q
 | next=>
  obtain⟨σ',H',J,q⟩:=hs;exact fin (v:=V.non) (u:=Value.none) J rfl q
 | brk=>
  obtain⟨_,_,_,q⟩:=hs;exact AS q
 | cont=>
  obtain⟨_,_,_,q⟩:=hs;exact AS q
end
def Vs (K:W.Frag)(C:Addr):Bool:=
 match K.lookup C with
 | some ⟨.type "type",_,.cls cd,sl⟩=>
  match cd.mro,sl.toList with
  | .ref C' :: bm,[_,_,_,_,some (.builtin n),_]=>C' == C&&n=="ValueError.__new__"&&!cd.hasDel&&W.tailIn K Mr bm
  | _,_=>false
 | _=>false
structure oi (K:W.Frag)(C f:Addr):Prop where
 makes:Vs K C=true
 init:W.findIn K (.ref C) "__init__"=some (some (.ref f))
 fn:W.isFn K (.ref f)=true
 kp:W.keepIn K (.ref C)=true
structure BJ (P:Program)(w:World)(K:W.Frag)(mg:Str->Option Value)(base:Heap)(k:Nat)(C:Addr)(ps:List Str)(sp:Sp):Prop where
 ex:∃(f:Addr) (fd:FuncData),FnOkA P w K mg base k f fd ps sp/\Binds K fd ps []/\oi K C f
theorem U8 {nm q}{N}{bs bm}{hdct}{sn}{sub}{ab}{col}{dd}{k0 k1 k2 k3 k5}{newId}{x}{Q} 
  (hbase:bm.contains (.type "BaseException")=true) (hh:A.handled=none)
  (h:wpAny M A x (λv J=>∃e t od,v=.ref e/\J.heap.get? C=some (excClassObj nm q C N bs bm hdct sn sub ab col dd k0 k1 k2 k3 k5 newId)/\J.heap.get? e=some (ZP C t od)/\E (.ref e) J) E s):wpAny M A (raiseStmt env (some x) none) Q E s:=by
 have U:(Value.ref C::bm).contains (.type "BaseException")=true:=by rw[List.contains_cons,hbase,Bool.or_true]
 unfold raiseStmt;dsimp only;refine DX (Cf h (λv J ⟨e,t,od,ev,hC,he,hE⟩=>?_) λ_ _ z=>z);subst ev;obtain⟨hp,g,d,tk,os⟩:=J;refine DX (D3 (DX (wpAny_holding ?_)));unfold excFromValue isExcClass isType loadHead;dsimp only;refine DX (DX (DX (wpAny_loadPart_at he (D3 (wpAny_ite_false (by rfl) (D3 (wpAny_ite_false (by rfl) (DX ?_))))))));unfold isInstance typeOf;dsimp only;refine DX (DX (wpAny_loadPart_at he (D3 (wpAny_isSubtype_exc hC ?_))));rw[U];refine wpAny_ite_true (by rfl) (D3 ?_);refine DX (DX (wpAny_loadPart_at he (D3 (wpAny_ite_false (by rfl) (DX ?_)))));unfold raisedInstance typeOf;dsimp only;refine DX (DX (wpAny_loadPart_at he (D3 (DX (DX (wpAny_loadPart_at hC (D3 (wpAny_ite_true (by rfl) (D3 (DX ?_))))))))));unfold setFlight;refine DX (wpAny_field he rfl rfl (wpAny_ite_false (by rfl) (D3 ?_)));exact wpAny_raiseNew_none hh hE
def GM (E:XK)(C:Addr)(sp:Sp)(t:TA):TS:=λ_ σ H=>t σ H λvs H1=>vs.length<=sizeLine/\∀x,H1 x=none->sp (.ref x::vs) (upd H1 x (.ext (Xp x C none))) (λv H2=>v=.non/\∃od,H2 x=some (.ext (Xp x C od))/\E (.ref C) od (Ys H2 x)) E0
section
variable {X:Cx} {E:XK} {x:Str} {C:Addr} {k:Nat} {ps:List Str} {sp:Sp} {np cpos pos:Pos} {e₀:Expr} {rest:List Expr} {t:TA}
theorem Kh (th:VG X E)(hx0:X.ex=[])(hc:X.calm=true)(G:BJ X.prog X.w X.K X.mg X.base k C ps sp)(hr:Room (k+1) X.A)(hg:Gl X x)(hm:X.mg x=some (.ref C))(ha:PA X (e₀::rest) t)
  (he:starEach (e₀::rest) X.env=(false,eval e₀ X.env)::starEach rest X.env:=by rfl) (hpl:(backTo cpos (starEach rest X.env)).any (·.1)=false:=by rfl) (hd:(x==("__debug__":Str))=false:=by decide) :
  PS X (.Raise (some (.Call (.Name x np) (e₀::rest) [] cpos)) none pos) (GM E C sp t):=by
 intro pins s σ H D I h;obtain⟨f,fd,F,b,M⟩:=G.ex;have q:=M.makes;unfold Vs at q;split at q
 ·rename_i dd af sl ho;split at q
  ·rename_i C' bm k0 k1 k2 k3 n k5 a7 hs;simp only[CV,beq_iff_eq,As] at q;obtain⟨⟨⟨rfl,rfl⟩,a5⟩,ht⟩:=q;obtain⟨nm,bs,ai,ns,qn,ae,sn,sub,ab,col,aj⟩:=af;dsimp only at a7 a5;subst a7 a5;have ah:sl=#[k0,k1,k2,k3,some (.builtin "ValueError.__new__"),k5]:=by
    obtain⟨l⟩:=sl;simp only at hs;rw[hs]
   subst ah;have FB:=AM;have T0:OwnTail s.heap Mr bm:=W.tail_of_in I.kIn ht;rw[arm_exec_Raise];refine DX (wpAny_standAt (U8 (nm:=nm) (q:=qn) (C:=C') (N:=ns) (bs:=bs) (bm:=bm) (hdct:=ae) (sn:=sn) (sub:=sub) (ab:=ab) (col:=col) (dd:=dd) (k0:=k0) (k1:=k1) (k2:=k2) (k3:=k3) (k5:=k5) (newId:="ValueError.__new__") (T0.hasType FB.hasBase) (I.ok.hd hc) (DX (Cf (Q:=λv s₁=>∃e t od,v=.ref e/\s₁.heap.get? C'=some (excClassObj nm qn C' ns bs bm ae sn sub ab col dd k0 k1 k2 k3 k5 "ValueError.__new__")/\s₁.heap.get? e=some (ZP C' t od)/\X.xe (.ref e) s₁) ?_ (λv s' h=>DX (wpAny_standAt (D3 h))) λ_ _ z=>z))));refine Ae (Zo I hg hm ?_ hd);refine W.callWith_K (h₀:=X.base) I.ok.mod.kin M.kp (A4 (ha cpos pins s σ H _ I h) λus J ⟨vs,H1,I1,r,hz,q⟩=>⟨I1.kIn,?_⟩) he hpl;have T1:OwnTail J.heap Mr bm:=W.tail_of_in I1.kIn ht;have ag:H1 (J.heap.objs.size+1)=none:=I1.hok.fresh (CY _);have q1:=q _ ag;have kp:∀b o,J.heap.get? b=some o->(Zi J.heap C' us).get? b=some o:=λb o e=>D8 _ (D8 _ e)
   have a9:(Zi J.heap C' us).get? (J.heap.objs.size+1)=some (ZP C' J.heap.objs.size none):=by
    have z:(J.heap.push { cls:=.type "tuple",data:=.seq us.toArray }).objs.size=J.heap.objs.size+1:=Heap.size_push _ _;exact z▸Cz _ rfl
   have I2:Inv X pins σ (upd H1 (J.heap.objs.size+1) (.ext (Xp (J.heap.objs.size+1) C' none))) { J with heap:=Zi J.heap C' us }:=I1.laid (t':=J.toks) kp (CY _) (Vt ⟨_,a9⟩);have r2:Vals (V.ref (J.heap.objs.size+1)::vs) (Value.ref (J.heap.objs.size+1)::us):=.cons rfl r;have hl:(Value.ref (J.heap.objs.size+1)::us++[]).length=ps.length:=by
    rw[Cs];have e:=r2.length;rw[F.len _ _ _ _ q1] at e;exact e.symm
   have a8:=b { J with heap:=Zi J.heap C' us } (Value.ref (J.heap.objs.size+1) :: us) I2.kIn hl;rw [Cs] at a8;obtain ⟨U,g1,d1,t1,ak⟩:=J;refine wpAny_call (Yx FB (by decide +kernel) FB T1 (I1.kIn _ _ ho) I1.kIn M.init (beq_iff_eq.mp M.fn) (show us.length<=sizeLine by rw [<-r.length];exact hz) ?_);refine C5 (F.run _ X.stack _ _ ⟨Value.ref (U.objs.size+1) :: us,[]⟩ (Value.ref (U.objs.size+1) :: us) _ _ E0 (hr.make C' us []).any (I2.env0.make C' us []) a8 r2 q1) fun r s' a4=>?_
   cases r with
   | error e=>exact AS a4
   | ok fl=>
    cases fl with
    | ret u=>
     obtain⟨v,H',I3,rv,ev,od,aa,q3⟩:=I2.after a4;subst ev;obtain⟨tt,a6⟩:=XR I3.hok aa;have new:X.s₀.heap.get? (U.objs.size+1)=none:=by
      cases q:X.s₀.heap.get? (U.objs.size+1) with
      | none=>rfl
      | some o=>
       have z1:=D5 q;have z2:X.s₀.heap.objs.size<=U.objs.size:=I1.sz;exact absurd (Cn z1 z2) (Ay.mpr (CY _))
     have I4:=I3.untrack aa new;refine⟨rv,U.objs.size+1,tt,od,rfl,I3.kIn _ _ ho,a6,th pins σ _ s' _ _ tt od _ _ _ I4 ⟨Ym,new,λp hp z=>?_⟩ a6 (.inl rfl) q3⟩;have z3:=D5 (I1.pin p hp).1;have z4:p.1<U.objs.size:=z3;exact absurd z4 (Ay.mpr (by rw[z];exact CY _))
    | next=>exact AS a4
    | brk=>exact AS a4
    | cont=>exact AS a4
  ·cases q
 ·cases q
end
end L2
namespace L2
open Spec PyProof.Rows W Builtin Builtin.ObjectAttr Builtin.Getset_descriptor
structure HR (P:Program)(w:World)(K:W.Frag)(mg:Str->Option Value)(base:Heap)(k:Nat)(name:Str)(ps:List Str)(sp:Sp):Prop where
 ex:∃(f:Addr) (fd:FuncData),FnOk P w K mg base (CXd P w) k f fd ps sp/\Binds K fd ps []/\W.keepIn K (.ref f)=true/\mg name=some (.ref f)
structure BK (P:Program)(w:World)(K:W.Frag)(mg:Str->Option Value)(base:Heap)(k:Nat)(C:Addr)(m:Str)(ps:List Str)(sp:Sp):Prop where
 ex:∃(f:Addr) (fd:FuncData),FnOk P w K mg base (CXd P w) k f fd ps sp/\Binds K fd ps []/\BF K C m f
def nQ (X:Cx)(pins:List (Addr×Obj))(σ:St)(E:XK)(ev:Value)(s':Shared):Prop:=∃ea cls od H',ev=.ref ea/\Inv X pins σ H' s'/\Air X pins H' s'.heap cls ea/\IP H' od ea s'.heap/\E cls od H'
def PD (X:Cx)(e:Expr)(t:TX):Prop:=
 ∀(pins:List (Addr×Obj)) (s:Shared) (σ:St) (H:Hp) (Q:VK) (E:XK),Inv X pins σ H s->t σ H Q E->wpAny (model X.prog X.w) X.A (eval e X.env) (EP X pins σ Q) (nQ X pins σ E) s
def mn (X:Cx)(sts:List Stmt)(t:QO->XK->St->Hp->Prop):Prop:=
 ∀(pins:List (Addr×Obj)) (s:Shared) (σ:St) (H:Hp) (D:QO) (E:XK),Inv X pins σ H s->t D E σ H->wpAny (model X.prog X.w) X.A (execs sts X.env) (SP X pins D) (nQ X pins σ E) s
section
variable {X:Cx} {k:Nat} {C:Addr} {m:Str} {ps:List Str} {sp:Sp} {x name:Str} {p pos apos:Pos} {o e:Expr} {es:List Expr} {t:TA} {ta:TE} {E:XK}
theorem K9 (C:HR X.prog X.w X.K X.mg X.base k name ps sp)(hr:Room k X.A)(hx0:X.ex=[])(hg:Gl X name)(ha:PA X.nox (e::es) t)
  (hdb:(name==("__debug__":Str))=false:=by decide) (he:starEach (e::es) X.env=(false,eval e X.env)::starEach es X.env:=by rfl) (hpl:(backTo pos (starEach es X.env)).any (·.1)=false:=by rfl) :
  PD X (.Call (.Name name p) (e::es) [] pos) (Yz sp t):=by
 obtain⟨f,fd,F,hb,hk,hm⟩:=C.ex;intro pins s σ H Q E I h;refine Ae (Zo I hg hm ?_ hdb);refine W.callWith_K (h₀:=X.base) I.ok.mod.kin hk (Cf (ha pos pins s σ H _ (I.wish _) h) (λus s1 ⟨vs,H1,J,r,q⟩=>⟨J.kIn,?_⟩) λ_ _ z=>AS z) he hpl;have J:=J.unwish;have hl:(us++[]).length=ps.length:=by rw[Cs,<-r.length];exact F.len _ _ _ _ q
 have a4:=hb s1 us J.kIn hl;rw[Cs] at a4;refine wpAny_call (C5 (F.run X.A X.stack s1 H1 ⟨us,[]⟩ us vs Q E hr J.env0 a4 r q) λr s' U=>?_);cases r with
 | error e=>exact CXd.here J hx0 U
 | ok fl=>
  cases fl with
  | ret u=>exact J.after U
  | next=>exact AS U
  | brk=>exact AS U
  | cont=>exact AS U
variable {tx:TX}
theorem VZ (he:PD X e tx)(hs:swapsWith e none pos.line X.env=pure false:=by rfl):mn X [.Expr e pos] (lZ tx):=by
 intro pins s σ H D E I h;refine wpAny_execs_cons (wpAny_Expr_any (A4 (he pins s σ H _ E I h) λv s1 ⟨x,H1,U,r1,J⟩=>?_) I.quiet hs);exact Al ⟨σ,H1,U,J⟩
theorem Rk (hN:X.N.Nodup)(hi:X.N[i]?=some y)(hx:ic X.env.scope y)(he:PD X e tx)(hs:swapsWith e (some (.Name y pos')) pos.line X.env=pure false:=by rfl)(hf:X.fn y=true∨X.env.scope.names.lookup y=some .local:=by first|exact .inl rfl|exact .inr rfl|assumption) :
  mn X [.Assign [.Name y pos'] e pos] (lM i tx):=by
 intro pins s σ H D E I h;refine wpAny_execs_cons (wpAny_Assign_Name (A4 (he pins s σ H _ E I h) λv s1 ⟨x,H1,I1,r1,J⟩=>?_) hs);exact Xa I1 hN hi hx r1 (λs2 U=>Al ⟨_,H1,U,J⟩) hf
end
section
variable {P:Program} {w:World} {K:W.Frag} {mg:Str->Option Value} {base:Heap}
theorem Fun.okD {x}{N}{k:Nat}{sp}(F:Fun K x qual st f fd)(S:QW N ps (Qm st))(len:∀vs H Q E,sp vs H Q E->vs.length=ps.length)
  (hbody:∀(cdv:Value) (A:Around) (outer:List Env) (s:Shared) (H:Hp) (vs:List V) (Q:VK) (E:XK),Room k (A.deeper (envOfC qual (Qm st) s.heap.objs.size f cdv))->sp vs H Q E ->
   ∃t,PSs (Xi (CXd P w) P w K mg base N qual (Qm st) f cdv A outer s H E) (QN st) t/\t { nx:=λ_ H'=>Q .non H',rt:=Q } (start N vs) H):FnOk P w K mg base (CXd P w) (k+1) f fd ps sp:=by
 obtain⟨oc,od,kV,doc,pm,an,cdv,ct,a4,rfl,lk,U⟩:=F.ex;exact Nj lk U S len λA outer s H vs Q E hr J=>hbody cdv A outer s H vs Q E hr J
end
abbrev BH:=Addr->Value->Option Addr->Value->Heap->Prop
structure BG (Ψ:BH):Prop where
 of:∀e cls od cx h,ExcD e cls od cx h->Ψ e cls od cx h
 fr:∀e cls od cx (h1 h2:Heap),Ψ e cls od cx h1->(∀o,h1.get? e=some o->h2.get? e=some o)->Ψ e cls od cx h2
abbrev KD:BH:=ExcD
theorem Gm:BG KD:=⟨λe cls od cx h z=>z,λe cls od cx h1 h2 ⟨o,vs,y1,y⟩ k=>⟨o,vs,k o y1,y⟩⟩
def P0 (K:W.Frag)(C:Addr)(Ψ:BH)(i:Nat)(tb:QO->XK->St->Hp->Prop)(ts:Addr->TS)(to:TS):TS:=λD σ H=>tb { D with nx:=to D } (λcls od H1=>W.exmOne K cls (.ref C)=some true/\∀e cx,H1 e=none->gw H1 cx ->
 ts e { nx:=λJ H'=>D.nx (J.set i none) H',rt:=D.rt,bk:=λJ H'=>D.bk (J.set i none) H',ct:=λJ H'=>D.ct (J.set i none) H' } (σ.set i (some (.ref e))) (upd H1 e (.ext (Ψ e cls od cx)))) σ H
section
variable {X:Cx} {body suite:List Stmt} {b₀:Stmt} {x n:Str} {C:Addr} {np hp pos:Pos} {tb:QO->XK->St->Hp->Prop} {ts:Addr->TS} {orelse:List Stmt} {to:TS}
theorem Pu {name}{Q}(I:Inv X pins σ H s)(ow:QK X)(hg:Gl X x)(hm:X.mg x=some (.ref C))(a:Air X pins H s.heap cls ea)(f3:IP H od ea s.heap)(hmatch:W.exmOne X.K cls (.ref C)=some true)
  (h:∀h6,Inv X pins σ H { s with heap:=h6 }->Air X pins H h6 cls ea->IP H od ea h6->codeAny (model X.prog X.w) (X.A.mark (some (.ref ea))) (.handlers (.ref ea) [.ExceptHandler none name (b₀::suite) hp] X.env) (λr s₂=>match r with
     | .ok f=>(match name with
      | none=>Q f s₂
      | some n=>wpAny (model X.prog X.w) X.A (do bindName X.env n .none;unbindBehindTheSuite X.env n hp) (λ_ s₃=>Q f s₃) X.xe s₂)
     | .error x=>cameBackBy (model X.prog X.w) X.A X.env X.xe x s₂) { s with heap:=h6 }) (hd:(x==("__debug__":Str))=false:=by decide) :
  wpAny (model X.prog X.w) X.A (noteFrame (.ref ea) X.env) (λ_ s₂=>wpAny (model X.prog X.w) X.A (setFlight (.ref ea) none) (λ_ s₃=>wpAny (model X.prog X.w) X.A (handleBy (.ref ea) X.env [.ExceptHandler (some (.Name x np)) name (b₀::suite) hp]) Q X.xe s₃) X.xe s₂) X.xe s:=by
 obtain⟨T,a0,a9,a8,tr⟩:=a.two;have fs:=QT (ex:=[ea,T]) I;have fr:=I.ok.frames;rw[ow.2.1] at fs fr;have w1:=wpAny_looks_onW (M:=model X.prog X.w) (A:=X.A) (E:=λ_ _=>False) (s:=s) (base:=ZZ X s.heap [ea,T]) (Q:=λ_ s'=>∃h4,s'={ s with heap:=h4 }/\(ZZ X s.heap [ea,T]).HeldW (X.env::X.outer) ea cls a0 X.env.locals h4/\s.heap.UpToSlots h4) fr ow.2.2 ⟨Zv,Xg (by simp),fs,tr⟩ λh4 a6 a7=>⟨h4,rfl,a6,a7⟩
 have w2:wpAny (model X.prog X.w) X.A (noteFrame (.ref ea) X.env) (λ_ s'=>IP H od ea s'.heap) (λ_ _=>False) s:=Nm fr fs ow.2.2 f3 λh2 x=>x
 refine Cf (cj_noteFrame.any w1 w2) (λ_ s' ⟨⟨h4,e4,a6,a7⟩,f4⟩=>?_) λ_ _ z=>z.1.elim
 subst e4;have v1:=wpAny_landsW (M:=model X.prog X.w) (A:=X.A) (E:=λ_ _=>False) (s:={ s with heap:=h4 }) (base:=ZZ X s.heap [ea,T]) (Q:=λ_ s'=>∃U,s'={ s with heap:=U }/\(ZZ X s.heap [ea,T]).FlyingW (X.env::X.outer) ea cls a0 U/\h4.UpToSlots U) a6 λU J a4=>⟨U,rfl,J,a4⟩
 have v2:wpAny (model X.prog X.w) X.A (setFlight (.ref ea) none) (λ_ s'=>IP H od ea s'.heap) (λ_ _=>False) { s with heap:=h4 }:=Yl (s:={ s with heap:=h4 }) f4 λh2 x=>x
 refine Cf (cj_setFlight.any v1 v2) (λ_ s' ⟨⟨U,e5,J,a4⟩,f5⟩=>?_) λ_ _ z=>z.1.elim
 subst e5;have I5:Inv X pins σ H { s with heap:=U }:=ZX I a9 a8 J.1 (a7.trans a4);have l5:=J.2.2.1;rw [<-ow.2.1] at l5;have a5:Air X pins H U cls ea:=Yo I ow.1 a9 (by simp) l5 J.2.2.2;refine wpAny_handleBy_cons (codeAny_handlers_test (Zo (X:=X.hand ea) (I5.hand ea) hg hm ?_ hd)) (by intro q;cases q);obtain ⟨oe,vs,T5,oT,aa,ae,e1,e2,_⟩:=id a5;have LT:W.Looks (model X.prog X.w) U (typeOf (.ref ea)) cls:=e2.1 ▸ (W.Looks.ld e1).andThen .now;exact W.exm_one I5.kIn LT hmatch _ _ _ _ (fun _ _ z=>z) (h U I5 a5 f5)
theorem Vm {Q}(I:Inv X pins σ H s)(ow:QK X)(a:Air X pins H s.heap cls ea)(f3:IP H od ea s.heap)
  (q:∀h',Inv X pins σ H { s with heap:=h' }->Air X pins H h' cls ea->IP H od ea h'->Q () { s with heap:=h' }):wpAny M A (setFlight (.ref ea) none) Q E s:=by
 have w1:=Wy (M:=M) (A:=A) (E:=λ_ _=>False) (Q:=λ_ s'=>∃h',s'={ s with heap:=h' }/\Inv X pins σ H { s with heap:=h' }/\Air X pins H h' cls ea) I ow a λh' J b=>⟨h',rfl,J,b⟩
 have w2:wpAny M A (setFlight (.ref ea) none) (λ_ s'=>IP H od ea s'.heap) (λ_ _=>False) s:=Yl f3 λh2 x=>x
 refine Cf (cj_setFlight.any w1 w2) (λ_ s' ⟨⟨U,e5,J,b⟩,f5⟩=>?_) λ_ _ z=>z.1.elim
 subst e5;exact q U J b f5
theorem Vb {Ψ:BH}(hΨ:BG Ψ)(ow:QK X)(hg:Gl X x)(hm:X.mg x=some (.ref C))(hN:X.N.Nodup)(hi:X.N[i]?=some n)(hl:X.env.kindOf n=some .local)(hb:mn X body tb)(hs:∀e,PSs (X.hand e) (b₀::suite) (ts e))(ho:PSs X orelse to)(hd:(x==("__debug__":Str))=false:=by decide) :
  PS X (.Try body [.ExceptHandler (some (.Name x np)) (some n) (b₀::suite) hp] orelse [] pos) (P0 X.K C Ψ i tb ts to):=by
 intro pins s σ H D I h;refine wpAny_Try_except (Cf (hb pins s σ H _ _ I h) (λf s1 q=>?_) λev s1 ⟨ea,cls,od,H1,ag,I1,a1,f1,a7,q⟩=>?_)
 ·cases f with
  | next=>obtain⟨σ1,H1,I1,q1⟩:=q;exact ho pins s1 σ1 H1 D I1 q1
  | ret v=>exact q
  | brk=>exact q
  | cont=>exact q
 ·subst ag;refine Pu I1 ow hg hm a1 f1 a7 (λh5 I5 a5 f5=>codeAny_handlers_suite_as (Vm I5 ow a5 f5 λh6 I6 a6 f6=>?_)) hd;obtain⟨oe,vs,T6,oT,ao,ar,e1,e2,e3,_,_,_,_,_,l1,_⟩:=id a6;obtain⟨o,af,_,_,_,k1,k2,⟨cx,k3,ai⟩,_,_,_,_,_,k9⟩:=f6;have xn:Ψ ea cls od cx h6:=by
   rw[e1] at k1;cases k1;exact hΨ.of _ _ _ _ _ ⟨oe,af,e1,e2.1,k2,k3,k9⟩
  have I7:Inv X pins σ (upd H1 ea (.ext (Ψ ea cls od cx))) { s1 with heap:=h6 }:=I6.trackN l1 ⟨oe,vs,e1,e3⟩ ⟨xn,⟨oe,e1⟩,hΨ.fr _ _ _ _⟩;refine Xa (X:=X.hand ea) (v:=.ref ea) (I7.hand ea) hN hi (.inl hl) rfl (λs8 I8=>?_) (.inr hl);refine Cf (hs ea pins s8 _ _ _ I8 (q ea cx l1.1 ai)) (λf s9 z=>?_) λ_ _ z=>AS z
  have a8:(X.env.scope.kind==.class||(X.env.scope.kind==.module&&X.env.locals != X.env.globals))=false:=by rw[I.ok.kind];rfl
  have J:∀{σ9:St} {U:Hp} {R:Unit->Shared->Prop},Inv (X.hand ea) pins σ9 U s9->(∀s',Inv X pins (σ9.set i none) U s'->R () s')->wpAny (model X.prog X.w) X.A (do bindName X.env n .none;unbindBehindTheSuite X.env n hp) R X.xe s9:=λ{σ9 U R} I9 r=>by
   obtain⟨m,hn,_⟩:=id I9.loc;refine wpAny_nameGoes_keeps hl hn a8 λh' v aj ah=>?_
   refine r _ ((I9.unhand I.ok).forget hN hi (λm' ae=>⟨v,?_⟩) ah);have:m=m':=by
    obtain⟨o,es,ep,a1,a2,a3,a4⟩:=hn;obtain⟨o',aq,ak,b1,b2,b3,b4⟩:=ae;have a9:s9.heap.get? X.env.locals=some o':=b1;have aa:s9.heap.get? X.env.locals=some o:=a1;rw[aa] at a9;cases a9;rw[a2] at b2;cases b2
    funext y;rw [<-a4,<-b4]
   subst this;exact aj
  cases f with
  | next=>obtain⟨σ9,U,I9,q9⟩:=z;exact J I9 λs' I'=>⟨_,U,I',q9⟩
  | brk=>obtain⟨σ9,U,I9,q9⟩:=z;exact J I9 λs' I'=>⟨_,U,I',q9⟩
  | cont=>obtain⟨σ9,U,I9,q9⟩:=z;exact J I9 λs' I'=>⟨_,U,I',q9⟩
  | ret u=>obtain⟨v,σ9,U,I9,r9,q9⟩:=z;exact J I9 λs' I'=>⟨v,_,U,I',r9,q9⟩
end
theorem UW {Ψ:BH}{tb}{ts}{to}{D}:P0 K C Ψ i tb ts to D σ H=tb { D with nx:=to D } (λcls od H1=>W.exmOne K cls (.ref C)=some true/\∀e cx,H1 e=none->gw H1 cx ->
 ts e { nx:=λJ H'=>D.nx (J.set i none) H',rt:=D.rt,bk:=λJ H'=>D.bk (J.set i none) H',ct:=λJ H'=>D.ct (J.set i none) H' } (σ.set i (some (.ref e))) (upd H1 e (.ext (Ψ e cls od cx)))) σ H:=rfl
theorem VL {E}{sp}{t}{D}:GM E C sp t D σ H=t σ H λvs H1=>vs.length<=sizeLine/\∀x,H1 x=none->sp (.ref x::vs) (upd H1 x (.ext (Xp x C none))) (λv H2=>v=.non/\∃od,H2 x=some (.ext (Xp x C od))/\E (.ref C) od (Ys H2 x)) E0:=rfl
theorem Lq {k:Nat}{m}{sp}{apos}{o}{E}(G:BK X.prog X.w X.K X.mg X.base k C m ps sp)(hr:Room k X.A)(c:Cls X.K C)(hx:ZI (CXd X.prog X.w) X E)(he:PE X o ta)
  (ht:eval (.Call (.Attribute o m apos) [] [] pos) X.env=(do
   let ov <-eval o X.env
   standAt apos.atName
   let (f,first) <-holding [ov] (getMethod ov m pl)
   callWith pos f first (backTo pos (starEach [] X.env)) (backToKw pos (keywordEach [] X.env))):=by rfl) :
  PE X (.Call (.Attribute o m apos) [] [] pos) (W9 C m sp [] E ta JO):=by
 obtain⟨f,fd,F,b,M⟩:=G.ex;exact V3 he c M F hr b .nil hx ht
theorem VW {nm q}{N hA}{bs bm}{hdct}{sn}{sub}{ab}{col}{dd}{k0 k1 k2 k3 k5}{newId}{x}{Q}{rp} 
  (hbase:bm.contains (.type "BaseException")=true) (hh:A.handled=some (.ref hA))
  (h:wpAny (model prog w) A x (λv s₁=>∃e t od oh vh,v=.ref e/\s₁.heap.get? C=some (excClassObj nm q C N bs bm hdct sn sub ab col dd k0 k1 k2 k3 k5 newId)/\s₁.heap.get? e=some (ZP C t od)/\hA≠e/\C≠e/\s₁.heap.get? hA=some oh/\oh.data=.fields vh/\vh[2]?=some .none /\
   ∀h',h'.get? e=some (Y1 C t od (.ref hA) .none (.bool true))->(∀b o,b≠e->s₁.heap.get? b=some o->h'.get? b=some o)->E (.ref e) { s₁ with heap:=h' }) E s) :
  wpAny (model prog w) A (raiseStmt env (some x) (some (do let v <-(pure .none:Sem Value);standAt rp;pure v))) Q E s:=by
 have a6:(Value.ref C::bm).contains (.type "BaseException")=true:=by rw[List.contains_cons,hbase,Bool.or_true]
 unfold raiseStmt;dsimp only;refine DX (Cf h (λv s₁ ⟨e,t,od,oh,vh,ev,hC,he,ne,nC,g1,g2,g3,hE⟩=>?_) λ_ _ z=>z);subst ev;obtain⟨hp,g,d,tk,os⟩:=s₁;refine DX (wpAny_holding (DX (D3 (DX (wpAny_standAt (D3 ?_))))));refine DX (D3 ?_);refine DX (wpAny_holding ?_);unfold excFromValue isExcClass isType loadHead;dsimp only;refine DX (DX (DX (wpAny_loadPart_at he (D3 (wpAny_ite_false (by rfl) (D3 (wpAny_ite_false (by rfl) (DX ?_))))))));unfold isInstance typeOf;dsimp only;refine DX (DX (wpAny_loadPart_at he (D3 (wpAny_isSubtype_exc hC ?_))));rw[a6];refine wpAny_ite_true (by rfl) (D3 ?_);refine wpAny_ite_true (by rfl) (DX (D3 ?_));refine DX (wpAny_setField he rfl (Nat.le_of_ble_eq_true rfl) ?_);have e1:=Ab (h:=hp) (Obj.mapFields λx=>x.setIfInBounds 3 Value.none) he rfl;have J:∀b o,b≠e->hp.get? b=some o->(hp.update e (Obj.mapFields λx=>x.setIfInBounds 3 Value.none)).get? b=some o:=λb o U z=>CW _ (CP U) z
 generalize hp.update e (Obj.mapFields λx=>x.setIfInBounds 3 Value.none)=h1 at *;refine DX (wpAny_setField e1 rfl (AL rfl) ?_);have e2:=Ab (h:=h1) (Obj.mapFields λx=>x.setIfInBounds 4 (Value.bool true)) e1 rfl;have a4:∀b o,b≠e->h1.get? b=some o->(h1.update e (Obj.mapFields λx=>x.setIfInBounds 4 (Value.bool true))).get? b=some o:=λb o U z=>CW _ (CP U) z
 generalize h1.update e (Obj.mapFields λx=>x.setIfInBounds 4 (Value.bool true))=h2 at *;have a5:=a4 _ _ nC (J _ _ nC hC);have a7:=a4 _ _ ne (J _ _ ne g1);have e2:h2.get? e=some (Y1 C t od .none .none (.bool true)):=e2;refine DX (DX (wpAny_loadPart_at e2 (D3 (wpAny_ite_false (by rfl) (DX ?_)))));unfold raisedInstance typeOf;dsimp only;refine DX (DX (wpAny_loadPart_at e2 (D3 (DX (DX (wpAny_loadPart_at a5 (D3 (wpAny_ite_true (by rfl) (D3 (DX ?_))))))))));unfold setFlight;refine DX (wpAny_field e2 rfl rfl (wpAny_ite_false (by rfl) (D3 ?_)));refine Wf hh ⟨oh,vh,a7,g2,g3⟩ e2 rfl (Nat.le_of_ble_eq_true rfl) ne ?_;refine hE _ (Ab (h:=h2) (Obj.mapFields λx=>x.setIfInBounds 2 (Value.ref hA)) e2 rfl) λb o U z=>CW _ (CP U) (a4 _ _ U (J _ _ U z))
theorem RoomA.mark {k:Nat}{hd}(r:RoomA k A):RoomA k (A.mark hd):=⟨r.dp,r.un⟩
def PZ (K:W.Frag)(C:Addr)(E:XK)(C2:Addr)(sp:Sp)(tb:QO->XK->St->Hp->Prop)(t:TA):TS:=λD σ H=>tb D (λcls _ H1=>W.exmOne K cls (.ref C)=some true/\∀c,H1 c=none->t σ (upd H1 c (.ext (Yb c cls))) λvs H2=>vs.length<=sizeLine/\H2 c=some (.ext (Yb c cls))/\∀x,H2 x=none ->
 sp (.ref x::vs) (upd H2 x (.ext (Xp x C2 none))) (λv J=>v=.non/\∃od,J x=some (.ext (Xp x C2 od))/\J c=some (.ext (Yb c cls))/\E (.ref C2) od (Ys J x)) E0) σ H
theorem TM {E}{C2}{sp}{tb}{t}{D}:PZ K C E C2 sp tb t D σ H=tb D (λcls _ H1=>W.exmOne K cls (.ref C)=some true/\∀c,H1 c=none->t σ (upd H1 c (.ext (Yb c cls))) λvs H2=>vs.length<=sizeLine/\H2 c=some (.ext (Yb c cls))/\∀x,H2 x=none ->
 sp (.ref x::vs) (upd H2 x (.ext (Xp x C2 none))) (λv J=>v=.non/\∃od,J x=some (.ext (Xp x C2 od))/\J c=some (.ext (Yb c cls))/\E (.ref C2) od (Ys J x)) E0) σ H:=rfl
section
variable {X:Cx} {E:XK} {body:List Stmt} {x y:Str} {C C2:Addr} {k:Nat} {ps:List Str} {sp:Sp} {np hp pos np2 cpos rpos cp:Pos} {kk:Nat} {e₀:Expr} {rest:List Expr} {t:TA} {tb:QO->XK->St->Hp->Prop}
theorem Rl (th:VG X E)(po:∀hd,PassesOwnAt (model X.prog X.w) (X.A.mark hd) X.A X.env X.xe)(ow:QK X)(hg:Gl X x)(hm:X.mg x=some (.ref C))(hb:nV X body tb)(G:BJ X.prog X.w X.K X.mg X.base k C2 ps sp)(hr:Room (k+1) X.A)(hg2:Gl X y)(hm2:X.mg y=some (.ref C2))(ha:∀e,PA (X.hand e) (e₀::rest) t)
  (hd:(x==("__debug__":Str))=false:=by decide) (hd2:(y==("__debug__":Str))=false:=by decide) (he:starEach (e₀::rest) X.env=(false,eval e₀ X.env)::starEach rest X.env:=by rfl) (hpl:(backTo cpos (starEach rest X.env)).any (·.1)=false:=by rfl) :
  PS X (.Try body [.ExceptHandler (some (.Name x np)) none [.Raise (some (.Call (.Name y np2) (e₀::rest) [] cpos)) (some (.Constant .none kk cp)) rpos] hp] [] [] pos) (PZ X.K C E C2 sp tb t):=by
 intro pins s σ H D I h;refine wpAny_Try_except (Cf (hb pins s σ H D _ I h) (λf U q=>?_) λev U ⟨ea,cls,H1,ax,I1,a1,f1,a8,q⟩=>?_)
 ·cases f with
  | next=>exact Al q
  | ret v=>exact q
  | brk=>exact q
  | cont=>exact q
 subst ax;refine Pt I1 ow hg hm a1 f1 a8 (λh5 I5 a5 f5=>codeAny_handlers_suite (Vl I5 ow a5 f5 λh6 I6 a6 f6=>wpAny_passesOwnAt (po _) (wpAny_execs_cons ?_))) hd;obtain⟨oe,vs,T6,oT,b1,b3,e1,e2,e3,_,_,_,_,_,l1,_⟩:=id a6;have xn:Yb ea cls h6:=by
  obtain⟨o,aw,k1,k2,k3⟩:=f6.f2;rw[e1] at k1;cases k1;exact⟨oe,aw,e1,e2.1,k2,k3⟩
 have I7:Inv X pins σ (upd H1 ea (.ext (Yb ea cls))) { U with heap:=h6 }:=I6.trackN l1 ⟨oe,vs,e1,e3⟩ ⟨xn,⟨oe,e1⟩,λh1 h2 ⟨o,vs,y1,y⟩ k=>⟨o,vs,k o y1,y⟩⟩;have J:=I7.hand ea;obtain⟨f,fd,F,b,M⟩:=G.ex;have qm:=M.makes;unfold Vs at qm;split at qm
 ·rename_i dd av sl ho;split at qm
  ·rename_i C' bm k0 k1 k2 k3 n k5 ag hs;simp only[CV,beq_iff_eq,As] at qm;obtain⟨⟨⟨rfl,rfl⟩,ae⟩,ht⟩:=qm;obtain⟨nm,bs,az,ns,qn,ar,sn,sub,ab,col,b0⟩:=av;dsimp only at ag ae;subst ag ae;have ay:sl=#[k0,k1,k2,k3,some (.builtin "ValueError.__new__"),k5]:=by
    obtain⟨l⟩:=sl;simp only at hs;rw[hs]
   subst ay;have FB:=AM;have T0:OwnTail h6 Mr bm:=W.tail_of_in I7.kIn ht;rw[arm_exec_Raise];refine DX (wpAny_standAt (VW (nm:=nm) (q:=qn) (C:=C') (N:=ns) (bs:=bs) (bm:=bm) (hdct:=ar) (sn:=sn) (sub:=sub) (ab:=ab) (col:=col) (dd:=dd) (k0:=k0) (k1:=k1) (k2:=k2) (k3:=k3) (k5:=k5) (newId:="ValueError.__new__") (T0.hasType FB.hasBase) rfl (DX (Cf (Q:=λv s₁=>∃e t od oh vh,v=.ref e/\s₁.heap.get? C'=some (excClassObj nm qn C' ns bs bm ar sn sub ab col dd k0 k1 k2 k3 k5 "ValueError.__new__")/\s₁.heap.get? e=some (ZP C' t od)/\ea≠e/\C'≠e/\s₁.heap.get? ea=some oh/\oh.data=.fields vh/\vh[2]?=some .none /\
    ∀h',h'.get? e=some (Y1 C' t od (.ref ea) .none (.bool true))->(∀b o,b≠e->s₁.heap.get? b=some o->h'.get? b=some o)->X.xe (.ref e) { s₁ with heap:=h' }) ?_ (λv s' h=>DX (wpAny_standAt (D3 h))) λ_ _ z=>z))))
   refine Ae (Zo J hg2 hm2 ?_ hd2);refine W.callWith_K (h₀:=X.base) I7.ok.mod.kin M.kp (Cf (ha ea cpos pins _ σ _ _ J (q ea l1.1)) (λus U ⟨vs,H1,I1,r,hz,af,q⟩=>⟨I1.kIn,?_⟩) λ_ _ z=>AS z) he hpl;have T1:OwnTail U.heap Mr bm:=W.tail_of_in I1.kIn ht;have ak:H1 (U.heap.objs.size+1)=none:=I1.hok.fresh (CY _);have q1:=q _ ak;have kp:∀b o,U.heap.get? b=some o->(Zi U.heap C' us).get? b=some o:=λb o e=>D8 _ (D8 _ e)
   have ai:(Zi U.heap C' us).get? (U.heap.objs.size+1)=some (ZP C' U.heap.objs.size none):=by
    have z:(U.heap.push { cls:=.type "tuple",data:=.seq us.toArray }).objs.size=U.heap.objs.size+1:=Heap.size_push _ _;exact z▸Cz _ rfl
   have I2:Inv (X.hand ea) pins σ (upd H1 (U.heap.objs.size+1) (.ext (Xp (U.heap.objs.size+1) C' none))) { U with heap:=Zi U.heap C' us }:=I1.laid (t':=U.toks) kp (CY _) (Vt ⟨_,ai⟩);have r2:Vals (V.ref (U.heap.objs.size+1)::vs) (Value.ref (U.heap.objs.size+1)::us):=.cons rfl r;have hl:(Value.ref (U.heap.objs.size+1)::us++[]).length=ps.length:=by
    rw[Cs];have e:=r2.length;rw[F.len _ _ _ _ q1] at e;exact e.symm
   have ah:=b { U with heap:=Zi U.heap C' us } (Value.ref (U.heap.objs.size+1)::us) I2.kIn hl;rw[Cs] at ah;have aj:=I1.kIn _ _ ho;have ao:C'≠U.heap.objs.size+1:=Cd (Nat.lt_succ_of_lt (D5 aj));have aa:ea≠U.heap.objs.size+1:=λz=>by rw[z] at af;rw[ak] at af;cases af
   have fp:=I1.fpOk (H':=fun _=>none) (CY U.heap.objs.size) rfl;obtain ⟨a4,g1,d1,t1,b2⟩:=U;refine wpAny_call (Yx FB (by decide +kernel) FB T1 aj I1.kIn M.init (beq_iff_eq.mp M.fn) (show us.length<=sizeLine by rw [<-r.length];exact hz) ?_);refine C5 (F.run _ X.stack _ _ ⟨Value.ref (a4.objs.size+1) :: us,[]⟩ (Value.ref (a4.objs.size+1) :: us) _ _ E0 (hr.any.mark.make C' us []) (I2.env0.make C' us []) ah r2 q1) fun r s' a7=>?_
   cases r with
   | error e=>exact AS a7
   | ok fl=>
    cases fl with
    | ret u=>
     obtain⟨v,H',I3,rv,ev,od,aq,a9,q3⟩:=I2.after a7;subst ev;obtain⟨tt,au⟩:=XR I3.hok aq;have new:X.s₀.heap.get? (a4.objs.size+1)=none:=by
      cases q:X.s₀.heap.get? (a4.objs.size+1) with
      | none=>rfl
      | some o=>
       have z1:=D5 q;have z2:X.s₀.heap.objs.size<=a4.objs.size:=I1.sz;exact absurd (Cn z1 z2) (Ay.mpr (CY _))
     have I4:=I3.untrack aq new;obtain⟨oh,vh,y1,_,y2,y3⟩:=XR I3.hok a9;refine⟨rv,a4.objs.size+1,tt,od,oh,vh,rfl,I3.kIn _ _ ho,au,aa,ao,y1,y2,y3,λh' w1 w2=>?_⟩;have I5:Inv (X.hand ea) pins σ (Ys H' (a4.objs.size+1)) { s' with heap:=h' }:=I4.turned (t':=s'.toks) w2 Ym fp.2.1 fp.2.2.2.1 fp.2.2.2.2.1 fp.2.2.2.2.2;refine th pins σ _ { s' with heap:=h' } _ _ tt od _ _ _ (I5.unhand I7.ok) ⟨Ym,new,λp hp z=>?_⟩ w1 (.inr ⟨ea,cls,rfl,by rw[Yn aa];exact a9⟩) q3;have z3:=D5 (I1.pin p hp).1;have z4:p.1<a4.objs.size:=z3;exact absurd z4 (Ay.mpr (by rw[z];exact CY _))
    | next=>exact AS a7
    | brk=>exact AS a7
    | cont=>exact AS a7
  ·cases qm
 ·cases qm
end
end L2
namespace L2
open Spec PyProof.Rows
structure TB (P:Program)(w:World)(K:W.Frag)(mg:Str->Option Value)(base:Heap)(k:Nat)(C:Addr)(ps:List Str)(dvs:List V)(sp:Sp):Prop where
 ex:∃(f:Addr) (fd:FuncData) (ds:List Value),FnOk P w K mg base Ih k f fd ps sp/\Binds K fd ps ds/\Vals dvs ds/\Mk K C f
theorem Rz {k:Nat}{x}{sp}{p}{e}{t}{dvs}(G:TB X.prog X.w X.K X.mg X.base k C ps dvs sp)(hr:Room (k+1) X.A)(hg:Gl X x)(hm:X.mg x=some (.ref C))(ha:PA X (e::es) t)(hdb:(x==("__debug__":Str))=false:=by decide)
  (he:starEach (e::es) X.env=(false,eval e X.env)::starEach es X.env:=by rfl) (hpl:(backTo pos (starEach es X.env)).any (·.1)=false:=by rfl):PE X (.Call (.Name x p) (e::es) [] pos) (Yt C sp dvs E0 t):=by
 obtain⟨f,fd,ds,F,b,J,M⟩:=G.ex;exact G5 M F hr hg hm b J Kj ha hdb he hpl
def MH (K:W.Frag)(C:Addr):Bool:=match W.clsIn K C with
 | some cd=>Vg cd.mro&&cd.hasDict
 | none=>false
theorem xcls_of (sa:W.findIn K (.ref C) "__setattr__"=some (some (.builtin "object.__setattr__")))(mO:W.mroIn K C (.type "object")=some true)(h:MH K C=true):Mu K C:=by
 refine⟨sa,mO,?_⟩;unfold MH at h;split at h
 ·rename_i cd e;rw[CV] at h;exact⟨cd,e,h.1,h.2⟩
 ·cases h
theorem NP {S}{o}(l:K.lookup a=some o){e k}:W.peek K S (Sem.load a e k:Sem α)=W.peek K S (k o):=by
 simp only[W.peek];rw[l]
theorem Ux {ds}{da}{o}(l:K.lookup da=some o)(n:Nat)(hn:ps.length=n+ds.length)(h:∀us:List Value,us.length=n->∃e k,bindArgs fd ⟨us,[]⟩=Sem.load da e k/\∀S,W.peek K S (k o)=some (ps.zip (us++ds))):Binds K fd ps ds:=λs us kIn J=>by
 rw[D0] at J;obtain⟨e,k,e1,e2⟩:=h us (by omega);exact W.kp_binds kIn λS=>by rw[e1,NP l];exact e2 S
theorem Kd {x}{o o' u}(hx:H x=none)(hd:H d=none):Same H (Ys (upd (upd (upd H x o) x o') d u) x):=λc v h=>by
 have h1:c≠x:=λe=>by rw[e,hx] at h;cases h
 have h2:c≠d:=λe=>by rw[e,hd] at h;cases h
 rw[Yn h1,Qj h2,Qj h1,Qj h1];exact h
end L2
namespace L2
open Spec PyProof.Rows W Builtin Builtin.ObjectAttr Builtin.Getset_descriptor
section
variable {prog:Program} {w:World} {A:Around} {E:Value->Shared->Prop} {s:Shared} {e it l:Addr} {co:Option Addr} {i:Nat} {items:Array Value}
theorem Zy {Q}(hh:A.handled=some (.ref e))(f2:F2c e co s.heap)(ne:∀b,(b=e∨some b=co)->b≠it)(hit:s.heap.IsListIter it l i)(hl:s.heap.IsList l items)(hx:items[i]?=none)
  (hQ:∀h':Heap,Heap.ExtBut it s.heap h'->Q none { s with heap:=h' }):wpAny (model prog w) A (pyNext (.ref it)) Q E s:=by
 unfold pyNext;refine DX (wpAny_attempt (RT hh f2 ne hit hl hx λh' x J ⟨o,k1,k2⟩=>?_));dsimp only;unfold isInstance;refine DX ?_
 repeat (first|(with_reducible refine wpAny_loadPart_at k1 ?_;rw[k2])|wp_step)
 refine wpAny_of_eq (show isSubtype (Value.type "StopIteration") (Value.type "StopIteration")=pure true by kernel_rfl) (D3 ?_);exact hQ _ J
end
def HasX (H:Hp)(ea:Addr):Prop:=∃cls od cx,H ea=some (.ext (ExcD ea cls od cx))/\gw H cx
theorem HasX.f2 (h:HasX H ea)(I:Inv X pins σ H s):∃co,F2c ea co s.heap/\∀b,(b=ea∨some b=co)->H b≠none:=by
 obtain⟨cls,od,cx,he,U⟩:=h;obtain⟨o,vs,k1,_,k2,k3,_⟩:=XR I.hok he;rcases U with rfl|⟨c,cls',rfl,U⟩
 ·refine⟨none,⟨o,vs,k1,k2,k3⟩,λb J=>?_⟩;rcases J with rfl|J
  ·rw[he];simp
  ·cases J
 ·obtain⟨o',a4,y1,_,y2,y3⟩:=XR I.hok U;refine⟨some c,⟨⟨o,vs,k1,k2,k3⟩,o',a4,y1,y2,y3⟩,λb J=>?_⟩;rcases J with rfl|J
  ·rw[he];simp
  ·cases J;rw[U];simp
def PL (K:W.Frag)(ea a:Addr):It:=
 ⟨(O2 K a).go,(O2 K a).yld,λi H=>(∃xs,A6 K H a xs/\xs.length<=i)/\HasX H ea⟩
theorem VP (a it):BD P w K ea tg (PL K ea a) [it] it (λi h=>h.IsListIter it a i):=
 let T:=U0 (P:=P) (w:=w) (K:=K) (ea:=ea) (tg:=tg) a it
 ⟨T.mem,T.obj,T.keep,T.item,by
  intro X hP hw hK hc i pins s σ H E I hf st hg;subst hP hw hK;obtain⟨⟨xs,hq,hx⟩,hX⟩:=hg;obtain⟨co,f2,hn⟩:=hX.f2 I;obtain⟨its,rv,p,hz⟩:=I.list hq;obtain⟨U,f1,_,f3,f4,f5⟩:=hf it (by simp);have hl:=rv.length;exact Zy hc f2 (λb J z=>hn b J (by rw[z];exact U)) st p.isList (by simp;omega) λh' eb=>⟨rfl,I.turned (t':=s.toks) (λb o J e=>eb b o J e) U f1 f3 f4 f5⟩,T.self⟩
def LQ (K:W.Frag)(ea:Addr)(tl:TE):TI:=λσ H R=>tl σ H λx H1=>∃a,x=.ref a/\(∃xs,A6 K H1 a xs)/\R (PL K ea a) H1
theorem Ew (K){X}{ea}{tg l}{tl}(h:X.K=K)(hl:PE X l tl):nW X ea tg l (LQ K ea tl):=by
 subst h;intro pins s σ H R I h;refine A4 (hl pins s σ H _ I h) λv J ⟨x,H1,U,r1,q1⟩=>?_
 obtain⟨a,e,⟨xs,hq⟩,q⟩:=q1;subst e;cases r1;obtain⟨its,rv,p,hz⟩:=U.list hq;refine wpAny_pyIter_list p.isList ?_;refine⟨J.heap.objs.size,[J.heap.objs.size],_,_,H1,rfl,U.kept (t':=J.toks) λb o e=>D8 _ e,VP a _,⟨_,Cz _ rfl,rfl,rfl⟩,λb hb=>?_,q⟩;have e:b=J.heap.objs.size:=by simpa using hb
 subst e;exact U.fpOk (D2 _) (U.hok.fresh (D2 _))
theorem MN:LQ K ea tl σ H R=tl σ H λx H1=>∃a,x=.ref a/\(∃xs,A6 K H1 a xs)/\R (PL K ea a) H1:=rfl
theorem HF {xs}(Pv)(h0:Pv 0 [] σ0 H)(hl:∀i acc σ H,i<=xs.length->Pv i acc σ H->A6 K H a xs)(he:∀i acc σ H,Pv i acc σ H->HasX H ea)(hn:xs.length<=1000)
  (hs:∀i x acc σ H,xs[i]?=some x->acc.length<=i->Pv i acc σ H->g x σ H λJ H2=>tt J H2 λb H3=>if b=true then te J H3 λv H4=>CN Pv xs.length i (acc++[v]) J H4 else CN Pv xs.length i acc J H3)
  (hd:∀acc σ H,Pv xs.length acc σ H->∀p,H p=none->Q (.ref p) (upd H p (.lst acc))):Y9 (PL K ea a) g tt te σ0 H Q:=by
 refine⟨λi m acc σ H=>m=xs.length-i/\i<=xs.length/\acc.length<=i/\Pv i acc σ H,⟨xs.length,by simp,CF _,D2 _,h0⟩,?_⟩;rintro i m acc σ H ⟨rfl,hi,ha,p⟩;have q:=hl i acc σ H hi p;by_cases U:i<xs.length
 ·refine .inr ⟨⟨xs,xs[i],q,by simp[U]⟩,Z7 (by omega),λx H' y=>?_⟩;obtain⟨e,y⟩:=y;subst e;exact hs i x acc σ _ (y xs q) ha p
 ·have e:i=xs.length:=by omega
  subst e;exact .inl ⟨⟨⟨xs,q,D2 _⟩,he _ _ _ _ p⟩,hd acc σ H p⟩
theorem VN (hh:A.handled=some (.ref e))(I ax)(hne:ax≠I)(hei:∀b,(b=e∨some b=co)->b≠I)(items:Array Value) :
  Walks prog w A I (I::ax::e::co.toList) [I] items.size (λi v=>items[i]?=some v) λi h=>h.IsListIter I ax i/\h.IsList ax items/\F2c e co h where
 sub:=λb J=>by simp at J;simp[J]
 frame:=fun i h h' ⟨s1,U,f2⟩ hk=>⟨s1.at fun o e=>hk I (by simp) o e,U.at fun o e=>hk ax (by simp) o e,f2.at fun b o J g=>hk b (by rcases J with rfl | J;simp;simp [<-J]) o g⟩
 item:=λi s Q E hi ⟨s1,U,f2⟩ hQ=>by
  refine wpAny_pyNext_list_item s1 U (x:=items[i]) (by simp[hi]) λh' a4 sb=>?_
  exact hQ items[i] h' s.toks (by simp[hi]) ⟨a4,U.extBut sb.extBut hne,f2.at λb o J g=>sb.extBut _ _ (hei b J) g⟩ λb ob J g=>sb.extBut b ob (by simpa using J) g
 done:=λs Q E ⟨s1,U,f2⟩ hQ=>Zy hh f2 hei s1 U (by simp) λh' eb=>hQ h' s.toks λb ob J g=>eb b ob (by simpa using J) g
 self:=λ_ _ _ _ st hQ=>wpAny_pyIter_listiter st.1 hQ
def Eg (K:W.Frag)(ea:Addr):List V->Hp->VK->Prop:=λxs H Q=>∃(p:Addr) (ns:List Int),xs=[.ref p]/\A6 K H p (ns.map V.int)/\HasX H ea/\Q (.int ns.sum) H
theorem Mh (K){X}{ea}(hK:X.K=K)(hh:X.A.handled=some (.ref ea)):CallR X (.builtin "sum") (Eg K ea):=by
 subst hK;intro pins s σ H xs us Q I r h;obtain⟨p,ns,rfl,hq,hX,q⟩:=h;obtain⟨co,f2,hn⟩:=hX.f2 I;obtain⟨u,rfl,r1⟩:=ZK r;obtain rfl:=r1.ref_of;obtain⟨its,rv,pl,hz⟩:=I.list hq;have hi:=Gp rv;obtain⟨xs,ex⟩:=hi.allInts.items;have hl:=pl.isList;rw[ex] at hl;have e:preSum (numAt xs) xs.size=ns.sum:=by
  rw[preSum_eq,CH (by simp),<-nums_intItems,<-ex,<-hi.numsOf]
 refine call_sum_walkG (iter_intList hl λs₂ e2 st a4 a5=>?_);subst e2;have U:∀b,(b=ea∨some b=co)->b<s.heap.objs.size:=λb J=>by
  obtain⟨o,g⟩:=f2.there b J;exact D5 g
 refine⟨s.heap.objs.size,s.heap.objs.size::p::ea::co.toList,[s.heap.objs.size],(intItems xs).size,_,_,numAt xs,rfl,VN (A:=X.A.in1) hh _ p a5 (λb J=>Cd (U b J)) (intItems xs),⟨st.1,st.2,f2.at λb o _ g=>D8 _ g⟩,λb J=>?_,λ_ _=>intItems_at,λh' tk t' hk=>?_⟩
 ·rcases Ca.mp J with rfl|J
  ·exact a4 _ (by simp)
  ·rcases Ca.mp J with rfl|J
   ·exact a4 _ (by simp)
   ·have J:b=ea∨some b=co:=by
     rcases Ca.mp J with h|h
     ·exact .inl h
     ·cases co with
      | none=>cases h
      | some c=>exact .inr (by rw[D7.mp h])
    rw[Heap.size_push];exact Nat.lt_succ_of_lt (U b J)
 ·have hs:(intItems xs).size=xs.size:=by simp[intItems]
  rw[hs,e];exact⟨.int ns.sum,H,I.kept (t':=tk) (old_kept hk),⟨_,rfl⟩,q⟩
theorem ExcD.o {e}{cls}{od}{cx}{h}(x:ExcD e cls od cx h):PM e cls h:=by
 obtain⟨o,vs,h1,h2,h3,_⟩:=x;exact⟨o,vs,h1,h2,h3⟩
theorem NZ (Z:Zs K C):W.KitX K (.ref e) (.ref C) (ExcD e (.ref C) od cx) where
 ty:=λM h X p=>(X7 Z).ty M h X p.o
 it:=λ_ _ X p=>(X7 (e:=e) Z).it _ _ X p.o
 ne:=λh U dd its n sl X J=>(X7 (e:=e) Z).ne h U dd its n sl X J
 ca:=λX p k=>(X7 Z).ca X p.o k
def Li (K:W.Frag):List V->Hp->VK->Prop:=λxs H Q=>∃e c C od cx b u,xs=[.ref e,c]/\RelV c u/\(∀u',RelV c u'->u'=u)/\H e=some (.ext (ExcD e (.ref C) od cx))/\Zs K C/\W.kitOne K (.ref C) u=some b/\Q (.bl b) H
theorem Xz (K){X}(hK:X.K=K):CallR X (.builtin "isinstance") (Li K):=by
 subst hK;intro pins s σ H xs us Q I r h;obtain⟨e,c,C,od,cx,b,u,rfl,rc,U,he,Z,k,q⟩:=h;obtain⟨u1,u2,rfl,r1,r2⟩:=Ka r;obtain rfl:=U _ r2;obtain rfl:=r1.ref_of;exact W.kia_one (NZ Z) I.kIn (XR I.hok he) k (λz=>nomatch z) λJ=>⟨.bl b,H,I.tok J,rfl,q⟩
theorem XU {C'}{b}(he:H e=some (.ext (ExcD e (.ref C) od cx)))(Z:Zs K C)(k:W.kitOne K (.ref C) (.ref C')=some b)(q:Q (.bl b) H):Li K [.ref e,.ref C'] H Q:=
 ⟨e,.ref C',C,od,cx,b,.ref C',rfl,rfl,λ_ h=>h,he,Z,k,q⟩
theorem Sb {b}(he:H e=some (.ext (ExcD e (.ref C) od cx)))(Z:Zs K C)(k:W.kitOne K (.ref C) (.type T)=some b)(q:Q (.bl b) H):Li K [.ref e,.ty T] H Q:=
 ⟨e,.ty T,C,od,cx,b,.type T,rfl,rfl,λ_ h=>h,he,Z,k,q⟩
end L2
namespace My
open PyProof.Rows L2
local macro_rules | `(tactic| walk_at "r1") => `(tactic| first | dsimp only [Fz, Fy, Fx, Fw, Fv, TN, List.length_cons, List.length_nil, List.replicate, Nat.reduceSub, Nat.reduceAdd, HS, TF, Dj, Dg, Fl, Fc, Di, HY, Dh, TL, TK, Fj, Fh, Fk, Fi, Ff, Fd, Fg, Fe, TH, BP, HX, HW, HV, HU, TC, Fb, HZ, ng, FE, Dk, FZ, Dm, FG, TU, BU, Fs, Sf, BV, F1, Do, FF, FU, TV, FA, PR, Sk, FT, F0, T3, FD, FH, Sl, Sm, Dq, Fq, FM, BR, Ft, Fu, Fo, List.getElem?_cons_zero, List.getElem?_cons_succ, List.set_cons_zero, List.set_cons_succ, List.nil_append, List.cons_append, List.append_nil, if_true, if_false, reduceCtorEq, Int.reduceEq, Int.cast_ofNat_Int, Int.reduceLT, Int.reduceLE, not_true, Bool.not_true, Bool.not_false, Bool.not_eq_true'] | simp only [Dp, BQ, Dr, TQ, Fp, FQ, Sd, Bool.false_eq_true, Bool.true_eq_false, not_false_eq_true, decide_eq_true_eq, decide_eq_false_iff_not, Bool.not_eq_true', if_true, if_false, not_true, reduceCtorEq, Int.reduceEq, Int.reduceLT, Int.reduceLE, Bool.not_true, Bool.not_false])
local macro_rules | `(tactic| walk_at "rd") => `(tactic| (walk_at "r1"; repeat walk_at "r1"))
local macro_rules | `(tactic| walk_at "go") => `(tactic| repeat (first | refine Se (by assumption) rfl ?_ | refine Zq (by assumption) rfl ?_ | refine QA (by assumption) rfl ?_ | refine T7 (by assumption) ?_ | refine Q0 (by assumption) ?_ | refine W3 (TyOf.int _) (by rfl) ?_ | refine FO (by assumption) ?_ | refine W3 (TyOf.bl _) (by rfl) ?_ | walk_at "rd"))
local macro_rules | `(tactic| left) => `(tactic| walk_at "go")
structure Ii where
 (zA zB zC zD zE zF zG zH zI zJ zK zL zM zN zO zP zQ zR zS zT zU zV zW zX zY zZ yA yB yC:Addr)
def t:Ii:=⟨31,44,56,68,87,106,118,137,156,175,194,206,218,360,388,423,456,491,524,557,583,618,651,744,266,267,654,655,656⟩
abbrev yK (K:W.Frag)(a b:Addr)(c:Bool):Prop:=W.kitOne K (.ref a) (.ref b)=some c
def Xy:List (Key×V):=[(Sum.inr "kind",.str "NAME"),(Sum.inr "base",.str "AMOUNT"),(Sum.inr "each",.str "AMOUNT LOW HIGH"),(Sum.inr "rent",.str "RATE MOST"),(Sum.inr "from",.str "MANY LOW HIGH"),(Sum.inr "upto",.str "MANY LOW HIGH"),(Sum.inr "pay",.str "RATE LOW HIGH"),(Sum.inr "counts",.str "NAME RATE"),(Sum.inr "off",.str "LIMIT RATE"),(Sum.inr "until",.str "LIMIT"),(Sum.inr "round",.str "UNIT WAY"),(Sum.inr "cap",.str "LIMIT EACH NAME")]
def Uc:List (Key×V):=[(Sum.inr "base",.str "parts"),(Sum.inr "each",.str "parts"),(Sum.inr "rent",.str "parts"),(Sum.inr "from",.str "terms"),(Sum.inr "upto",.str "terms"),(Sum.inr "pay",.str "pays"),(Sum.inr "counts",.str "counts"),(Sum.inr "off",.str "offs"),(Sum.inr "until",.str "untils"),(Sum.inr "round",.str "rounds")]
def kd_LONGEST:List (Key×V):=[(Sum.inr "parts",.int 6),(Sum.inr "terms",.int 6),(Sum.inr "pays",.int 4),(Sum.inr "offs",.int 6),(Sum.inr "untils",.int 1),(Sum.inr "rounds",.int 1)]
def ixX:List (Nat×Addr):=[(600,t.zE),(900,t.zH)]
def oy (K:W.Frag)(C:Addr)(st:Stmt):Prop:=∃x q f fd,W.findIn K (.ref C) "__init__"=some (some (.ref f))/\W.isFn K (.ref f)=true/\Fun K x q st f fd/\Vs K C=true/\W.keepIn K (.ref C)=true
def ixG:List (Nat×Str):=List.flatten [[(20,"is_name"),(22,"common_divisor"),(27,"is_written_whole"),(28,"whole_read"),(29,"rate_read"),(31,"name_read"),(36,"most_of"),(37,"unit_read"),(38,"way_read"),(39,"word_read"),(40,"words_read"),(60,"form_of"),(61,"values_of"),(62,"thing_of"),(63,"new_draft"),(64,"fits_in"),(65,"kind_of"),(67,"read"),(69,"_law_cell"),(70,"_law_whole"),(71,"_law_mixed"),(72,"_law_common"),(73,"_law_made"),(74,"_law_name"),(75,"_law_rate"),(76,"_law_shown"),(77,"_law_ages"),(79,"_law_part"),(80,"_law_term"),(81,"_law_words")],[(82,"_law_limit"),(83,"_law_put"),(84,"_law_cap"),(85,"_law_kind"),(86,"_law_rows"),(87,"_law_names"),(88,"_law_odd"),(89,"_law_offs"),(90,"_law_under"),(91,"_law_bare"),(92,"_law_places"),(93,"_law_sorts"),(94,"_law_by_base"),(95,"_law_made_bad"),(96,"_law_behind"),(97,"_law_ghost"),(98,"_law_unknown"),(99,"law")]]
def ixM:List (Nat×Addr×Str):=List.flatten [[(4300,t.zO,"__init__"),(4400,t.zP,"__init__"),(4800,t.zR,"__init__"),(4900,t.zS,"__init__"),(5000,t.zT,"__init__"),(5200,t.zV,"__init__"),(5300,t.zW,"__init__"),(6600,t.zX,"__init__"),(6601,t.zX,"titles_told"),(6602,t.zX,"fits"),(6603,t.zX,"caps_none_twice"),(6604,t.zX,"take"),(6605,t.zX,"office_told")]]
def pA (K:W.Frag)(mg:Str->Option Value)(n:Str)(st:Stmt):Prop:=∃x q f fd,mg n=some (.ref f)/\Fun K x q st f fd
def oz (K:W.Frag)(C:Addr)(n:Str)(st:Stmt):Prop:=∃x q f fd,W.findIn K (.ref C) n=some (some (.ref f))/\W.isFn K (.ref f)=true/\Fun K x q st f fd/\W.makesIn K C=true/\W.keepIn K (.ref C)=true
structure Tx (w:World)(K:W.Frag)(mg:Str->Option Value):Prop where
 fX:∀p∈ixX,oy K p.2 (mS p.1)
 fG:∀p∈ixG,pA K mg p.2 (top p.1)
 fM:∀p∈ixM,oz K p.2.1 p.2.2 (mS p.1)
 kI:∃(f dA:Addr) (oc:Value) (od an:Option Addr) (sl:Array (Option Value)) (kV dc pm cd ct:Value) (td:Tok) (dn:Nat),W.findIn K (.ref t.zN) "__init__"=some (some (.ref f))/\W.isFn K (.ref f)=true/\K.lookup f=some ⟨oc,od,.func (W.fnOf "__init__" "Kind.__init__" (Zp (mS 4200)) (QN (mS 4200)) (Qm (mS 4200)) (.ref dA) kV dc pm an cd ct),sl⟩/\W.codeIn K cd "Kind.__init__"=true/\W.keepIn K (.ref f)=true/\K.lookup dA=some ⟨.type "tuple",none,.seq #[.none,.none,.str "down" td] dn,#[]⟩/\W.makesIn K t.zN=true/\W.keepIn K (.ref t.zN)=true
 bZ:mg "ValueError"=none
 bC:mg "abs"=none
 bD:mg "all"=none
 c7:mg "bool"=none
 c9:mg "enumerate"=none
 aR:mg "int"=none
 aD:mg "isinstance"=none
 aB:mg "len"=none
 aF:mg "list"=none
 cA:mg "max"=none
 aG:mg "range"=none
 cB:mg "set"=none
 aH:mg "str"=none
 cD:mg "sum"=none
 bE:mg "tuple"=none
 cE:mg "zip"=none
 cG:mg "HelpError"=some (.ref t.zA)
 cH:mg "NoAmount"=some (.ref t.zB)
 cI:mg "NoBend"=some (.ref t.zC)
 cJ:mg "NoPerson"=some (.ref t.zD)
 aW:mg "Unknown"=some (.ref t.zE)
 cK:mg "Twice"=some (.ref t.zF)
 aI:mg "NoWord"=some (.ref t.zG)
 aT:mg "NoRow"=some (.ref t.zH)
 cL:mg "Tangled"=some (.ref t.zI)
 cM:mg "Jumps"=some (.ref t.zJ)
 cN:mg "Widens"=some (.ref t.zK)
 cP:mg "TooMany"=some (.ref t.zL)
 cQ:mg "NoNews"=some (.ref t.zM)
 cR:mg "Kind"=some (.ref t.zN)
 cT:mg "Cap"=some (.ref t.zO)
 bF:mg "Office"=some (.ref t.zP)
 j6:mg "Part"=some (.ref t.zQ)
 cU:mg "Base"=some (.ref t.zR)
 cV:mg "Each"=some (.ref t.zS)
 cW:mg "Rent"=some (.ref t.zT)
 j8:mg "Term"=some (.ref t.zU)
 cX:mg "From"=some (.ref t.zV)
 cY:mg "Upto"=some (.ref t.zW)
 cZ:mg "Reader"=some (.ref t.zX)
 aL:W.excIn K t.zG Mr "ValueError.__new__"=true
 d5:JJ mg "LETTERS" (.str "abcdefghijklmnopqrstuvwxyz")
 d6:JJ mg "LONGEST_NAME" (.int 8)
 d7:JJ mg "OLDEST" (.int 150)
 bG:JJ mg "MOST_COINS" (.int 1000000000)
 d8:JJ mg "FIGURES" (.str "0123456789")
 d9:JJ mg "MOST_FIGURES" (.int 10)
 aX:JJ mg "MOST_OF_RATES" (.int 9999)
 bH:PK K mg "AGES" t.zY [.str "LOW",.str "HIGH"]
 dB:JJ mg "MOST_HEADS" (.int 60)
 bI:PK K mg "WAYS" t.zZ [.str "down",.str "up",.str "near"]
 bJ:KDic w K mg "FORMS" t.yA Xy
 aY:KDic w K mg "LISTS" t.yB Uc
 bK:KDic w K mg "LONGEST" t.yC kd_LONGEST
 dI:JJ mg "MOST_KINDS" (.int 8)
 dJ:JJ mg "MOST_CAPS" (.int 4)
 dM:W.exmOne K (.ref t.zG) (.ref t.zG)=some true
 dN:W.exmOne K (.ref t.zH) (.ref t.zH)=some true
 dO:W.exmOne K (.ref t.zH) (.ref t.zA)=some true
 dP:W.exmOne K (.ref t.zE) (.ref t.zE)=some true
 dQ:yK K t.zH t.zB false
 dR:yK K t.zH t.zC false
 dS:yK K t.zH t.zD false
 dU:yK K t.zH t.zE false
 dW:yK K t.zH t.zF false
 dX:yK K t.zH t.zG false
 dY:yK K t.zH t.zH true
 dZ:yK K t.zH t.zI false
 eA:yK K t.zH t.zJ false
 eB:yK K t.zH t.zK false
 eD:yK K t.zH t.zL false
 eE:yK K t.zH t.zM false
 eF:yK K t.zP t.zP true
 eG:W.kitOne K (.ref t.zH) (.type "ValueError")=some true
 aE:Zs K t.zH
 eI:Zs K t.zE
 aM:Cls K t.zN
 j9:IsC K t.zN
 eJ:NoAttr K t.zN "title"
 eK:NoAttr K t.zN "parts"
 eM:NoAttr K t.zN "terms"
 eN:NoAttr K t.zN "pays"
 eO:NoAttr K t.zN "counts"
 eQ:NoAttr K t.zN "offs"
 eR:NoAttr K t.zN "limit"
 eS:NoAttr K t.zN "unit"
 eT:NoAttr K t.zN "way"
 aU:Cls K t.zO
 jA:IsC K t.zO
 eU:NoAttr K t.zO "limit"
 eV:NoAttr K t.zO "each"
 bL:NoAttr K t.zO "titles"
 aZ:Cls K t.zP
 eW:IsC K t.zP
 eX:NoAttr K t.zP "kinds"
 eY:NoAttr K t.zP "caps"
 eZ:Cls K t.zR
 jB:IsC K t.zR
 f9:NoAttr K t.zR "amount"
 b7:Cls K t.zS
 jC:IsC K t.zS
 fI:NoAttr K t.zS "amount"
 fJ:NoAttr K t.zS "low"
 fK:NoAttr K t.zS "high"
 bM:Cls K t.zT
 jD:IsC K t.zT
 fQ:NoAttr K t.zT "rate"
 fU:NoAttr K t.zT "most"
 b8:Cls K t.zV
 jE:IsC K t.zV
 fW:NoAttr K t.zV "many"
 fY:NoAttr K t.zV "low"
 fZ:NoAttr K t.zV "high"
 b9:Cls K t.zW
 jF:IsC K t.zW
 gF:NoAttr K t.zW "many"
 gG:NoAttr K t.zW "low"
 gH:NoAttr K t.zW "high"
 aC:Cls K t.zX
 jG:IsC K t.zX
 aN:NoAttr K t.zX "drafts"
 aP:NoAttr K t.zX "caps"
 aV:NoAttr K t.zX "asked_for"
 bN:Mu K t.zH
 bO:NoAttr K t.zH "place"
 bP:Mu K t.zE
 bQ:NoAttr K t.zE "title"
section
variable {X:Cx} {x:Str} {p pos pos':Pos} {e a b:Expr} {es:List Expr} {te ta tb:TE} {tl:TA}
def A1 (he0:PE X e0 te0)(se0:starEach [e0] X.env=(false,eval e0 X.env)::starEach [] X.env:=by rfl):=Qp he0 Qz se0
def A3 (he0:PE X e0 te0)(he1:PE X e1 te1)(se0:starEach [e0,e1] X.env=(false,eval e0 X.env)::starEach [e1] X.env:=by rfl)(se1:starEach [e1] X.env=(false,eval e1 X.env)::starEach [] X.env:=by rfl):=Qp he0 (Qp he1 Qz se1) se0
def IZ (he0:PE X e0 te0)(he1:PE X e1 te1)(he2:PE X e2 te2)(se0:starEach [e0,e1,e2] X.env=(false,eval e0 X.env)::starEach [e1,e2] X.env:=by rfl)(se1:starEach [e1,e2] X.env=(false,eval e1 X.env)::starEach [e2] X.env:=by rfl)(se2:starEach [e2] X.env=(false,eval e2 X.env)::starEach [] X.env:=by rfl):=Qp he0 (Qp he1 (Qp he2 Qz se2) se1) se0
def gu {e3:Expr}{te3:TE}(he0:PE X e0 te0)(he1:PE X e1 te1)(he2:PE X e2 te2)(he3:PE X e3 te3)(se0:starEach [e0,e1,e2,e3] X.env=(false,eval e0 X.env)::starEach [e1,e2,e3] X.env:=by rfl)(se1:starEach [e1,e2,e3] X.env=(false,eval e1 X.env)::starEach [e2,e3] X.env:=by rfl)(se2:starEach [e2,e3] X.env=(false,eval e2 X.env)::starEach [e3] X.env:=by rfl)(se3:starEach [e3] X.env=(false,eval e3 X.env)::starEach [] X.env:=by rfl):=Qp he0 (Qp he1 (Qp he2 (Qp he3 Qz se3) se2) se1) se0
def Ig {e3:Expr}{te3:TE}{e4:Expr}{te4:TE}(he0:PE X e0 te0)(he1:PE X e1 te1)(he2:PE X e2 te2)(he3:PE X e3 te3)(he4:PE X e4 te4)(se0:starEach [e0,e1,e2,e3,e4] X.env=(false,eval e0 X.env)::starEach [e1,e2,e3,e4] X.env:=by rfl)(se1:starEach [e1,e2,e3,e4] X.env=(false,eval e1 X.env)::starEach [e2,e3,e4] X.env:=by rfl)(se2:starEach [e2,e3,e4] X.env=(false,eval e2 X.env)::starEach [e3,e4] X.env:=by rfl)(se3:starEach [e3,e4] X.env=(false,eval e3 X.env)::starEach [e4] X.env:=by rfl)(se4:starEach [e4] X.env=(false,eval e4 X.env)::starEach [] X.env:=by rfl):=Qp he0 (Qp he1 (Qp he2 (Qp he3 (Qp he4 Qz se4) se3) se2) se1) se0
def BN (K:W.Frag)(ha:PE X a ta)(hb:PE X b tb)(h:X.K=K:=by rfl)(hs:NA b:=by exact λ_ _=>rfl):PE X (.Subscript a b pos) (IS (O3 K) ta tb):=Ez (oB K h) ha hb hs
def BM (K:W.Frag)(i:Nat){c:Int}{j}(h:X.K=K:=by rfl)(hN:X.N[i]?=some x:=by rfl)(hv:lS X.env.scope x:=by first|exact Or.inl rfl|exact Or.inr (Or.inl rfl)|exact Or.inr (Or.inr rfl))(hd:(x==("__debug__":Str))=false:=by decide)(hcd:(x==("__classdict__":Str))=false:=by decide):PE X (.Subscript (.Name x p) (.Constant (.int c) j pos') pos) (IS (O3 K) (Xj i) (tC (.int c))):=BN K (pu i hN hv hd hcd) Qd h
def A5 (i:Nat)(he:PE X e te)(hN:X.N.Nodup:=by first|assumption|exact C3 (by kernel_rfl))(hi:X.N[i]?=some x:=by rfl)(hx:ic X.env.scope x:=by first|exact Or.inl rfl|exact Or.inr rfl)(hs:swapsWith e (some (.Name x pos')) pos.line X.env=pure false:=by rfl)(hf:X.fn x=true∨X.env.scope.names.lookup x=some .local:=by first|exact .inl rfl|exact .inr rfl|assumption):PS X (.Assign [.Name x pos'] e pos) (VQ te (XW i)):=SL hN hi hx he hs hf
def GE (i:Nat)(hN:X.N.Nodup:=by first|assumption|exact C3 (by kernel_rfl))(hi:X.N[i]?=some x:=by rfl)(hx:ic X.env.scope x:=by first|exact Or.inl rfl|exact Or.inr rfl)(hf:X.fn x=true∨X.env.scope.names.lookup x=some .local:=by first|exact .inl rfl|exact .inr rfl|assumption):PG X (.Name x pos) (XW i):=Yh hN hi hx hf
def A7 {k:Nat}{sp:Sp}(C:GF X.prog X.w X.K X.mg X.base k x ps sp)(ha:PA X (e::es) tl)(hr:Room j X.A:=by assumption)(hj:k<=j:=by decide)(hg:Gl X x:=by rfl)(hd:(x==("__debug__":Str))=false:=by decide)(he:starEach (e::es) X.env=(false,eval e X.env)::starEach es X.env:=by rfl)(hpl:(backTo pos (starEach es X.env)).any (·.1)=false:=by rfl):=SX (p:=p) (pos:=pos) C (GG hr hj) hg ha hd he hpl
def A8 {r:R2}(ho:OpR X (compareOp op) r)(ha:PE X a ta)(hb:PE X b tb)(h:op≠.In:=by decide)(h2:op≠.NotIn:=by decide):PT X (.Compare a [op] [b] pos) (uB (IS r ta tb)):=ZA ho ha hb (LB _ h h2)
def jX {r:R2}(ho:OpR X (compareOp op) r)(ha:PE X a ta)(hb:PE X b tb)(h:op≠.In:=by decide)(h2:op≠.NotIn:=by decide):PE X (.Compare a [op] [b] pos) (IS r ta tb):=YR ho ha hb (LB _ h h2)
def QM (K:W.Frag){j:Nat}(h:X.K=K:=by rfl)(hr:Room j X.A:=by assumption):=m7 K h hr.units
def VM (K:W.Frag){j:Nat}(h:X.K=K:=by rfl)(hr:Room j X.A:=by assumption):=ny K h hr.units
def JX (K:W.Frag){j:Nat}(h:X.K=K:=by rfl)(hr:Room j X.A:=by assumption):=DL K h hr.units
def Il (K:W.Frag){f:Str}(he:PE X e te)(h:X.K=K:=by rfl)(hb:attributeBase e f X.env (eval e X.env)=eval e X.env:=by rfl):PE X (.Attribute e f pos) (B1 K te f):=RB K h he hb
def IC (K:W.Frag)(hm:X.mg "len"=none)(ha:PE X e te)(h:X.K=K:=by rfl)(hg:Gl X "len":=by rfl)(hs:starEach [e] X.env=(false,eval e X.env)::starEach [] X.env:=by rfl):=Qw (p:=p) (pos:=pos) (DG K h) hg hm boot_len (Qp ha Qz hs) (he:=hs)
def fh {tb:TS}(hi:PI X tg iter wi)(hg:PG X tg g)(hb:PSs X body tb)(hp:PassesOwn (model X.prog X.w) X.A X.env X.xe:=by exact AF)(hc:X.calm=true:=by rfl)(hs:∀x,foldedSetIterable iter X.env x=pure x:=by intro _;rfl):PS X (.For tg iter body [] pos) (B0 wi g tb):=Ga hp hc hi hg hb hs
def Ia {i:Int}{j}:PE X (.UnaryOp .USub (.Constant (.int i) j pos') pos) (mJ (sU λi=>.int (-i)) (tC (.int i))):=Tf GK Qd
def Ij (N:List Str)(caps:List (Option Nat)){tg elt iter:Expr}{ifs:List Expr}{scope:Scope}{cl:List (Str×Addr)}{wi:TI}{g:TG}{tt:TT}{te:TE}(hi:PI X tg iter wi)(hg:∀{C s H ex},PG (GC X scope cl N C s H ex) tg g)(ht:∀{C s H ex},gv (GC X scope cl N C s H ex) ifs tt)(he:∀{C s H ex},PE (GC X scope cl N C s H ex) elt te)(hc:X.calm=true:=by rfl)(O:ZQ X scope cl N caps:=by exact Gx)(hs:∀v,foldedSetIterable iter X.env v=pure v:=by intro _;rfl):PE X (.ListComp elt [⟨tg,iter,ifs,0⟩] scope pos) (X1 caps wi g tt te):=V4 hc O hi (λ_ _ _ _=>hg) (λ_ _ _ _=>ht) (λ_ _ _ _=>he) hs
end
local macro_rules | `(tactic| walk_at "sc") => `(tactic| exact ⟨rfl, rfl, rfl, by decide +kernel, rfl, by decide +kernel, by decide +kernel⟩)
theorem Dz {φ}(vs)(H)(Q)(E:XK)(h:mm φ vs H Q E):vs.length=1:=by
 obtain⟨_,rfl,_⟩:=h;rfl
theorem Dy {φ}(vs)(H)(Q)(E:XK)(h:ml φ vs H Q E):vs.length=2:=by
 obtain⟨_,_,rfl,_⟩:=h;rfl
theorem Dv {φ}(vs)(H)(Q)(E:XK)(h:lp φ vs H Q E):vs.length=1:=by
 obtain⟨_,rfl,_⟩:=h;rfl
theorem Eb {φ}(vs)(H)(Q)(E:XK)(h:HM φ vs H Q E):vs.length=10:=by
 obtain⟨_,_,_,_,_,_,_,_,_,_,rfl,_⟩:=h;rfl
theorem Du {φ}(vs)(H)(Q)(E:XK)(h:mi φ vs H Q E):vs.length=2:=by
 obtain⟨_,_,rfl,_⟩:=h;rfl
theorem Dt {φ}(vs)(H)(Q)(E:XK)(h:mh φ vs H Q E):vs.length=3:=by
 obtain⟨_,_,_,rfl,_⟩:=h;rfl
theorem Ds {φ}(vs)(H)(Q)(E:XK)(h:mf φ vs H Q E):vs.length=4:=by
 obtain⟨_,_,_,_,rfl,_⟩:=h;rfl
structure Ar (sp sp':Sp)(m:Nat):Prop where
 im:∀vs H Q E,sp vs H Q E->sp' vs H Q E
 ln:∀vs H Q E,sp' vs H Q E->vs.length=m
theorem Xk {φ}:Ar (Sp1M φ) (lp φ) 1:=⟨Sp1M.imp,Dv⟩
theorem Y6 {φ}:Ar (Sp2M φ) (mi φ) 2:=⟨Sp2M.imp,Du⟩
theorem JU {φ}:Ar (Sp3M φ) (mh φ) 3:=⟨Sp3M.imp,Dt⟩
theorem By {φ}:Ar (Sp4M φ) (mf φ) 4:=⟨Sp4M.imp,Ds⟩
theorem Uy {φ}:Ar (Rp1M φ) (mm φ) 1:=⟨Rp1M.imp,Dz⟩
theorem HL {φ}:Ar (Rp2M φ) (ml φ) 2:=⟨Rp2M.imp,Dy⟩
theorem Zl {α}{i:Nat}{a}:∀{l:List (Nat×α)},l.lookup i=some a->(i,a)∈l
 | (j,b)::l,h=>by
  rw[List.lookup_cons] at h;split at h
  ·rename_i e;cases h;rw[beq_iff_eq.mp e];exact .head _
  ·exact .tail _ (Zl h)
abbrev jj (st:Stmt)(ps:List Str):Prop:=∀(x q:Str) (kV doc pm:Value) (an:Option Addr) (cdv ct:Value) (us:List Value),us.length=ps.length->bindArgs (W.fnOf x q (Zp st) (QN st) (Qm st) .none kV doc pm an cdv ct) ⟨us,[]⟩=pure (ps.zip us)
local macro_rules | `(tactic| walk_at "b") => `(tactic| first | exact fun _ _ _ _ _ _ _ _ us hl => Hd.len1 (P := fun us => bindArgs _ ⟨us, []⟩ = pure (List.zip _ us)) (fun _ => rfl) us hl | exact fun _ _ _ _ _ _ _ _ us hl => Hd.len2 (P := fun us => bindArgs _ ⟨us, []⟩ = pure (List.zip _ us)) (fun _ _ => rfl) us hl | exact fun _ _ _ _ _ _ _ _ us hl => Hd.len3 (P := fun us => bindArgs _ ⟨us, []⟩ = pure (List.zip _ us)) (fun _ _ _ => rfl) us hl | exact fun _ _ _ _ _ _ _ _ us hl => Hd.len4 (P := fun us => bindArgs _ ⟨us, []⟩ = pure (List.zip _ us)) (fun _ _ _ _ => rfl) us hl | exact fun _ _ _ _ _ _ _ _ us hl => Hd.len5 (P := fun us => bindArgs _ ⟨us, []⟩ = pure (List.zip _ us)) (fun _ _ _ _ _ => rfl) us hl)
section
variable {P:Program} {w:World} {K:W.Frag} {mg:Str->Option Value} {base:Heap} {k:Nat} {n:Str} {C:Addr} {ps:List Str} {sp sp':Sp}
abbrev mw (P:Program)(w:World)(K:W.Frag)(mg:Str->Option Value)(base:Heap)(st:Stmt)(N:List Str)(k:Nat)(sp':Sp):Prop:=∀{q:Str} {f:Addr} {cdv:Value} {A:Around} {outer:List Env} {s:Shared} {vs:List V} {E:XK} (H:Hp) (Q:VK),N.Nodup->Room k (A.deeper (envOfC q (Qm st) s.heap.objs.size f cdv))->sp' vs H Q E->∃t,PSs (Xi Ih P w K mg base N q (Qm st) f cdv A outer s H E).nox (QN st) t/\(t { nx:=λ_ H'=>Q .non H',rt:=Q }) (start N vs) H
theorem Zf (T:Tx w K mg)(i:Nat)(N)(c:Ar sp sp' ps.length)(hb:mw P w K mg base (top i) N k sp')(hn:ixG.lookup i=some n:=by rfl)(S:QW N ps (Qm (top i)):=by walk_at "sc")(b:jj (top i) ps:=by walk_at "b"):GF P w K mg base (k+1) n ps sp:=by
 obtain⟨x,q,f,fd,a,F⟩:=T.fG _ (Zl hn);exact⟨f,fd,(F.ok S c.ln λcdv A outer s H vs Q E J h=>hb H Q S.nd J h).imp c.im,F.binds (b x q),F.kp,a⟩
theorem VB (T:Tx w K mg)(i:Nat)(N)(c:Ar sp sp' ps.length)(hb:∀{q:Str}{f:Addr}{cdv:Value}{A:Around}{outer:List Env}{s:Shared}{vs:List V}{E:XK}(H:Hp) (Q:VK),N.Nodup->Room k (A.deeper (envOfC q (Qm (top i)) s.heap.objs.size f cdv))->sp' vs H Q E->∃t,PSs (Xi (CXn P w) P w K mg base N q (Qm (top i)) f cdv A outer s H E) (QN (top i)) t/\(t { nx:=λ_ H'=>Q .non H',rt:=Q }) (start N vs) H)(hn:ixG.lookup i=some n:=by rfl)(S:QW N ps (Qm (top i)):=by walk_at "sc")(b:jj (top i) ps:=by walk_at "b"):WI P w K mg base (k+1) n ps sp:=by
 obtain⟨x,q,f,fd,a,F⟩:=T.fG _ (Zl hn);exact⟨f,fd,(F.okN S c.ln λcdv A outer s H vs Q E J h=>hb H Q S.nd J h).imp c.im,F.binds (b x q),F.kp,a⟩
abbrev Dd (P:Program)(w:World)(K:W.Frag)(mg:Str->Option Value)(base:Heap)(st:Stmt)(N:List Str)(k:Nat)(sp':Sp):Prop:=∀{q:Str} {f:Addr} {cdv:Value} {A:Around} {outer:List Env} {s:Shared} {vs:List V} {E:XK} (H:Hp) (Q:VK),N.Nodup->Room k (A.deeper (envOfC q (Qm st) s.heap.objs.size f cdv))->sp' vs H Q E->∃t,PSs (Xi (CXd P w) P w K mg base N q (Qm st) f cdv A outer s H E) (QN st) t/\(t { nx:=λ_ H'=>Q .non H',rt:=Q }) (start N vs) H
theorem DN (T:Tx w K mg)(i:Nat)(N)(c:Ar sp sp' ps.length)(hb:Dd P w K mg base (top i) N k sp')(hn:ixG.lookup i=some n:=by rfl)(S:QW N ps (Qm (top i)):=by walk_at "sc")(b:jj (top i) ps:=by walk_at "b"):HR P w K mg base (k+1) n ps sp:=by
 obtain⟨x,q,f,fd,a,F⟩:=T.fG _ (Zl hn);exact⟨f,fd,(F.okD S c.ln λcdv A outer s H vs Q E J h=>hb H Q S.nd J h).imp c.im,F.binds (b x q),F.kp,a⟩
theorem E7 (T:Tx w K mg)(i:Nat)(N)(c:Ar sp sp' ps.length)(hb:Dd P w K mg base (mS i) N k sp')(hn:ixM.lookup i=some (C,n):=by rfl)(S:QW N ps (Qm (mS i)):=by walk_at "sc")(b:jj (mS i) ps:=by walk_at "b"):BK P w K mg base (k+1) C n ps sp:=by
 obtain⟨x,q,f,fd,a,j,F,_⟩:=T.fM _ (Zl hn);exact⟨f,fd,(F.okD S c.ln λcdv A outer s H vs Q E J h=>hb H Q S.nd J h).imp c.im,F.binds (b x q),⟨a,j,F.kp⟩⟩
theorem E6 (T:Tx w K mg)(i:Nat)(N)(c:Ar sp sp' ps.length)(hb:∀{q:Str}{f:Addr}{cdv:Value}{A:Around}{outer:List Env}{s:Shared}{vs:List V}{E:XK}(H:Hp) (Q:VK),N.Nodup->RoomA k (A.deeper (envOfC q (Qm (mS i)) s.heap.objs.size f cdv))->sp' vs H Q E->∃t,PSs (ib P w K mg base N q (Qm (mS i)) f cdv A outer s H) (QN (mS i)) t/\(t { nx:=λ_ H'=>Q .non H',rt:=Q }) (start N vs) H)(hn:ixX.lookup i=some C:=by rfl)(S:QW N ps (Qm (mS i)):=by walk_at "sc")(b:jj (mS i) ps:=by walk_at "b"):BJ P w K mg base (k+1) C ps sp:=by
 obtain⟨x,q,f,fd,a,j,F,J,mk⟩:=T.fX _ (Zl hn);exact⟨f,fd,(F.okA S c.ln λcdv A outer s H vs Q E U h=>hb H Q S.nd U h).imp c.im,F.binds (b x q),⟨J,a,j,mk⟩⟩
theorem DM {sp sp':Addr->Sp}(T:Tx w K mg)(i:Nat)(N:List Str)(c:∀ea,Ar (sp ea) (sp' ea) ps.length)(hb:∀{q:Str}{f:Addr}{cdv:Value}{A:Around}{outer:List Env}{s:Shared}{vs:List V}{E:XK}(ea:Addr) (H:Hp) (Q:VK),N.Nodup->RoomH k (A.deeper (envOfC q (Qm (top i)) s.heap.objs.size f cdv)) ea->sp' ea vs H Q E->∃t,PSs (ib P w K mg base N q (Qm (top i)) f cdv A outer s H) (QN (top i)) t/\(t { nx:=λ_ H'=>Q .non H',rt:=Q }) (start N vs) H)(hn:ixG.lookup i=some n:=by rfl)(S:QW N ps (Qm (top i)):=by walk_at "sc")(b:jj (top i) ps:=by walk_at "b"):HQ P w K mg base (k+1) n ps sp:=by
 obtain⟨x,q,f,fd,a,F⟩:=T.fG _ (Zl hn);exact⟨f,fd,(F.okH S (λea=>(c ea).ln) λcdv A ea outer s H vs Q E J h=>hb ea H Q S.nd J h).imp λea=>(c ea).im,F.binds (b x q),F.kp,a⟩
theorem Pw (T:Tx w K mg)(i:Nat)(N)(c:Ar sp sp' ps.length)(hb:mw P w K mg base (mS i) N k sp')(hn:ixM.lookup i=some (C,n):=by rfl)(S:QW N ps (Qm (mS i)):=by walk_at "sc")(b:jj (mS i) ps:=by walk_at "b"):GB P w K mg base (k+1) C n ps sp:=by
 obtain⟨x,q,f,fd,a,j,F,_⟩:=T.fM _ (Zl hn);exact⟨f,fd,(F.ok S c.ln λcdv A outer s H vs Q E J h=>hb H Q S.nd J h).imp c.im,F.binds (b x q),⟨a,j,F.kp⟩⟩
theorem Uw (T:Tx w K mg)(i:Nat)(N)(c:Ar sp sp' ps.length)(hb:mw P w K mg base (mS i) N k sp')(hn:ixM.lookup i=some (C,("__init__":Str)):=by rfl)(S:QW N ps (Qm (mS i)):=by walk_at "sc")(b:jj (mS i) ps:=by walk_at "b"):JK P w K mg base (k+1) C ps sp:=by
 obtain⟨x,q,f,fd,a,j,F,J,mk⟩:=T.fM _ (Zl hn);exact⟨f,fd,(F.ok S c.ln λcdv A outer s H vs Q E U h=>hb H Q S.nd U h).imp c.im,F.binds (b x q),⟨J,a,j,mk⟩⟩
end
theorem Wd:QW ["self","title","parts","terms","pays","counts","offs","limit","unit","way"] ["self","title","parts","terms","pays","counts","offs","limit","unit","way"] (Qm (mS 4200)):=by walk_at "sc"
theorem Sz:QW ["_law_script","_law_names_here","_law_ahead","_law_bad","_law_rows_here","_law_handed","_law_found","_law_good"] ["_law_script"] (Qm (top 99)):=by walk_at "sc"
section
variable {P:Program} {w:World} {K:W.Frag} {mg:Str->Option Value} {base:Heap} (T:Tx w K mg)
seal PSs PS PE PA PI
def VT (K:W.Frag):Sp:=lp λx H Q=>∃(a:Addr) (ns:List Int),x=.ref a/\A6 K H a (ns.map V.int)/\ns.length<=63/\∀H',Q (.bl true) H'
theorem VS {ns:List Int}(hl:ns.length<=63)(_:PH H)(hS:A6 K H a (ns.map V.int)):VT K [.ref a] H (λv _=>v=.bl true) λ_ _ _=>False:=⟨_,rfl,a,ns,rfl,hS,hl,λ_=>rfl⟩
inductive jS (x:V)(y:V)(H)(Q:VK):Prop
 | mk (a b:Int) (h1:x=.int a) (h2:y=.int b) (h3:0<=a) (h4:0<=b) (h5:Q (.int (Int.gcd a b)) H):jS x y H Q
inductive Ol (x:V)(y:V)(H)(Q:VK):Prop
 | mk (a b:Int) (h1:x=.int a) (h2:y=.int b) (h3:Q (.int (Int.gcd a b)) H):Ol x y H Q
inductive Om (x:V)(y:V)(H)(Q:VK):Prop
 | mk (t b:Int) (h1:x=.int t) (h2:y=.int b) (h3:b≠0) (h4:Bd 9000 b) (h5:∀p,H p=none->Q (.ref p) (upd H p (.tup [.int (XY t b),.int (XZ t b)]))):Om x y H Q
def cl (ns:List Int)(k:Int):Int:=ns.getD k.toNat 0
inductive Os (K)(x:V)(y:V)(H:Hp)(Q:VK):Prop
 | mk (a:Addr) (ns:List Int) (k:Int) (h1:x=.ref a) (h2:y=.int k) (h3:A6 K H a (ns.map V.int)) (h4:0<=k) (h5:Q (.int (cl ns k)) H):Os K x y H Q
inductive Ip (x:V)(H)(Q:VK):Prop
 | mk (i:Int) (h1:x=.int i) (h2:Q (.bl true) H):Ip x H Q
theorem gI (T:Tx w K mg):GF P w K mg base 1 "common_divisor" ["one","other"] (Sp2M jS):=by
 refine Zf T 22 ["one","other","rest"] Y6 λH Q a4 hr h=>?_
 obtain⟨_,_,rfl,a,b,rfl,rfl,ha,hb,q⟩:=h;refine⟨_,(Qb (V0 AF (A8 (VM K) (pu 1) Qd) (Qb (A5 2 (Qg Qo (pu 0) (pu 1))) (Qb (A5 0 (pu 1)) (Qf (A5 1 (pu 2)))))) (Qf (Qk (pu 0)))),?_⟩;walk_at "rd";refine⟨λm U H'=>∃(a' b':Int) (r:Option V),U=[some (.int a'),some (.int b'),r]/\H'=H/\0<=a'/\0<=b'/\b'.toNat=m/\Int.gcd a' b'=Int.gcd a b,⟨_,a,b,none,rfl,rfl,ha,hb,rfl,rfl⟩,?_⟩;rintro m _ _ ⟨a',b',r,rfl,rfl,ha',hb',rfl,hg⟩;walk_at "rd";by_cases J:b'=0
 ·subst J;rw [DY (by simp)];have e:(Int.gcd a' 0:Int)=a':=Ug ha';rw [hg] at e;rw [<-e];exact q
 ·rw[DZ (by simp[J])];refine⟨λU H'=>∃m',m'<b'.toNat/\∃(a'' b'':Int) (r:Option V),U=[some (.int a''),some (.int b''),r]/\H'=_/\0<=a''/\0<=b''/\b''.toNat=m'/\Int.gcd a'' b''=Int.gcd a b,λ_ _ h=>h,?_⟩;refine⟨by omega,(a' % b').toNat,?_,b',a' % b',_,rfl,rfl,hb',Ci _ J,rfl,?_⟩
  ·have:=Cq a' (b:=b') (by omega);have:=Ci a' J;omega
  ·rw[Uh ha' (by omega)];exact hg
def YY (c:Nat):Bool:=decide (97<=c)&&decide (c<=122)
def JS:V->Bool
 | .str z=>decide (1<=z.length)&&decide (z.length<=8)&&z.cps.toList.all YY
 | _=>false
inductive js (H:Hp):V->Prop
 | non:js H .non
 | bl (b:Bool):js H (.bl b)
 | int (i:Int):js H (.int i)
 | str (z:Str) (ha:Q6 z) (hl:z.length<=1000):js H (.str z)
 | lst (p:Addr) (xs:List V) (h:H p=some (.lst xs)):js H (.ref p)
 | tup (p:Addr) (xs:List V) (h:H p=some (.tup xs)):js H (.ref p)
inductive jQ (K:W.Frag)(x)(H)(Q:VK):Prop
 | mk (h1:js H x) (h2:∀H',Same H H'->Q (.bl (JS x)) H'):jQ K x H Q
def og (z:Str)(H:Hp)(i:Nat)(acc:List V)(σ':L2.St)(H':Hp):Prop:=∃x0,σ'=[x0]/\Same H H'/\acc=((z.cps.toList.take i).map YY).map V.bl
theorem gK (T:Tx w K mg):GF P w K mg base 1 "is_name" ["thing"] (Sp1M (jQ K)):=by
 refine Zf T 20 ["thing"] Xk λH Q a6 hr h=>?_
 obtain⟨_,rfl,ht,q⟩:=h;refine⟨_,(Qb (Qr (PW.pt (YO (YD (Z5 (Qw (LP K rfl) (by rfl) T.aD boot_isinstance (A3 (pu 0) (V2 T.aH boot_str))))) (YO (A8 (QM K) (pu 0) Qe) (Wg (A8 YF (IC K T.aB (pu 0)) (Xu T.d6)))))) (Qf (Qk Jf)) Ql) (Qf (Qk (Qw (KA K rfl rfl) (by rfl) T.bD boot_all (A1 (Ij ["sign"] [none] (Ln (pu 0)) (GE 0) QU (YR (mQ K rfl) (pu 0) (Xu T.d5) (by with_unfolding_all rfl)))))))),?_⟩;cases ht with
 | non=>
  left;refine W3 .non (by rfl) ?_;left;exact q _ (AK _)
 | bl b=>
  left;exact q _ (AK _)
 | int i=>
  left;exact q _ (AK _)
 | lst p xs h=>
  left;refine W3 (.lst h) (by rfl) ?_;left;exact q _ (AK _)
 | tup p xs h=>
  left;refine W3 (.tup h) (by rfl) ?_;left;exact q _ (AK _)
 | str z ha hl=>
  left;refine W3 (.str z) (by rfl) ?_;left;have hsz:z.cps.size=z.length:=rfl;by_cases U:z=Str.ofString ""
  ·rw[DZ U];have e:JS (.str z)=false:=by rw[U];decide +kernel
   rw[e] at q;exact q _ (AK _)
  ·rw[DY U];have l1:1<=z.length:=by
    rcases Nat.eq_zero_or_pos z.length with e|e
    ·refine absurd ?_ U;have e':z.cps=#[]:=Array.eq_empty_of_size_eq_zero e;show z=Str.ofString "";obtain⟨cs⟩:=z;cases e';rfl
    ·exact e
   refine⟨_,_,rfl,⟨Qq hl,rfl⟩,?_⟩;left;refine Qs (λc=>?_) (λc=>?_)
   ·have e:JS (.str z)=false:=by
     show(decide (1<=z.length)&&decide (z.length<=8)&&_)=false;rw[Ce (p:=z.length<=8) (by omega),Aa,Bool.false_and]
    rw[e] at q;exact q _ (AK _)
   ·simp only[ZL,MM];left;refine⟨z,rfl,ha,Tt (og z H) ⟨none,rfl,AK _,rfl⟩ (by omega) ?_ ?_⟩
    ·rintro i cc acc _ H2 hv a5 ⟨x0,rfl,g,rfl⟩;have J:=(Array.getElem?_eq_some_iff.mp hv).1;have hc:cc<128:=by
      have:=Array.all_eq_true.mp ha i J;rw[(Array.getElem?_eq_some_iff.mp hv).2] at this;simpa using this
     simp only[ZS];left;refine .inr ⟨_,_,rfl,rfl,?_⟩;have e:=Hq cc hc;unfold Txt.contains at e;rw[DY Cy,e];refine CN.mk J (by rw[D0,D6];omega) ⟨_,rfl,g,?_⟩;have a4:z.cps.toList[i]?=some cc:=by rw[Array.getElem?_toList];exact hv
     rw[CS,a4,D9,D9];rfl
    ·rintro acc _ H2 ⟨x0,rfl,g,rfl⟩ p hp;have e:JS (.str z)=(z.cps.toList.map YY).all id:=by
      show(decide (1<=z.length)&&decide (z.length<=8)&&z.cps.toList.all YY)=_;rw[Ck l1,Ck (p:=z.length<=8) (by omega),Bool.true_and,Bool.true_and,List.all_map];rfl
     have et:z.cps.toList.take z.cps.size=z.cps.toList:=CH (by rw[AQ];exact D2 _);rw[et];have g2:=Qc hp (.lst ((z.cps.toList.map YY).map V.bl));rw[e] at q;exact⟨p,_,rfl,AI Qa,q _ (g.trans g2)⟩
def jy (c:Nat):Bool:=decide (48<=c)&&decide (c<=57)
def zero:Str:=Str.ofString "0"
def OY (z:Str):Bool:=decide (1<=z.length)&&decide (z.length<=10)&&!(decide (z.cps.toList.head?=some 48)&&!decide (z=zero))&&z.cps.toList.all jy
def vl (z:Str):Int:=(NumText.digitsVal z.cps.toList:Nat)
def rdW (z:Str)(m:Int):Option Int:=if OY z=true/\vl z<=m then some (vl z) else none
theorem Ho:∀c<128,Txt.contains "0123456789" ⟨#[c]⟩=(decide (48<=c)&&decide (c<=57)):=by decide +kernel
theorem RU (h:¬z=Str.ofString ""):1<=z.length:=by
 rcases Nat.eq_zero_or_pos z.length with e|e
 ·refine absurd ?_ h;have J:z.cps=#[]:=Array.eq_empty_of_size_eq_zero e;obtain⟨cs⟩:=z;cases J;rfl
 ·exact e
theorem HJ (ha:Q6 z){i c:Nat}(hv:z.cps[i]?=some c):c<128:=by
 have J:=(Array.getElem?_eq_some_iff.mp hv).1;have:=Array.all_eq_true.mp ha i J;rw[(Array.getElem?_eq_some_iff.mp hv).2] at this;simpa using this
theorem RW (h:OY z=true):intText? z=some (vl z)/\z.length<=10:=by
 unfold OY at h;simp only[CV,Ai] at h;obtain⟨⟨⟨h1,h2⟩,_⟩,J⟩:=h;refine⟨intText_digits (λc U=>?_) (λe=>?_) (by omega),h2⟩
 ·have:=C1.mp J c U;unfold jy at this;simpa using this
 ·have:z.cps.toList.length=z.length:=AQ;rw[e] at this;simp at this;omega
inductive kK (K:W.Frag)(x:V)(H)(Q:VK):Prop
 | mk (z:Str) (h1:x=.str z) (h2:Q6 z) (h3:z.length<=1000) (h4:∀H',Same H H'->Q (.bl (OY z)) H'):kK K x H Q
theorem char_eq {c:Nat}:((⟨#[c]⟩:Str)=Str.ofString "0")↔c=48:=by
 have e:Str.ofString "0"=⟨#[48]⟩:=by decide +kernel
 rw[e];constructor
 ·intro h;injection h with h;simpa using h
 ·intro h;rw[h]
theorem gL (T:Tx w K mg):GF P w K mg base 1 "is_written_whole" ["text"] (Sp1M (kK K)):=by
 refine Zf T 27 ["text"] Xk λH Q a7 hr h=>?_
 obtain⟨_,rfl,z,rfl,ha,hl,q⟩:=h;refine⟨_,(Qb (Qr (PW.pt (YO (A8 (QM K) (pu 0) Qe) (Wg (A8 YF (IC K T.aB (pu 0)) (Xu T.d9))))) (Qf (Qk Jf)) Ql) (Qb (Qr (PW.pt (Zz (A8 (QM K) (BM K 0) Qe) (Zh (A8 (VM K) (pu 0) Qe)))) (Qf (Qk Jf)) Ql) (Qf (Qk (Qw (KA K rfl rfl) (by rfl) T.bD boot_all (A1 (Ij ["sign"] [none] (Ln (pu 0)) (GE 0) QU (YR (mQ K rfl) (pu 0) (Xu T.d8) (by with_unfolding_all rfl))))))))),?_⟩;left;have a9:z.cps.toList.length=z.length:=AQ;by_cases c0:z=Str.ofString ""
 ·rw[DZ c0];have e:OY z=false:=by rw[c0];decide +kernel
  rw[e] at q;exact q _ (AK _)
 rw[DY c0];have l1:=RU c0;refine⟨_,_,rfl,⟨Qq hl,rfl⟩,?_⟩;left;refine Qs (λc=>?_) (λa8=>?_)
 ·have e:OY z=false:=by
   unfold OY;rw[Ce (p:=z.length<=10) (by omega),Aa,Bool.false_and,Bool.false_and]
  rw[e] at q;exact q _ (AK _)
 obtain⟨cc,U⟩:∃cc,z.cps.toList[0]?=some cc:=⟨_,D4 (by omega)⟩
 have J:z.cps.toList.head?=some cc:=by rw[List.head?_eq_getElem?];exact U
 refine .inr (.inr ⟨z,0,cc,rfl,rfl,Qq hl,QV (j:=0) U,?_⟩);left;have fin:(!(decide (z.cps.toList.head?=some 48)&&!decide (z=zero)))=true->X1 [none] (Hr (Xj 0)) (XW 0) MY (IS (NN K false) (Xj 0) (tC (V.str "0123456789"))) [some (V.str z)] H λx H1=>Tc K [x] H1 Q:=λok=>by
  have e:OY z=(z.cps.toList.map jy).all id:=by
   unfold OY;rw[Ck l1,Ck (p:=z.length<=10) (by omega),ok,Bool.true_and,Bool.true_and,Bool.true_and,List.all_map];rfl
  rw[e] at q;simp only[ZL,MM];left;refine⟨z,rfl,ha,Tt (λi acc σ' H'=>∃x0,σ'=[x0]/\Same H H'/\acc=((z.cps.toList.take i).map jy).map V.bl) ⟨none,rfl,AK _,rfl⟩ (by show z.length<=1000;omega) ?_ ?_⟩
  ·rintro i cc acc _ H2 hv a6 ⟨x0,rfl,g,rfl⟩;have a4:=(Array.getElem?_eq_some_iff.mp hv).1;simp only[ZS];left;refine .inr ⟨_,_,rfl,rfl,?_⟩;have e:=Ho cc (HJ ha hv);unfold Txt.contains at e;rw[DY Cy,e];refine CN.mk a4 (by rw[D0,D6];omega) ⟨_,rfl,g,?_⟩;have a5:z.cps.toList[i]?=some cc:=by rw[Array.getElem?_toList];exact hv
   rw[CS,a5,D9,D9];rfl
  ·rintro acc _ H2 ⟨x0,rfl,g,rfl⟩ p hp;have et:z.cps.toList.take z.cps.size=z.cps.toList:=CH (by rw[AQ];exact D2 _);rw[et];have g2:=Qc hp (.lst ((z.cps.toList.map jy).map V.bl));exact⟨p,_,rfl,AI Qa,q _ (g.trans g2)⟩
 refine Qs (λe0=>?_) (λe0=>fin ?_)
 ·refine Qs (λe1=>?_) (λe1=>fin ?_)
  ·have e:OY z=false:=by
    unfold OY;rw[J,char_eq.mp e0,Ck rfl,Ce (p:=z=zero) e1];simp
   rw[e] at q;exact q _ (AK _)
  ·have e1:z=zero:=Classical.not_not.mp e1;rw[Ck e1];simp
 ·rw[J,Ce (p:=some cc=some 48) (λh=>e0 (char_eq.mpr (CD h)))];rfl
inductive kC (K:W.Frag)(C)(x y:V)(H:Hp)(Q:VK)(E:XK):Prop
 | mk (z:Str) (m:Int) (h1:x=.str z) (h2:y=.int m) (h3:Q6 z) (h4:z.length<=1000) (h5:∀n,rdW z m=some n->∀H',Same H H'->Q (.int n) H') (h6:rdW z m=none->∀H',Same H H'->E (.ref C) none H'):kC K C x y H Q E
theorem aQ (T:Tx w K mg):WI P w K mg base 2 "whole_read" ["text","most"] (Rp2M (kC K t.zG)):=by
 refine VB T 28 ["text","most","number"] HL λH Q a4 hr h=>?_
 obtain⟨_,_,rfl,z,m,rfl,rfl,ha,hl,q1,U⟩:=h;refine⟨_,(Qb (Qr (YD (Z5 (A7 (gL T) (A1 (pu 0))))) (Qf (ZC XI rfl rfl T.aI T.aL AM (by decide +kernel) AM (A1 Qe))) Ql) (Qb (A5 2 (Qv Mp (by rfl) T.aR boot_int (A1 (pu 0)))) (Qb (Qr (A8 YF (pu 2) (pu 1)) (Qf (ZC XI rfl rfl T.aI T.aL AM (by decide +kernel) AM (A1 Qe))) Ql) (Qf (Qk (pu 2)))))),?_⟩;left;refine⟨z,rfl,ha,hl,λH1 J=>?_⟩;left;refine Qs (λc=>?_) (λc=>?_)
 ·refine⟨by decide,U ?_ _ J⟩;unfold rdW;rw[DY (λh=>by rw[c] at h;exact absurd h.1 (by decide))]
 have c:=eq_true_of_ne_false c;obtain⟨hi,a5⟩:=RW c;refine⟨z,_,rfl,hi,by omega,?_⟩;left;refine Qs (λc2=>?_) (λc2=>?_)
 ·refine⟨by decide,U ?_ _ J⟩;unfold rdW;rw[DY (λh=>by have:=h.2;omega)]
 ·refine q1 _ ?_ _ J;unfold rdW;rw[DZ ⟨c,by omega⟩]
inductive kH (K:W.Frag)(C)(x:V)(H:Hp)(Q:VK)(E:XK):Prop
 | mk (z:Str) (h1:x=.str z) (h3:Q6 z) (h4:z.length<=1000) (h5:JS (.str z)=true->∀H',Same H H'->Q (.str z) H') (h6:JS (.str z)=false->∀H',Same H H'->E (.ref C) none H'):kH K C x H Q E
theorem gM (T:Tx w K mg):WI P w K mg base 2 "name_read" ["text"] (Rp1M (kH K t.zG)):=by
 refine VB T 31 ["text"] Uy λH Q U hr h=>?_
 obtain⟨_,rfl,z,rfl,ha,hl,q1,q2⟩:=h;refine⟨_,(Qb (Qr (YD (Z5 (A7 (gK T) (A1 (pu 0))))) (Qf (ZC XI rfl rfl T.aI T.aL AM (by decide +kernel) AM (A1 Qe))) Ql) (Qf (Qk (pu 0)))),?_⟩;left;refine⟨.str z ha hl,λH1 J=>?_⟩;left;refine Qs (λc=>⟨by decide,q2 c _ J⟩) (λc=>?_);exact q1 (eq_true_of_ne_false c) _ J
theorem Qu (a b:Str):(a++b).length=a.length+b.length:=by
 show(a.cps++b.cps).size=_;rw[Array.size_append];rfl
def sla:Str:=⟨#[47]⟩
theorem M6:Str.ofString "/"=sla:=by decide +kernel
def fk (z:Str):Option (Int×Int):=if 47∈z.cps.toList then
  match rdW (Txt.partition z sla).1 9999,rdW (Txt.partition z sla).2.2 9999 with
  | some a,some b=>if b<2∨¬(Int.gcd a b:Int)=1 then none else some (a,b)
  | _,_=>none
 else(rdW z 9999).map λa=>(a,1)
theorem M4 {c:Nat}(h:c∈(Builtin.Str.strSub z i j).cps.toList):c∈z.cps.toList:=by
 unfold Builtin.Str.strSub at h;have h:c∈(z.cps.extract i j).toList:=h;rw[Array.toList_extract] at h;exact List.mem_of_mem_drop (List.mem_of_mem_take h)
theorem M3:(Builtin.Str.strSub z i j).length<=z.length:=by
 unfold Builtin.Str.strSub;show(z.cps.extract i j).size<=z.cps.size;rw[Array.size_extract];omega
theorem Bx (h:Q6 z)(s:∀c∈y.cps.toList,c∈z.cps.toList):Q6 y:=by
 show (y.cps.all fun x=>decide (x<128))=true;rw [<-Array.all_toList,C1];intro c J;have h:(z.cps.all fun x=>decide (x<128))=true:=h;rw [<-Array.all_toList,C1] at h;exact h c (s c J)
theorem Pz:Q6 Str.empty:=by show _=true;decide +kernel
theorem RF (h:Q6 z):Q6 (Txt.partition z sla).1/\Q6 (Txt.partition z sla).2.2/\(Txt.partition z sla).1.length<=z.length/\(Txt.partition z sla).2.2.length<=z.length/\((Txt.partition z sla).2.1=if 47∈z.cps.toList then sla else Str.empty)/\(47∉z.cps.toList->(Txt.partition z sla).1=z):=by
 have f:=StrLaws.found_one z 47;have f:(!(Builtin.Str.occurrences z sla 0 z.length 1).isEmpty)=decide (47∈z.cps.toList):=f;unfold Txt.partition;cases e:Builtin.Str.occurrences z sla 0 z.length 1 with
 | nil=>
  rw[e] at f;have nm:47∉z.cps.toList:=by simpa using f.symm
  exact⟨h,Pz,D2 _,CF _,by rw[DY nm],λ_=>rfl⟩
 | cons i r=>
  rw[e] at f;have U:47∈z.cps.toList:=by simpa using f.symm
  exact⟨Bx h λc J=>M4 J,Bx h λc J=>M4 J,M3,M3,by rw[DZ U],λn=>absurd U n⟩
inductive kG (K:W.Frag)(C)(x:V)(H:Hp)(Q:VK)(E:XK):Prop
 | mk (z:Str) (h1:x=.str z) (h3:Q6 z) (h4:z.length<=1000) (h5:∀a b,fk z=some (a,b)->∀p H',Same H H'->H' p=some (.tup [.int a,.int b])->Q (.ref p) H') (h6:fk z=none->∀H',Same H H'->E (.ref C) none H'):kG K C x H Q E
theorem Lb {m n:Int}(h:rdW z m=some n):0<=n/\n<=m:=by
 unfold rdW at h;split at h
 ·rename_i c;have e:=CD h;rw [<-e];exact ⟨Int.natCast_nonneg _,c.2⟩
 ·cases h
theorem gP (T:Tx w K mg):WI P w K mg base 3 "rate_read" ["text"] (Rp1M (kG K t.zG)):=by
 refine VB T 29 ["text","written","top","bottom"] Uy λH Q a6 hr h=>?_
 obtain⟨_,rfl,z,rfl,ha,hl,q1,q2⟩:=h;obtain⟨pa,pb,la,lb,_,_⟩:=RF ha;refine⟨_,(Qb (Qr (ZA (Xe K rfl) Qe (pu 0) (by with_unfolding_all rfl)) (Qf (Qk (QY (A3 (Zn (aQ T) (GG hr) rfl (X4 λ_ _ h=>h) (A3 (pu 0) (Xu T.aX))) Qd)))) Ql) (Qb (A5 1 (QE K rfl AN PySem.F.slot_str_partition PySem.F.type_str_partition Vi (pu 0) (A1 Qe))) (Qb (A5 2 (Zn (aQ T) (GG hr) rfl (X4 λ_ _ h=>h) (A3 (BM K 1) (Xu T.aX)))) (Qb (A5 3 (Zn (aQ T) (GG hr) rfl (X4 λ_ _ h=>h) (A3 (BM K 1) (Xu T.aX)))) (Qb (Qr (PW.pt (YO (A8 Zr (pu 3) Qd) (Wg (A8 (VM K) (A7 (gI T) (A3 (pu 2) (pu 3))) Qd)))) (Qf (ZC XI rfl rfl T.aI T.aL AM (by decide +kernel) AM (A1 Qe))) Ql) (Qf (Qk (QY (A3 (pu 2) (pu 3)))))))))),?_⟩;left;refine .inr ⟨_,_,rfl,rfl,?_⟩;rw[M6];have f:(!(Builtin.Str.occurrences z sla 0 z.length 1).isEmpty)=decide (47∈z.cps.toList):=StrLaws.found_one z 47;rw[f];show asBl (V.bl (!decide (47∈z.cps.toList))) _;left;by_cases hs:47∈z.cps.toList
 ·rw[DY (λh=>h hs)];refine⟨by trivial,z,sla,rfl,rfl,by decide,Qq hl,λp hp=>?_⟩;have J:fk z=match rdW (Txt.partition z sla).1 9999,rdW (Txt.partition z sla).2.2 9999 with
    | some a,some b=>if b<2∨¬(Int.gcd a b:Int)=1 then none else some (a,b)
    | _,_=>none:=by unfold fk;rw[DZ hs]
  generalize (Txt.partition z sla).1=za at *;generalize (Txt.partition z sla).2.1=zs at *;generalize (Txt.partition z sla).2.2=zb at *;have g1:=Qc hp (.tup [.str za,.str zs,.str zb]);have hT:A9 K (upd H p (.tup [.str za,.str zs,.str zb])) p [.str za,.str zs,.str zb]:=AJ Qa;generalize upd H p (.tup [.str za,.str zs,.str zb])=H1 at *;refine Zq hT rfl ⟨za,9999,rfl,rfl,pa,by omega,λa ea H2 U=>?_,λen H2 U=>q2 (by rw[J,en]) _ (g1.trans U)⟩;refine Zq (U.sqT hT) rfl ⟨zb,9999,rfl,rfl,pb,by omega,λb eb H3 g3=>?_,λen H3 g3=>q2 (by rw[J,ea,en]) _ (g1.trans (U.trans g3))⟩;have a4:=g1.trans (U.trans g3);rw[ea,eb] at J;have J:fk z=if b<2∨¬(Int.gcd a b:Int)=1 then none else some (a,b):=J
  left;refine Qs (λc=>⟨by decide,q2 (by rw[J,DZ (.inl c)]) _ a4⟩) (λc=>?_);refine⟨a,b,rfl,rfl,(Lb ea).1,(Lb eb).1,?_⟩;left;refine Qs (λc2=>⟨by decide,q2 (by rw[J,DZ (.inr c2)]) _ a4⟩) (λc2=>⟨by decide,λp4 a5=>?_⟩);exact q1 a b (by rw[J,DY (λh=>h.elim c c2)]) p4 _ (a4.trans (Qc a5 _)) Qa
 ·rw[DZ hs];have J:fk z=(rdW z 9999).map λa=>(a,1):=by unfold fk;rw[DY hs]
  refine⟨z,9999,rfl,rfl,ha,hl,λa ea H2 U=>⟨by decide,λp hp=>?_⟩,λen H2 U=>q2 (by rw[J,en];rfl) _ U⟩;exact q1 a 1 (by rw[J,ea];rfl) p _ (U.trans (Qc hp _)) Qa
def Zb (t b:Int):Str:=if b=1 then Str.ofString (toString t) else Str.ofString (toString t)++sla++Str.ofString (toString b)
theorem B2 {m:Int}(h:m.natAbs<10 ^ 61):(Str.ofString (toString m)).length<=100:=by
 have e:=PySem.int_text_length_le10 (a:=m) (k:=61) (by decide) h;rw[PySem.ofString_length];omega
theorem DF {m:Int}(h:m.natAbs<10 ^ 61):m.natAbs.log2<1920:=by
 by_cases J:m.natAbs=0
 ·rw[J];decide
 ·exact Cn ((Nat.log2_lt J).mpr (show m.natAbs<2 ^ 204 by omega)) (by decide)
theorem FC {i:Int}(hz:z.length<=1000)(h0:0<=i)(h1:i<z.length)(q:∀c∈z.cps.toList,Q (.str ⟨#[c]⟩) H):O3 K (.str z) (.int i) H Q:=by
 obtain⟨n,rfl⟩:=CT h0;have hn:n<z.cps.toList.length:=by
  have:z.cps.toList.length=z.length:=by simp[Str.length]
  omega
 exact .inr (.inr ⟨z,n,z.cps.toList[n],rfl,rfl,Qq hz,QV (by simp[hn]),q _ (List.getElem_mem hn)⟩)
theorem Yj {n:Int}(h:0<=n):∀c∈(Str.ofString (toString n)).cps.toList,48<=c/\c<=57:=by
 obtain ⟨m,rfl⟩:=CT h;intro c U;rw [W.KIN.signs_num] at U;obtain ⟨ch,J,e⟩:=C8.mp U;have r:=PyProof.Rows.digit_range (Nat.isDigit_of_mem_toDigits (by decide) (by decide) J);rw [<-e];exact r
theorem Ny (h:∀c∈z.cps.toList,c<128):Q6 z:=by
 show (z.cps.all fun x=>decide (x<128))=true;rw [<-Array.all_toList,C1];intro c hc;exact Ck (h c hc)
theorem W2 {n:Int}(h:0<=n):Q6 (Str.ofString (toString n)):=Ny λc hc=>by have:=Yj h c hc;omega
theorem Nz {a b}(h:Q6 a)(h':Q6 b):Q6 (a++b):=by
 show ((a.cps++b.cps).all fun x=>decide (x<128))=true;rw [<-Array.all_toList,AR,List.all_append,Array.all_toList,Array.all_toList];have h:(a.cps.all fun x=>decide (x<128))=true:=h;have h':(b.cps.all fun x=>decide (x<128))=true:=h';rw [h,h'];rfl
theorem Py:Q6 sla:=by show _=true;decide +kernel
theorem len_num {n:Int}(h:0<=n)(h':n<1000000000000000):(Str.ofString (toString n)).length<=100:=B2 (by omega)
theorem Xf {n:Int}(h:0<=n)(h':n<1000000000000000):n.natAbs.log2<1920:=DF (by omega)
theorem V7 (s sub)(hi:Nat):∀(l:List Nat) (st),1<=st.1.size->(forIn l st (StrLaws.occBody s sub hi 1)).run.fst=st.1
 | [],st,h=>rfl
 | a::l,st,h=>by
  rw[List.forIn_cons];unfold StrLaws.occBody;rw[DY (λc=>by have:=c.1.1.1;omega)];exact V7 s sub hi l _ h
theorem Kl (s sub)(hi:Nat):∀(l:List Nat) (free:Nat),(∀i∈l,free<=i)->(forIn l ((#[]:Array Nat),free) (StrLaws.occBody s sub hi 1)).run.fst.toList=(l.find? λi=>decide (i+sub.length<=hi)&&Builtin.Str.subAt s sub i).toList
 | [],free,_=>rfl
 | a::l,free,hf=>by
  rw[List.forIn_cons];have ha:free<=a:=hf a Cw;by_cases J:a+sub.length<=hi/\Builtin.Str.subAt s sub a=true
  ·rw[List.find?_cons_of_pos (by rw[CV,Ai];exact J)];have:StrLaws.occBody s sub hi 1 a ((#[]:Array Nat),free)=pure (ForInStep.yield ((#[]:Array Nat).push a,a+sub.length)):=by
    unfold StrLaws.occBody;rw[DZ ⟨⟨⟨by simp,ha⟩,J.1⟩,J.2⟩]
   rw[this];show(forIn l ((#[]:Array Nat).push a,a+sub.length) (StrLaws.occBody s sub hi 1)).run.fst.toList=[a];rw[V7 s sub hi l _ (by simp)];rfl
  ·rw[List.find?_cons_of_neg (by rw[CV,Ai];exact J)];have:StrLaws.occBody s sub hi 1 a ((#[]:Array Nat),free)=pure (ForInStep.yield ((#[]:Array Nat),free)):=by
    unfold StrLaws.occBody;rw[DY (λh=>J ⟨h.1.2,h.2⟩)]
   rw[this];exact Kl s sub hi l free λi U=>hf i (Cu _ U)
theorem Lw {a b}(h:47∉a.cps.toList):Txt.partition (a++sla++b) sla=(a,sla,b):=by
 have e:Builtin.Str.occurrences (a++sla++b) sla 0 (a++sla++b).length 1=[a.length]:=by
  rw[StrLaws.occ_eq,Kl _ _ _ _ _ (λ_ _=>CF _)];have lt:(a++sla++b).cps.toList=a.cps.toList++47::b.cps.toList:=by
   show((a.cps++sla.cps)++b.cps).toList=_;rw[AR,AR,List.append_assoc];rfl
  have U:a.cps.toList.length=a.length:=AQ;have ll:(a++sla++b).length=a.length+1+b.length:=by rw[Qu,Qu];rfl
  have J:∀i:Nat,(decide (i+sla.length<=(a++sla++b).length)&&Builtin.Str.subAt (a++sla++b) sla i)=true↔(a++sla++b).cps.toList[i]?=some 47:=λi=>by
   rw[CV,Ai];exact StrLaws.subAt_one _ 47 i
  have:(List.range' 0 ((a++sla++b).length+1-0)).find? (λi=>decide (i+sla.length<=(a++sla++b).length)&&Builtin.Str.subAt (a++sla++b) sla i)=some a.length:=by
   rw[List.find?_eq_some_iff_getElem];refine⟨(J _).mpr ?_,a.length,by rw[List.length_range'];omega,by rw[List.getElem_range'];omega,λj hj=>?_⟩
   ·rw[lt,CG (by omega),U,CK];rfl
   ·rw[List.getElem_range',As,Cc];intro h;have:=(J _).mp h;rw[lt,CI (by omega)] at this;exact absurd (C6 this) ‹47∉a.cps.toList›
  rw[this];rfl
 unfold Txt.partition;rw[e];show(Builtin.Str.strSub (a++sla++b) 0 a.length,sla,Builtin.Str.strSub (a++sla++b) (a.length+sla.length) (a++sla++b).length)=_;have eq:∀{x y:Str},x.cps.toList=y.cps.toList->x=y:=λ{x y} h=>by
  obtain⟨xs⟩:=x;obtain⟨ys⟩:=y
  congr 1
  exact Array.toList_inj.mp h
 have lt:(a++sla++b).cps.toList=a.cps.toList++47::b.cps.toList:=by
  show((a.cps++sla.cps)++b.cps).toList=_;rw[AR,AR,List.append_assoc];rfl
 have U:a.cps.toList.length=a.length:=AQ;have lb:b.cps.toList.length=b.length:=AQ;have ll:(a++sla++b).length=a.length+1+b.length:=by rw[Qu,Qu];rfl
 have e1:Builtin.Str.strSub (a++sla++b) 0 a.length=a:=eq (by
  show((a++sla++b).cps.extract 0 a.length).toList=_;rw[Array.toList_extract,lt];show((a.cps.toList++47::b.cps.toList).drop 0).take (a.length-0)=_;rw[List.drop_zero,Nat.sub_zero,<-U,List.take_left])
 have e2:Builtin.Str.strSub (a++sla++b) (a.length+sla.length) (a++sla++b).length=b:=eq (by
  show ((a++sla++b).cps.extract (a.length+1) (a++sla++b).length).toList=_;rw [Array.toList_extract,lt,ll];show ((a.cps.toList++47 :: b.cps.toList).drop (a.length+1)).take (a.length+1+b.length-(a.length+1))=_;rw [<-U,List.drop_append,List.drop_eq_nil_of_le (by omega),List.nil_append,Nat.add_sub_cancel_left,Nat.add_sub_cancel_left];show (b.cps.toList).take b.length=_;rw [<-lb,List.take_length])
 rw[e1,e2]
theorem Bg:∀(m:Nat),0<m->(Nat.toDigits 10 m).head?≠some '0':=by
 intro m
 induction m using Nat.strongRecOn with
 | _ m U=>
  intro h0;by_cases h:m<10
  ·rw[Nat.toDigits_of_lt_base h];intro e;have e:=CD e;have:∀d:Nat,d<10->0<d->Nat.digitChar d≠'0':=by decide
   exact this m h h0 e
  ·have hm:m % 10<10:=Nat.mod_lt m (by decide);have t:Nat.toDigits 10 (m / 10)++Nat.toDigits 10 (m % 10)=Nat.toDigits 10 (10*(m / 10)+m % 10):=Nat.toDigits_append_toDigits (by decide) (by omega) hm;rw [Nat.div_add_mod] at t;rw [<-t];have ne:Nat.toDigits 10 (m / 10)≠[]:=fun e=>by
    have h:=W.KIN.val_back (m / 10);rw[e] at h;have:m / 10=0:=h.symm;omega
   have J:=U (m / 10) (by omega) (by omega);cases e:Nat.toDigits 10 (m / 10) with
   | nil=>exact absurd e ne
   | cons x r=>rw[e] at J;exact J
theorem RN {n:Int}(h0:0<=n)(h1:n<=1000000000):OY (Str.ofString (toString n))=true/\vl (Str.ofString (toString n))=n:=by
 have sg:=Yj h0;have rd:=W.KIN.num_reads h0 (by omega);obtain⟨m,rfl⟩:=CT h0;have cs:=W.KIN.signs_num m;have a4:(Str.ofString (toString ((m:Nat):Int))).cps.toList.length=(Str.ofString (toString ((m:Nat):Int))).length:=AQ;have J:=W.KT.len_num (n:=((m:Nat):Int)) h0 (by omega);have ne:(Str.ofString (toString ((m:Nat):Int))).cps.toList≠[]:=by
  rw[cs];intro e;have h:=PySem.toDigits_len_ge 10 m;rw[List.map_eq_nil_iff.mp e] at h;exact absurd h (by decide)
 have U:=intText_digits (x:=Str.ofString (toString ((m:Nat):Int))) sg ne (Co J (by decide));rw [rd] at U;have ev:vl (Str.ofString (toString ((m:Nat):Int)))=m:=(CD U).symm;refine ⟨?_,ev⟩;have l1:1<=(Str.ofString (toString ((m:Nat):Int))).length:=by rw [<-a4];exact List.length_pos_iff.mpr ne
 unfold OY;rw[Ck l1,Ck (p:=(Str.ofString (toString ((m:Nat):Int))).length<=10) J,Bool.true_and,Bool.true_and,CV];refine⟨?_,C1.mpr λc hc=>by unfold jy;have:=sg c hc;simp;omega⟩;by_cases hm:m=0
 ·subst hm;have:Str.ofString (toString (((0:Nat):Nat):Int))=zero:=by decide +kernel
  rw[this,Ck rfl];simp
 ·have hh:=Bg m (by omega);have:(Str.ofString (toString ((m:Nat):Int))).cps.toList.head?≠some 48:=by
   rw[cs];cases e:Nat.toDigits 10 m with
   | nil=>simp
   | cons x r=>
    rw[e] at hh;intro h;have h:x.toNat=48:=CD h;refine hh ?_;have:x='0':=Char.toNat_inj.mp h;rw[this];rfl
  rw[Ce this];rfl
theorem YU {n:Int}(h0:0<=n){m:Int}(h1:n<=m)(h2:m<=1000000000):rdW (Str.ofString (toString n)) m=some n:=by
 obtain⟨a,b⟩:=RN h0 (by omega);unfold rdW;rw[DZ ⟨a,by rw[b];exact h1⟩,b]
theorem Ly {n:Int}(h0:0<=n):47∉(Str.ofString (toString n)).cps.toList:=λh=>by have:=Yj h0 47 h;omega
theorem U4 {a b:Int}(ha:0<=a)(ha':a<=9999)(hb:1<=b)(hb':b<=9999)(hg:Int.gcd a b=1):fk (Zb a b)=some (a,b):=by
 unfold Zb;by_cases h1:b=1
 ·rw[DZ h1];unfold fk;rw[DY (Ly ha),YU ha ha' (by decide),h1];rfl
 ·rw[DY h1];unfold fk;have J:47∈(Str.ofString (toString a)++sla++Str.ofString (toString b)).cps.toList:=by
   show 47∈(((Str.ofString (toString a)).cps++sla.cps)++(Str.ofString (toString b)).cps).toList;rw[AR,AR];exact C0 _ (CU _ (by decide))
  rw[DZ J,Lw (Ly ha)];show(match rdW (Str.ofString (toString a)) 9999,rdW (Str.ofString (toString b)) 9999 with
   | some a,some b=>if b<2∨¬(Int.gcd a b:Int)=1 then none else some (a,b)
   | _,_=>none)=some (a,b)
  rw[YU ha ha' (by decide),YU (by omega) hb' (by decide)];show(if b<2∨¬(Int.gcd a b:Int)=1 then none else some (a,b))=some (a,b);rw[DY (λh=>h.elim (λh=>by omega) (λh=>h (by rw[hg];rfl)))]
theorem Ms {a b:Int}(ha:0<=a)(hb:1<=b):Q6 (Zb a b):=by
 unfold Zb;split
 ·exact W2 ha
 ·exact Nz (Nz (W2 ha) Py) (W2 (by omega))
def Vj (z:Str):Int:=if z=Str.ofString "LOW"∨z=Str.ofString "HIGH" then 150 else if z=Str.ofString "MANY" then 60 else 1000000000
inductive Oi (K:W.Frag)(x:V)(H)(Q:VK):Prop
 | mk (z:Str) (h1:x=.str z) (h2:Q (.int (Vj z)) H):Oi K x H Q
theorem FR (xs:List Str){H}{Q}(h:A9 K H p (xs.map V.str))(q:Q (.bl (decide (z∈xs))) H):NN K false (.str z) (.ref p) H Q:=
 .inl ⟨p,_,rfl,.inr h,rfl,Wn xs,by rw[WY];exact q⟩
theorem MJ (xs:List Str){H}{Q}(h:A9 K H p (xs.map V.str))(q:Q (.bl (!decide (z∈xs))) H):NN K true (.str z) (.ref p) H Q:=
 .inl ⟨p,_,rfl,.inr h,rfl,Wn xs,by rw[WY];exact q⟩
theorem gQ (T:Tx w K mg):GF P w K mg base 1 "most_of" ["sort"] (Sp1M (Oi K)):=by
 refine Zf T 36 ["sort"] Xk λH Q J U h=>?_
 obtain⟨_,rfl,z,rfl,q⟩:=h;refine⟨_,(Qb (Qr (ZA (mQ K rfl) (pu 0) (Ey T.bH) (by with_unfolding_all rfl)) (Qf (Qk (Xu T.d7))) Ql) (Qf (Qk (Je (A8 (QM K) (pu 0) Qe) (Xu T.dB) (Xu T.bG))))),?_⟩;left;refine FR ["LOW","HIGH"] (T.bH.s H) ?_;left;unfold Vj at q;refine Qs (λc=>?_) (λc=>?_)
 ·rw[DZ (by simpa using c)] at q;exact q
 ·rw[DY (by simpa using c)] at q;refine Qs (λc=>?_) (λc=>?_)
  ·rw[DZ c] at q;exact q
  ·rw[DY c] at q;exact q
def jY (z:Str):Option Int:=match rdW z 1000000000 with
 | some n=>if n=0 then none else some n
 | none=>none
inductive kD (K:W.Frag)(C)(x:V)(H:Hp)(Q:VK)(E:XK):Prop
 | mk (z:Str) (h1:x=.str z) (h3:Q6 z) (h4:z.length<=1000) (h5:∀n,jY z=some n->∀H',Same H H'->Q (.int n) H') (h6:jY z=none->∀H',Same H H'->E (.ref C) none H'):kD K C x H Q E
theorem gR (T:Tx w K mg):WI P w K mg base 3 "unit_read" ["word"] (Rp1M (kD K t.zG)):=by
 refine VB T 37 ["word","unit"] Uy λH Q a4 hr h=>?_
 obtain⟨_,rfl,z,rfl,ha,hl,q1,q2⟩:=h;refine⟨_,(Qb (A5 1 (Zn (aQ T) (GG hr) rfl (X4 λ_ _ h=>h) (A3 (pu 0) (Xu T.bG)))) (Qb (Qr (A8 (QM K) (pu 1) Qd) (Qf (ZC XI rfl rfl T.aI T.aL AM (by decide +kernel) AM (A1 Qe))) Ql) (Qf (Qk (pu 1))))),?_⟩;left;refine⟨z,1000000000,rfl,rfl,ha,hl,λn J H1 U=>?_,λJ H1 U=>q2 (by unfold jY;rw[J]) _ U⟩;left;refine Qs (λc=>⟨by decide,q2 (by unfold jY;rw[J];exact DZ c) _ U⟩) (λc=>q1 n (by unfold jY;rw[J];exact DY c) _ U)
def Jn (z:Str):Bool:=decide (z∈[Str.ofString "down",Str.ofString "up",Str.ofString "near"])
inductive kB (K:W.Frag)(C)(x:V)(H:Hp)(Q:VK)(E:XK):Prop
 | mk (z:Str) (h1:x=.str z) (h5:Jn z=true->Q (.str z) H) (h6:Jn z=false->E (.ref C) none H):kB K C x H Q E
theorem gS (T:Tx w K mg):WI P w K mg base 1 "way_read" ["word"] (Rp1M (kB K t.zG)):=by
 refine VB T 38 ["word"] Uy λH Q J hr h=>?_
 obtain⟨_,rfl,z,rfl,q1,U⟩:=h;refine⟨_,(Qb (Qr (ZA (Xe K rfl) (pu 0) (Ey T.bI) (by with_unfolding_all rfl)) (Qf (ZC XI rfl rfl T.aI T.aL AM (by decide +kernel) AM (A1 Qe))) Ql) (Qf (Qk (pu 0)))),?_⟩;left;refine MJ ["down","up","near"] (T.bI.s H) ?_;left;refine Qs (λc=>⟨by decide,U (Ce c)⟩) (λc=>q1 (Ck (Classical.not_not.mp c)))
def IJ (s z:Str):Option D:=
 if s=Str.ofString "NAME" then(if JS (.str z)=true then some (.str z) else none) else
 if s=Str.ofString "RATE" then(fk z).map λp=>fr p.1 p.2 else
 if s=Str.ofString "UNIT" then(jY z).map D.int else
 if s=Str.ofString "WAY" then(if Jn z=true then some (.str z) else none) else(rdW z (Vj s)).map D.int
inductive Pv (K)(H):D->V->Prop
 | int (i:Int):Pv K H (.int i) (.int i)
 | str (z:Str):Pv K H (.str z) (.str z)
 | rt (r s:Int) (p:Addr) (h:A9 K H p [.int r,.int s]):Pv K H (fr r s) (.ref p)
theorem Pv.mono (g:Same H H'){d}{v}(h:Pv K H d v):Pv K H' d v:=by
 cases h with
 | int i=>exact .int i
 | str z=>exact .str z
 | rt r s p h=>exact .rt r s p (g.sqT h)
inductive O7 (K)(C)(x y:V)(H:Hp)(Q:VK)(E:XK):Prop
 | mk (s z:Str) (h1:x=.str s) (h2:y=.str z) (h3:Q6 z) (h4:z.length<=1000) (h5:∀d,IJ s z=some d->∀v H',Same H H'->Pv K H' d v->Q v H') (h6:IJ s z=none->∀H',Same H H'->E (.ref C) none H'):O7 K C x y H Q E
theorem gU (T:Tx w K mg):WI P w K mg base 4 "word_read" ["sort","word"] (Rp2M (O7 K t.zG)):=by
 refine VB T 39 ["sort","word"] HL λH Q a4 hr h=>?_
 obtain⟨_,_,rfl,s',z,rfl,rfl,ha,hl,U,q2⟩:=h;refine⟨_,(Qb (Qr (A8 (QM K) (pu 0) Qe) (Qf (Qk (Zn (gM T) (GG hr) rfl (X4 λ_ _ h=>h) (A1 (pu 1))))) Ql) (Qb (Qr (A8 (QM K) (pu 0) Qe) (Qf (Qk (Zn (gP T) (GG hr) rfl (X4 λ_ _ h=>h) (A1 (pu 1))))) Ql) (Qb (Qr (A8 (QM K) (pu 0) Qe) (Qf (Qk (Zn (gR T) (GG hr) rfl (X4 λ_ _ h=>h) (A1 (pu 1))))) Ql) (Qb (Qr (A8 (QM K) (pu 0) Qe) (Qf (Qk (Zn (gS T) (GG hr) rfl (X4 λ_ _ h=>h) (A1 (pu 1))))) Ql) (Qf (Qk (Zn (aQ T) (GG hr) rfl (X4 λ_ _ h=>h) (A3 (pu 1) (A7 (gQ T) (A1 (pu 0))))))))))),?_⟩;unfold IJ at U q2;left;refine Qs (λc=>?_) (λc=>?_)
 ·rw[DZ c] at U q2;refine⟨z,rfl,ha,hl,λe H1 J=>U _ (DZ e) _ _ J (.str z),λe H1 J=>q2 (DY (by rw[e];decide)) _ J⟩
 rw[DY c] at U q2;refine Qs (λc=>?_) (λc=>?_)
 ·rw[DZ c] at U q2;refine⟨z,rfl,ha,hl,λa b e p H1 J hp=>U _ (by rw[e];rfl) _ _ J (.rt _ _ _ (AJ hp)),λe H1 J=>q2 (by rw[e];rfl) _ J⟩
 rw[DY c] at U q2;refine Qs (λc=>?_) (λc=>?_)
 ·rw[DZ c] at U q2;refine⟨z,rfl,ha,hl,λn e H1 J=>U _ (by rw[e];rfl) _ _ J (.int n),λe H1 J=>q2 (by rw[e];rfl) _ J⟩
 rw[DY c] at U q2;refine Qs (λc=>?_) (λc=>?_)
 ·rw[DZ c] at U q2;refine⟨z,rfl,λe=>U _ (DZ e) _ _ (AK _) (.str z),λe=>q2 (DY (by rw[e];decide)) _ (AK _)⟩
 rw[DY c] at U q2;refine⟨s',rfl,?_⟩;left;exact⟨z,_,rfl,rfl,ha,hl,λn e H1 J=>U _ (by rw[e];rfl) _ _ J (.int n),λe H1 J=>q2 (by rw[e];rfl) _ J⟩
def blank:Str:=⟨#[32]⟩
theorem ZG:Str.ofString " "=blank:=by decide +kernel
def IU:List Str->List Str->Option (List D)
 | [],[]=>some []
 | s::ss,z::zs=>match IJ s z with
  | some d=>(IU ss zs).map (d::·)
  | none=>none
 | _,_=>none
theorem K5:∀{ss ws} {ds},IU ss ws=some ds->ws.length=ss.length
 | [],[],_,_=>rfl
 | [],_::_,_,h=>by cases h
 | _::_,[],_,h=>by cases h
 | s::ss,z::zs,ds,h=>by
  rw[IU] at h;split at h
  ·obtain⟨J,h',_⟩:=Cv.mp h;exact congrArg (·+1) (K5 h')
  ·cases h
theorem GZ:∀{ss ws} {i:Nat} {s z},ss[i]?=some s->ws[i]?=some z->IJ s z=none->IU ss ws=none
 | [],_,i,_,_,h,_,_=>by simp at h
 | _::_,[],i,_,_,_,h,_=>by simp at h
 | s::ss,z::zs,0,_,_,h1,h2,h=>by cases h1;cases h2;rw[IU,h]
 | s::ss,z::zs,i+1,_,_,h1,h2,h=>by
  rw[IU,GZ (i:=i) (by simpa using h1) (by simpa using h2) h];cases IJ s z<;>rfl
def nU (K:W.Frag)(H:Hp)(p:Str×Str)(v:V):Prop:=∃d,IJ p.1 p.2=some d/\Pv K H d v
theorem Lc:∀{ss ws} {vs},ws.length=ss.length->All2 (nU K H) (ss.zip ws) vs->∃ds,IU ss ws=some ds/\All2 (Pv K H) ds vs
 | [],[],vs,_,h=>⟨[],rfl,h.1,λi a b J=>by simp at J⟩
 | [],_::_,_,h,_=>by cases h
 | _::_,[],_,h,_=>by cases h
 | s::ss,z::zs,[],_,h=>by have:=h.1;simp at this
 | s::ss,z::zs,v::vs,hl,h=>by
  obtain⟨d,hd,hv⟩:=h.2 0 _ _ rfl rfl;obtain⟨ds,e,hA⟩:=Lc (ss:=ss) (ws:=zs) (vs:=vs) (by simpa using hl) ⟨by have:=h.1;simpa using this,λi a b J U=>h.2 (i+1) a b (by simpa using J) (by simpa using U)⟩;refine⟨d::ds,by rw[IU,hd,e];rfl,by rw[Cm,Cm,hA.1],λi a b J U=>?_⟩;cases i with
  | zero=>cases J;cases U;exact hv
  | succ i=>exact hA.2 i a b (by simpa using J) (by simpa using U)
inductive Io (K)(C)(x y:V)(H:Hp)(Q:VK)(E:XK):Prop
 | mk (f:Str) (a:Addr) (ws ss:List Str) (h1:x=.str f) (h2:y=.ref a) (h3:A6 K H a (ws.map V.str)) (h4:Txt.split f blank=ss) (h5:f.length<=1000) (h6:ss.length<=100) (h8:∀z∈ws,Q6 z/\z.length<=1000)
   (h9:∀ds,IU ss ws=some ds->∀p vs H',Same H H'->H p=none->H' p=some (.lst vs)->All2 (Pv K H') ds vs->Q (.ref p) H') (h10:IU ss ws=none->∀H',Same H H'->E (.ref C) none H'):Io K C x y H Q E
def oQ (K:W.Frag)(ss ws:List Str)(H:Hp)(i:Nat)(acc:List V)(σ':L2.St)(H':Hp):Prop:=∃x0 x1,σ'=[x0,x1]/\Same H H'/\All2 (nU K H') ((ss.zip ws).take i) acc
theorem KH {R R':α->V->Prop}{l:List α}(h:All2 R (l.take i) vs)(hm:∀a b,R a b->R' a b)(hx:l[i]?=some x)(hv:R' x v):All2 R' (l.take (i+1)) (vs++[v]):=by
 have hi:i<l.length:=(Cg.mp hx).1;have e:l.take (i+1)=l.take i++[x]:=by rw[CS,hx];rfl
 have hl:=h.1;rw[CC,Nat.min_eq_left (by omega)] at hl;refine⟨by rw[e,D0,D0,h.1];rfl,λj a b U J=>?_⟩;rw[e] at U;by_cases hj:j<i
 ·rw[CI (by rw[CC,Nat.min_eq_left (by omega)];exact hj)] at U;rw[CI (by omega)] at J;exact hm _ _ (h.2 j a b U J)
 ·have a4:j<(vs++[v]).length:=(Cg.mp J).1;rw[D0,D6] at a4;have:j=i:=by omega
  subst this;rw[CG (by rw[CC,Nat.min_eq_left (by omega)];exact D2 _),CC,Nat.min_eq_left (by omega),CK] at U;rw[CG (by omega),<-hl,CK] at J;cases U;cases J;exact hv
theorem gV (T:Tx w K mg):WI P w K mg base 5 "words_read" ["form","words"] (Rp2M (Io K t.zG)):=by
 refine VB T 40 ["form","words","sorts"] HL λH Q aa hr h=>?_
 obtain⟨_,_,rfl,f',a,ws,ss,rfl,rfl,hw,a7,hf,af,a8,q,qE⟩:=h;refine⟨_,(Qb (A5 2 (QE K rfl AN AU AV Xx (pu 0) (A1 Qe))) (Qb (Qr (A8 (VM K) (IC K T.aB (pu 1)) (IC K T.aB (pu 2))) (Qf (ZC XI rfl rfl T.aI T.aL AM (by decide +kernel) AM (A1 Qe))) Ql) (Qf (Qk (Lv (N:=["sort","word"]) (caps:=[none,none]) Wh (Hg λ_ _ h=>h) rfl Gx (SQ K rfl rfl T.cE (A3 (pu 2) (pu 1))) (λ_ _ _ _=>jm (n:=2) K rfl rfl (QR (GE 0) (QR (GE 1) Xd))) (λ_ _ _ _=>QU) (λ_ _ _ _ hp=>(Zn (gU T) (GG hr) rfl hp (A3 (pu 0) (pu 1))))))))),?_⟩;left;rw[ZG];refine⟨by trivial,f',blank,rfl,rfl,by decide,Qq hf,by rw[a7,Cb];omega,λp hp=>?_⟩;rw[a7];have U:=Qc hp (.lst (ss.map V.str));have a4:A6 K (upd H p (.lst (ss.map V.str))) p (ss.map V.str):=AI Qa;generalize upd H p (.lst (ss.map V.str))=H1 at *;refine Q0 (U.seq hw) (Q0 a4 ?_);rw[D1,D1];left;refine Qs (λc=>⟨by decide,qE ?_ _ U⟩) (λc=>?_)
 ·cases e:IU ss ws with
  | none=>rfl
  | some ds=>exact absurd (congrArg Int.ofNat (K5 e)) c
 have a6:ws.length=ss.length:=Int.ofNat_inj.mp (Classical.not_not.mp c);have ae:(ss.zip ws).length=ss.length:=by rw[List.length_zip];omega
 simp only[ZL,T9];left;refine⟨p,a,rfl,⟨_,a4⟩,⟨_,U.seq hw⟩,E4 (xs:=ss.map V.str) (ys:=ws.map V.str) (oQ K ss ws H1) (by rw[D1,D1,a6]) ⟨none,none,rfl,AK _,rfl,λi a b h=>by simp at h⟩ (λi acc σ' H' h=>by obtain⟨_,_,_,g',_⟩:=h;exact⟨g'.seq a4,(U.trans g').seq hw⟩) (by rw[D1];omega) ?_ ?_⟩
 ·rintro i x y acc _ H2 p2 hx hy a9 ⟨x0,x1,rfl,g,hA⟩ hp2;rw[Ct] at hx hy;obtain⟨sx,a5,rfl⟩:=Cv.mp hx;obtain⟨zy,J,rfl⟩:=Cv.mp hy;have hi:i<ss.length:=(Cg.mp a5).1;have g2:=Qc hp2 (.tup [.str sx,.str zy]);have hT:A9 K (upd H2 p2 (.tup [.str sx,.str zy])) p2 [.str sx,.str zy]:=AJ Qa;generalize upd H2 p2 (.tup [.str sx,.str zy])=H3 at *;obtain⟨az,lz⟩:=a8 zy (C6 J);left;simp only[ZS];left;refine⟨sx,zy,rfl,rfl,az,lz,λd e v H4 g3 hv=>?_,λe H4 g3=>qE (GZ a5 J e) _ (((U.trans g).trans g2).trans g3)⟩;exact CN.mk (by rw[D1];exact hi) (by rw[D0,D6];omega) ⟨_,_,rfl,(g.trans g2).trans g3,KH hA (λa b ⟨d,h1,h2⟩=>⟨d,h1,h2.mono (g2.trans g3)⟩) (x:=(sx,zy)) (by rw[List.getElem?_zip_eq_some];exact⟨a5,J⟩) ⟨d,e,hv⟩⟩
 ·rintro acc _ H2 ⟨x0,x1,rfl,g,hA⟩ p2 hp2;have g2:=Qc hp2 (.lst acc);rw[CH (by rw[D1];omega)] at hA;obtain⟨ds,e,hB⟩:=Lc a6 hA;exact q ds e p2 acc _ ((U.trans g).trans g2) ((U.trans g).free hp2) Qa ⟨hB.1,λj a b h1 h2=>(hB.2 j a b h1 h2).mono g2⟩
inductive Itm where
 | base (a:Int)|each (a l h:Int)|rent (r s m:Int)|term (up:Bool) (n l h:Int)|pay (r s l h:Int)|cnt (z:Str) (r s:Int)|off (l r s:Int)|unt (a:Int)|rnd (u:Int) (z:Str)
variable {xs ys:List Itm}{ks ks0:List (Str×List Itm)}
inductive Row where
 | kind (z:Str)|itm (x:Itm)|cap (a b:Int) (ns:List Str)
variable {row:Row}{rs:List Row}
abbrev nt (n:Int):Str:=Str.ofString (toString n)
def Itm.srt:Itm->Str
 | .base ..=>Str.ofString "base" | .each ..=>Str.ofString "each" | .rent ..=>Str.ofString "rent" | .term false ..=>Str.ofString "from" | .term true ..=>Str.ofString "upto" | .pay ..=>Str.ofString "pay" | .cnt ..=>Str.ofString "counts" | .off ..=>Str.ofString "off" | .unt ..=>Str.ofString "until" | .rnd ..=>Str.ofString "round"
def Row.srt:Row->Str
 | .kind _=>Str.ofString "kind" | .itm x=>x.srt|.cap ..=>Str.ofString "cap"
def Itm.ws:Itm->List Str
 | .base a=>[nt a]|.each a l h=>[nt a,nt l,nt h]|.rent r s m=>[Zb r s,nt m]|.term _ n l h=>[nt n,nt l,nt h]|.pay r s l h=>[Zb r s,nt l,nt h]|.cnt z r s=>[z,Zb r s]|.off l r s=>[nt l,Zb r s]|.unt a=>[nt a]|.rnd u z=>[nt u,z]
def Row.ws:Row->List Str
 | .kind z=>[z]|.itm x=>x.ws|.cap a b ns=>nt a::nt b::ns
def Itm.ds:Itm->List D
 | .base a=>[.int a]|.each a l h=>[.int a,.int l,.int h]|.rent r s m=>[fr r s,.int m]|.term _ n l h=>[.int n,.int l,.int h]|.pay r s l h=>[fr r s,.int l,.int h]|.cnt z r s=>[.str z,fr r s]|.off l r s=>[.int l,fr r s]|.unt a=>[.int a]|.rnd u z=>[.int u,.str z]
def Row.ds:Row->List D
 | .kind z=>[.str z]|.itm x=>x.ds|.cap a b ns=>.int a::.int b::ns.map D.str
abbrev q_ (s:String):Str:=Str.ofString s
def Itm.ss:Itm->List Str
 | .base _=>[q_ "AMOUNT"]|.each ..=>[q_ "AMOUNT",q_ "LOW",q_ "HIGH"]|.rent ..=>[q_ "RATE",q_ "MOST"]|.term ..=>[q_ "MANY",q_ "LOW",q_ "HIGH"]|.pay ..=>[q_ "RATE",q_ "LOW",q_ "HIGH"]|.cnt ..=>[q_ "NAME",q_ "RATE"]|.off ..=>[q_ "LIMIT",q_ "RATE"]|.unt _=>[q_ "LIMIT"]|.rnd ..=>[q_ "UNIT",q_ "WAY"]
def Row.ss:Row->List Str
 | .kind _=>[q_ "NAME"]|.itm x=>x.ss|.cap _ _ ns=>q_ "LIMIT" :: q_ "EACH" :: ns.map λ_=>q_ "NAME"
def Itm.fo:Itm->Str
 | .base _=>q_ "AMOUNT" | .each ..=>q_ "AMOUNT LOW HIGH" | .rent ..=>q_ "RATE MOST" | .term ..=>q_ "MANY LOW HIGH" | .pay ..=>q_ "RATE LOW HIGH" | .cnt ..=>q_ "NAME RATE" | .off ..=>q_ "LIMIT RATE" | .unt _=>q_ "LIMIT" | .rnd ..=>q_ "UNIT WAY"
def Row.fo:Row->Str
 | .kind _=>q_ "NAME" | .itm x=>x.fo|.cap ..=>q_ "LIMIT EACH NAME"
def Row.form:Row->Str
 | .cap _ _ ns=>q_ "LIMIT EACH NAME"++Txt.mul (q_ " NAME") (ns.length-1)
 | r=>r.fo
def ZH (r s:Int):Prop:=0<=r/\r<=9999/\1<=s/\s<=9999/\Int.gcd r s=1
def Zg (a:Int):Prop:=0<=a/\a<=1000000000
def WC (l h:Int):Prop:=0<=l/\l<=h/\h<=150
def Q7 (z:Str):Prop:=JS (.str z)=true
def Itm.Ok:Itm->Prop
 | .base a=>Zg a|.each a l h=>Zg a/\WC l h|.rent r s m=>ZH r s/\Zg m|.term _ n l h=>(0<=n/\n<=60)/\WC l h|.pay r s l h=>ZH r s/\WC l h|.cnt z r s=>Q7 z/\ZH r s|.off l r s=>Zg l/\ZH r s|.unt a=>Zg a|.rnd u z=>(1<=u/\u<=1000000000)/\Jn z=true
def Row.Ok:Row->Prop
 | .kind z=>Q7 z|.itm x=>x.Ok|.cap a b ns=>Zg a/\Zg b/\(∀z∈ns,Q7 z)/\1<=ns.length/\ns.length<=8
theorem U7 {s}{m:Int}{n:Int}(e:Vj s=m)(h1:¬s=q_ "NAME")(h2:¬s=q_ "RATE")(h3:¬s=q_ "UNIT")(h4:¬s=q_ "WAY")(h0:0<=n)(hn:n<=m)(hm:m<=1000000000):IJ s (nt n)=some (.int n):=by
 unfold IJ;rw[DY h1,DY h2,DY h3,DY h4,e,YU h0 hn hm];rfl
theorem YB {s}{n:Int}(h:s=q_ "AMOUNT"∨s=q_ "MOST"∨s=q_ "LIMIT"∨s=q_ "EACH")(ok:Zg n):IJ s (nt n)=some (.int n):=by
 rcases h with rfl|rfl|rfl|rfl<;>exact U7 (m:=1000000000) (by decide +kernel) (by decide +kernel) (by decide +kernel) (by decide +kernel) (by decide +kernel) ok.1 ok.2 (by decide)
theorem We {s}{n:Int}(h:s=q_ "LOW"∨s=q_ "HIGH")(h0:0<=n)(h1:n<=150):IJ s (nt n)=some (.int n):=by
 rcases h with rfl|rfl<;>exact U7 (m:=150) (by decide +kernel) (by decide +kernel) (by decide +kernel) (by decide +kernel) (by decide +kernel) h0 h1 (by decide)
theorem B8 {n:Int}(h0:0<=n)(h1:n<=60):IJ (q_ "MANY") (nt n)=some (.int n):=U7 (m:=60) (by decide +kernel) (by decide +kernel) (by decide +kernel) (by decide +kernel) (by decide +kernel) h0 h1 (by decide)
theorem K4 (h:Q7 z):IJ (q_ "NAME") z=some (.str z):=by
 unfold IJ;rw[DZ rfl];exact DZ h
theorem WT {r s:Int}(h:ZH r s):IJ (q_ "RATE") (Zb r s)=some (fr r s):=by
 unfold IJ;rw[DY (by decide +kernel),DZ rfl,U4 h.1 h.2.1 h.2.2.1 h.2.2.2.1 h.2.2.2.2];rfl
theorem B7 {u:Int}(h0:1<=u)(h1:u<=1000000000):IJ (q_ "UNIT") (nt u)=some (.int u):=by
 have e:jY (nt u)=some u:=by
  unfold jY;rw[YU (by omega) h1 (by decide)];exact DY (by omega)
 unfold IJ;rw[DY (by decide +kernel),DY (by decide +kernel),DZ rfl,e];rfl
theorem SG (h:Jn z=true):IJ (q_ "WAY") z=some (.str z):=by
 unfold IJ;rw[DY (by decide +kernel),DY (by decide +kernel),DY (by decide +kernel),DZ rfl,DZ h]
inductive Rds:List Str->List Str->List D->Prop
 | nil:Rds [] [] []
 | cons {s z:Str} {d:D} {ss ws:List Str} {ds:List D} (h:IJ s z=some d) (r:Rds ss ws ds):Rds (s::ss) (z::ws) (d::ds)
theorem Rds.len:∀{ss ws} {ds},Rds ss ws ds->ws.length=ss.length/\ds.length=ss.length
 | _,_,_,.nil=>⟨rfl,rfl⟩
 | _,_,_,.cons _ r=>by obtain⟨a,b⟩:=r.len;exact⟨congrArg (·+1) a,congrArg (·+1) b⟩
theorem Kg:∀{ns},(∀z∈ns,Q7 z)->Rds (ns.map λ_=>q_ "NAME") ns (ns.map D.str)
 | [],_=>.nil
 | _::_,h=>.cons (K4 (h _ Cw)) (Kg λz hz=>h z (Cu _ hz))
theorem Row.reads {r:Row}(ok:r.Ok):Rds r.ss r.ws r.ds:=by
 cases r with
 | kind z=>exact .cons (K4 ok) .nil
 | cap a b ns=>exact .cons (YB (by simp) ok.1) (.cons (YB (by simp) ok.2.1) (Kg ok.2.2.1))
 | itm x=>
  cases x with
  | base a=>exact .cons (YB (by simp) ok) .nil
  | each a l h=>obtain⟨h1,h2,U,J⟩:=ok;exact .cons (YB (by simp) h1) (.cons (We (by simp) h2 (by omega)) (.cons (We (by simp) (by omega) J) .nil))
  | rent r s m=>exact .cons (WT ok.1) (.cons (YB (by simp) ok.2) .nil)
  | term u n l h=>obtain⟨h1,h2,U,J⟩:=ok;exact .cons (B8 h1.1 h1.2) (.cons (We (by simp) h2 (by omega)) (.cons (We (by simp) (by omega) J) .nil))
  | pay r s l h=>obtain⟨h1,h2,U,J⟩:=ok;exact .cons (WT h1) (.cons (We (by simp) h2 (by omega)) (.cons (We (by simp) (by omega) J) .nil))
  | cnt z r s=>exact .cons (K4 ok.1) (.cons (WT ok.2) .nil)
  | off l r s=>exact .cons (YB (by simp) ok.1) (.cons (WT ok.2) .nil)
  | unt a=>exact .cons (YB (by simp) ok) .nil
  | rnd u z=>exact .cons (B7 ok.1.1 ok.1.2) (.cons (SG ok.2) .nil)
def JI (z:Str):Prop:=Q6 z/\z.length<=1000/\32∉z.cps.toList
theorem Q3 {n:Int}(h:Zg n):JI (nt n):=⟨W2 h.1,Co (len_num h.1 (by have:=h.2;omega)) (by decide),λhm=>by have:=Yj h.1 32 hm;omega⟩
theorem ZT {r s:Int}(h:ZH r s):JI (Zb r s):=by
 obtain⟨h1,h2,U,h4,_⟩:=h;obtain⟨a1,a2,a3⟩:=Q3 (n:=r) ⟨h1,by omega⟩;obtain⟨b1,b2,b3⟩:=Q3 (n:=s) ⟨by omega,by omega⟩;have la:(nt r).length<=100:=len_num h1 (by omega);have lb:(nt s).length<=100:=len_num (by omega) (by omega);refine⟨Ms h1 U,?_,λJ=>?_⟩
 ·unfold Zb;split
  ·omega
  ·rw[Qu,Qu];show(nt r).length+1+(nt s).length<=1000;omega
 ·unfold Zb at J;split at J
  ·exact a3 J
  ·rw[Yy,Yy] at J;rcases Cr.mp J with J|J
   ·rcases Cr.mp J with J|J
    ·exact a3 J
    ·exact absurd J (by decide)
   ·exact b3 J
theorem ZM (h:Q7 z):JI z:=by
 have h:(decide (1<=z.length)&&decide (z.length<=8)&&z.cps.toList.all YY)=true:=h;simp only[CV,Ai] at h;obtain⟨⟨_,h2⟩,h3⟩:=h;have U:∀c∈z.cps.toList,97<=c/\c<=122:=λc J=>by
  have:=C1.mp h3 c J;unfold YY at this;simpa using this
 exact⟨Ny λc J=>by have:=U c J;omega,by omega,λhm=>by have:=U 32 hm;omega⟩
theorem Ki (h:Jn z=true):JI z:=by
 have h:=C3 h;simp at h;rcases h with rfl|rfl|rfl<;>exact⟨by show _=true;decide +kernel,by decide +kernel,by decide +kernel⟩
def WS:List Str:=[q_ "kind",q_ "cap",q_ "base",q_ "each",q_ "rent",q_ "from",q_ "upto",q_ "pay",q_ "counts",q_ "off",q_ "until",q_ "round"]
theorem Q4:∀z∈WS,JI z:=by
 intro z J;unfold WS at J;simp only[Ca,List.not_mem_nil,or_false] at J;rcases J with rfl|rfl|rfl|rfl|rfl|rfl|rfl|rfl|rfl|rfl|rfl|rfl<;>exact⟨by show _=true;decide +kernel,by decide +kernel,by decide +kernel⟩
theorem Z4 (r:Row):r.srt∈WS:=by
 unfold WS;cases r with
 | kind z=>simp[Row.srt]
 | cap a b ns=>simp[Row.srt]
 | itm x=>
  cases x with
  | term u n l h=>cases u<;>simp[Row.srt,Itm.srt]
  | _=>simp[Row.srt,Itm.srt]
theorem Row.plain {r:Row}(ok:r.Ok):∀z∈r.srt::r.ws,JI z:=by
 have U:∀{n m:Int},0<=n->n<=m->m<=1000->JI (nt n):=λa b c=>Q3 ⟨a,by omega⟩
 intro z J;rcases Ca.mp J with rfl|J
 ·exact Q4 _ (Z4 r)
 ·cases r with
  | kind y=>rw[D7.mp J];exact ZM ok
  | cap a b ns=>
   rcases Ca.mp J with rfl|J
   ·exact Q3 ok.1
   rcases Ca.mp J with rfl|J
   ·exact Q3 ok.2.1
   ·exact ZM (ok.2.2.1 z J)
  | itm x=>
   cases x with
   | base a=>rw[D7.mp J];exact Q3 ok
   | unt a=>rw[D7.mp J];exact Q3 ok
   | each a l h=>
    obtain⟨h1,h2,h3,h4⟩:=ok;have J:z=nt a∨z=nt l∨z=nt h:=by simpa[Row.ws,Itm.ws] using J
    rcases J with rfl|rfl|rfl
    ·exact Q3 h1
    ·exact U h2 (by omega:l<=150) (by decide)
    ·exact U (by omega) h4 (by decide)
   | term u n l h=>
    obtain⟨h1,h2,h3,h4⟩:=ok;have J:z=nt n∨z=nt l∨z=nt h:=by simpa[Row.ws,Itm.ws] using J
    rcases J with rfl|rfl|rfl
    ·exact U h1.1 h1.2 (by decide)
    ·exact U h2 (by omega:l<=150) (by decide)
    ·exact U (by omega) h4 (by decide)
   | pay r s l h=>
    obtain⟨h1,h2,h3,h4⟩:=ok;have J:z=Zb r s∨z=nt l∨z=nt h:=by simpa[Row.ws,Itm.ws] using J
    rcases J with rfl|rfl|rfl
    ·exact ZT h1
    ·exact U h2 (by omega:l<=150) (by decide)
    ·exact U (by omega) h4 (by decide)
   | rent r s m=>
    have J:z=Zb r s∨z=nt m:=by simpa[Row.ws,Itm.ws] using J
    rcases J with rfl|rfl
    ·exact ZT ok.1
    ·exact Q3 ok.2
   | cnt y r s=>
    have J:z=y∨z=Zb r s:=by simpa[Row.ws,Itm.ws] using J
    rcases J with rfl|rfl
    ·exact ZM ok.1
    ·exact ZT ok.2
   | off l r s=>
    have J:z=nt l∨z=Zb r s:=by simpa[Row.ws,Itm.ws] using J
    rcases J with rfl|rfl
    ·exact Q3 ok.1
    ·exact ZT ok.2
   | rnd u y=>
    have J:z=nt u∨z=y:=by simpa[Row.ws,Itm.ws] using J
    rcases J with rfl|rfl
    ·exact Q3 ⟨by have:=ok.1.1;omega,ok.1.2⟩
    ·exact Ki ok.2
theorem LX (r:Row):Z3 Xy (Sum.inr r.srt)=some (.str r.fo):=by
 cases r with
 | kind z=>kernel_rfl
 | cap a b ns=>kernel_rfl
 | itm x=>
  cases x with
  | term u n l h=>cases u<;>kernel_rfl
  | _=>kernel_rfl
theorem Uu (n:Nat)(h1:1<=n)(h8:n<=8):PySem.MulOk (q_ " NAME") ((n:Int)-1)/\(q_ "LIMIT EACH NAME"++Txt.mul (q_ " NAME") ((n:Int)-1)).length<=100/\Txt.split (q_ "LIMIT EACH NAME"++Txt.mul (q_ " NAME") ((n:Int)-1)) blank=q_ "LIMIT" :: q_ "EACH" :: List.replicate n (q_ "NAME")/\Txt.endswith (q_ "LIMIT EACH NAME"++Txt.mul (q_ " NAME") ((n:Int)-1)) (q_ "LOW HIGH")=false:=by
 have J:∀n:Nat,n<9->1<=n->(q_ "LIMIT EACH NAME"++Txt.mul (q_ " NAME") ((n:Int)-1)).length<=100/\Txt.split (q_ "LIMIT EACH NAME"++Txt.mul (q_ " NAME") ((n:Int)-1)) blank=q_ "LIMIT" :: q_ "EACH" :: List.replicate n (q_ "NAME")/\Txt.endswith (q_ "LIMIT EACH NAME"++Txt.mul (q_ " NAME") ((n:Int)-1)) (q_ "LOW HIGH")=false:=by decide +kernel
 refine⟨?_,J n (by omega) h1⟩;have e:(q_ " NAME").length=5:=by decide +kernel
 refine⟨?_,?_,?_⟩
 ·rw[Bool.or_eq_false_iff];exact⟨Ce (by omega),Ce (by omega)⟩
 ·intro hn _;rw[e];rcases(show n=2∨n=3∨n=4∨n=5∨n=6∨n=7∨n=8 by omega) with rfl|rfl|rfl|rfl|rfl|rfl|rfl<;>decide
 ·intro hn _;rw[e];rcases(show n=2∨n=3∨n=4∨n=5∨n=6∨n=7∨n=8 by omega) with rfl|rfl|rfl|rfl|rfl|rfl|rfl<;>decide
theorem La {r:Row}(ok:r.Ok):Txt.split r.form blank=r.ss/\r.form.length<=1000/\r.ss.length<=100:=by
 cases r with
 | kind z=>exact⟨by kernel_rfl,AL (by kernel_rfl),AL (by kernel_rfl)⟩
 | cap a b ns=>
  obtain⟨h1,h2,J,_⟩:=Uu ns.length ok.2.2.2.1 ok.2.2.2.2;refine⟨?_,by show Str.length _<=1000;exact Co h2 (by decide),?_⟩
  ·show Txt.split _ blank=q_ "LIMIT" :: q_ "EACH" :: ns.map λ_=>q_ "NAME"
   rw[List.map_const'];exact J
  ·show(ns.map λ_=>q_ "NAME").length+1+1<=100;rw[D1];have:=ok.2.2.2.2;omega
 | itm x=>
  cases x with
  | term u n l h=>cases u<;>exact⟨by kernel_rfl,AL (by kernel_rfl),AL (by kernel_rfl)⟩
  | _=>exact⟨by kernel_rfl,AL (by kernel_rfl),AL (by kernel_rfl)⟩
def Xm (s:Str)(n:Nat):Option Str:=match Z3 Xy (Sum.inr s) with
 | some (.str f)=>if s=q_ "cap" then some (f++Txt.mul (q_ " NAME") ((n:Int)-1-3)) else some f
 | _=>none
def tab11:List (Str×Str):=[(q_ "kind",q_ "NAME"),(q_ "base",q_ "AMOUNT"),(q_ "each",q_ "AMOUNT LOW HIGH"),(q_ "rent",q_ "RATE MOST"),(q_ "from",q_ "MANY LOW HIGH"),(q_ "upto",q_ "MANY LOW HIGH"),(q_ "pay",q_ "RATE LOW HIGH"),(q_ "counts",q_ "NAME RATE"),(q_ "off",q_ "LIMIT RATE"),(q_ "until",q_ "LIMIT"),(q_ "round",q_ "UNIT WAY")]
theorem N5:Xy=(tab11.map λp=>((Sum.inr p.1:Key),V.str p.2))++[(Sum.inr (q_ "cap"),V.str (q_ "LIMIT EACH NAME"))]:=by kernel_rfl
theorem Jt {s}(h:Z3 Xy (Sum.inr s)=some v):(s=q_ "cap"/\v=.str (q_ "LIMIT EACH NAME"))∨∃p∈tab11,s=p.1/\v=.str p.2:=by
 unfold Z3 at h;obtain⟨kv,h1,h2⟩:=Cv.mp h;have U:kv.1=Sum.inr s:=by simpa using List.find?_some h1
 have J:=List.mem_of_find?_eq_some h1;rw[N5] at J;rcases Cr.mp J with J|J
 ·obtain⟨p,hp,e⟩:=C8.mp J;subst e;exact .inr ⟨p,hp,(Sum.inr.inj U).symm,h2.symm⟩
 ·have e:=D7.mp J;subst e;exact .inl ⟨(Sum.inr.inj U).symm,h2.symm⟩
theorem MX:∀p∈tab11,p.1≠q_ "cap"/\p.2.length<=100/\(Txt.split p.2 blank).length<=100/\(Txt.endswith p.2 (q_ "LOW HIGH")=true->(Txt.split p.2 blank).length=3/\(Txt.split p.2 blank).drop 1=[q_ "LOW",q_ "HIGH"]):=by decide +kernel
theorem Bs:∀n:Nat,n<25->1<=n->(q_ "LIMIT EACH NAME"++Txt.mul (q_ " NAME") ((n:Int)-1-3)).length<=200/\(Txt.split (q_ "LIMIT EACH NAME"++Txt.mul (q_ " NAME") ((n:Int)-1-3)) blank).length<=100/\Txt.endswith (q_ "LIMIT EACH NAME"++Txt.mul (q_ " NAME") ((n:Int)-1-3)) (q_ "LOW HIGH")=false:=by decide +kernel
theorem Pd {s f}(h1:1<=n)(hn:n<25)(h:Xm s n=some f):f.length<=1000/\(Txt.split f blank).length<=100/\(Txt.endswith f (q_ "LOW HIGH")=true->(Txt.split f blank).length=3/\(Txt.split f blank).drop 1=[q_ "LOW",q_ "HIGH"]):=by
 unfold Xm at h;split at h
 ·rename_i J e;rcases Jt e with ⟨rfl,e2⟩|⟨p,hp,rfl,e2⟩
  ·cases e2;rw[DZ rfl] at h;cases h;obtain⟨a,b,c⟩:=Bs n hn h1;exact⟨Co a (by decide),b,λz=>by rw[c] at z;cases z⟩
  ·cases e2;obtain⟨a,b,c,d⟩:=MX p hp;rw[DY a] at h;cases h;exact⟨Co b (by decide),c,d⟩
 ·cases h
theorem GT {r:Row}:r.srt=q_ "cap"->∃a b ns,r=.cap a b ns:=by
 intro h;cases r with
 | kind z=>exact absurd h (by show¬(q_ "kind"=q_ "cap");decide +kernel)
 | cap a b ns=>exact⟨a,b,ns,rfl⟩
 | itm x=>
  cases x with
  | base=>exact absurd h (by show¬(q_ "base"=q_ "cap");decide +kernel)
  | each=>exact absurd h (by show¬(q_ "each"=q_ "cap");decide +kernel)
  | rent=>exact absurd h (by show¬(q_ "rent"=q_ "cap");decide +kernel)
  | term u n l h'=>
   cases u with
   | false=>exact absurd h (by show¬(q_ "from"=q_ "cap");decide +kernel)
   | true=>exact absurd h (by show¬(q_ "upto"=q_ "cap");decide +kernel)
  | pay=>exact absurd h (by show¬(q_ "pay"=q_ "cap");decide +kernel)
  | cnt=>exact absurd h (by show¬(q_ "counts"=q_ "cap");decide +kernel)
  | off=>exact absurd h (by show¬(q_ "off"=q_ "cap");decide +kernel)
  | unt=>exact absurd h (by show¬(q_ "until"=q_ "cap");decide +kernel)
  | rnd=>exact absurd h (by show¬(q_ "round"=q_ "cap");decide +kernel)
inductive On (K)(C)(x:V)(H:Hp)(Q:VK)(E:XK):Prop
 | mk (s:Str) (ws:List Str) (a:Addr) (h1:x=.ref a) (h2:A6 K H a ((s::ws).map V.str)) (h3:ws.length<=20) (h4:∀f,Xm s (ws.length+1)=some f->∀H',Same H H'->Q (.str f) H') (h5:Xm s (ws.length+1)=none->E (.ref C) none H):On K C x H Q E
theorem Na:∀m:Nat,m<25->1<=m->¬((5:Int) > (2 ^ 63-1) / (m:Int))/\PySem.Builtin.Str.tooLong (5*m)=false:=by decide +kernel
theorem Hc {n:Int}(h0:-100<=n)(hn:n<=20):PySem.MulOk (q_ " NAME") n:=by
 have e:(q_ " NAME").length=5:=by decide +kernel
 refine⟨?_,λh1 _=>?_,λh1 _=>?_⟩
 ·rw[Bool.or_eq_false_iff];exact⟨Ce (by omega),Ce (by omega)⟩
 ·rw[e];have:=(Na n.toNat (by omega) (by omega)).1;rwa [Int.toNat_of_nonneg (by omega)] at this
 ·rw[e];exact(Na n.toNat (by omega) (by omega)).2
theorem gW (T:Tx w K mg):WI P w K mg base 1 "form_of" ["words"] (Rp1M (On K t.zG)):=by
 refine VB T 60 ["words","form","further"] Uy λH Q a5 hr h=>?_
 obtain⟨_,rfl,s',ws,a,rfl,U,hl,q,qE⟩:=h;refine⟨_,(Qb (Qr (SK (NR T.bJ (BM K 0))) (Qf (ZC XI rfl rfl T.aI T.aL AM (by decide +kernel) AM (A1 Qe))) Ql) (Qb (A5 1 (YQ T.bJ (BM K 0) (λ_ _=>rfl))) (Qb (Qr (A8 (QM K) (BM K 0) Qe) (Qb (A5 2 (Qg Z6 (Qg Z6 (IC K T.aB (pu 0)) Qd) (IC K T.aB (QE K rfl AN AU AV Xx (pu 1) (A1 Qe))))) (Qf (Qk (Qg Qh (pu 1) (Qg YT Qe (pu 2)))))) Ql) (Qf (Qk (pu 1)))))),?_⟩;left;simp only[tB,GO,GP];left;have h0:IL ((s' :: ws).map V.str) 0=some (.str s'):=QV (j:=0) rfl;refine QA U h0 ⟨Sum.inr s',rfl,?_⟩;cases J:Z3 Xy (Sum.inr s') with
 | none=>
  left;exact⟨by decide,qE (by unfold Xm;rw[J])⟩
 | some v=>
  obtain⟨f,rfl⟩:∃f,v=.str f:=by
   rcases Jt J with ⟨_,e⟩|⟨p,_,_,e⟩
   ·exact⟨_,e⟩
   ·exact⟨_,e⟩
  left;refine QA U h0 ⟨Sum.inr s',_,rfl,J,?_⟩;left;refine QA U h0 ?_;left;refine Qs (λc=>?_) (λc=>?_)
  ·have ef:f=q_ "LIMIT EACH NAME":=by
    rcases Jt J with ⟨_,e⟩|⟨p,hp,e1,_⟩
    ·cases e;rfl
    ·exact absurd (e1.symm.trans c) (MX p hp).1
   subst ef;refine Q0 U ?_;left;rw[ZG];have sp:Txt.split (q_ "LIMIT EACH NAME") blank=[q_ "LIMIT",q_ "EACH",q_ "NAME"]:=by decide +kernel
   refine⟨by trivial,_,blank,rfl,rfl,by decide,Qq (show(q_ "LIMIT EACH NAME").length<=1000 by decide +kernel),by show(Txt.split (q_ "LIMIT EACH NAME") blank).length<=_;rw[sp,Cb];decide,λp hp=>?_⟩;have g1:=Qc hp (.lst ((Txt.split (q_ "LIMIT EACH NAME") blank).map V.str));have a4:(upd H p (.lst ((Txt.split (q_ "LIMIT EACH NAME") blank).map V.str))) p=some (.lst ([q_ "LIMIT",q_ "EACH",q_ "NAME"].map V.str)):=by rw[Qa,sp]
   show Lh K [.ref p] (upd H p (.lst ((Txt.split (q_ "LIMIT EACH NAME") blank).map V.str))) _;generalize upd H p (.lst ((Txt.split (q_ "LIMIT EACH NAME") blank).map V.str))=H1 at *;refine Q0 (AI a4) ?_;left;have e:(((s' :: ws).map V.str).length:Int)-1-(([q_ "LIMIT",q_ "EACH",q_ "NAME"].map V.str).length:Nat)=((ws.length+1:Nat):Int)-1-3:=by
    rw[D1];rfl
   rw[e];left;refine⟨Hc (by omega) (by omega),?_⟩;show sAdd (V.str (q_ "LIMIT EACH NAME")) (V.str (Txt.mul (q_ " NAME") (((ws.length+1:Nat):Int)-1-3))) H1 Q;left;have k2:=(Bs (ws.length+1) (by omega) (by omega)).1;rw[Qu] at k2;exact⟨Qq (by omega),q _ (by unfold Xm;rw[J];exact DZ c) _ g1⟩
  ·exact q _ (by unfold Xm;rw[J];exact DY c) _ (AK _)
def Bw:List D->Bool
 | [_,.int l,.int h]=>decide (h<l)
 | _=>false
def Z9:List Str->Option (List D)
 | []=>none
 | s::ws=>match Xm s (ws.length+1) with
  | none=>none
  | some f=>match IU (Txt.split f blank) ws with
   | none=>none
   | some ds=>if Txt.endswith f (q_ "LOW HIGH")=true/\Bw ds=true then none else some ds
inductive O8 (K)(C)(x:V)(H:Hp)(Q:VK)(E:XK):Prop
 | mk (s:Str) (ws:List Str) (a:Addr) (h1:x=.ref a) (h2:A6 K H a ((s::ws).map V.str)) (h3:ws.length<=20) (h4:∀z∈ws,Q6 z/\z.length<=1000) (h5:∀ds,Z9 (s::ws)=some ds->∀p vs H',Same H H'->H p=none->H' p=some (.lst vs)->All2 (Pv K H') ds vs->Q (.ref p) H') (h6:Z9 (s::ws)=none->∀H',Same H H'->E (.ref C) none H'):O8 K C x H Q E
theorem Ja {s}{d}(h:s=q_ "LOW"∨s=q_ "HIGH")(e:IJ s z=some d):∃n,d=.int n:=by
 unfold IJ at e;rcases h with rfl|rfl
 all_goals
  rw[DY (by decide +kernel),DY (by decide +kernel),DY (by decide +kernel),DY (by decide +kernel)] at e;obtain⟨n,_,e⟩:=Cv.mp e;exact⟨n,e.symm⟩
theorem Ld {ss ws}{ds}(h3:ss.length=3)(h:ss.drop 1=[q_ "LOW",q_ "HIGH"])(e:IU ss ws=some ds):∃d l h',ds=[d,.int l,.int h']:=by
 match ss,h3,h with
 | [s0,_,_],_,h=>
  cases h
  match ws,e with
  | [w0,w1,w2],e=>
   rw[IU] at e;split at e
   ·obtain⟨d1,e1,rfl⟩:=Cv.mp e;rw[IU] at e1;split at e1
    ·rename_i x1 _ y1 U;obtain⟨d2,e2,rfl⟩:=Cv.mp e1;rw[IU] at e2;split at e2
     ·rename_i y2 z2;obtain⟨d3,J,rfl⟩:=Cv.mp e2;cases J;obtain⟨l,rfl⟩:=Ja (.inl rfl) U;obtain⟨h',rfl⟩:=Ja (.inr rfl) z2;exact⟨_,_,_,rfl⟩
     ·cases e2
    ·cases e1
   ·cases e
  | [],e=>cases e
  | [w0],e=>simp only[IU] at e;split at e<;>cases e
  | [w0,w1],e=>simp only[IU] at e;split at e;(split at e<;>cases e);cases e
  | _::_::_::_::_,e=>have:=K5 e;simp at this
theorem gX (T:Tx w K mg):WI P w K mg base 6 "values_of" ["words"] (Rp1M (O8 K t.zG)):=by
 refine VB T 61 ["words","form","values"] Uy λH Q a6 hr h=>?_
 obtain⟨_,rfl,s',ws,a,rfl,hw,hl,hz,q,qE⟩:=h;refine⟨_,(Qb (A5 1 (Zn (gW T) (GG hr) rfl (X4 λ_ _ h=>h) (A1 (pu 0)))) (Qb (A5 2 (Zn (gV T) (GG hr) rfl (X4 λ_ _ h=>h) (A3 (pu 1) (QJ (IT K rfl) (pu 0) (QL Qd) Q8)))) (Qb (Qr (PW.pt (Zz (Z5 (QE K rfl AN PySem.F.slot_str_endswith PySem.F.type_str_endswith V8 (pu 1) (A1 Qe))) (Zh (A8 YF (BN K (pu 2) Ia) (BN K (pu 2) Ia))))) (Qf (ZC XI rfl rfl T.aI T.aL AM (by decide +kernel) AM (A1 Qe))) Ql) (Qf (Qk (pu 2)))))),?_⟩;left;refine⟨s',ws,a,rfl,hw,hl,λf ef H1 g1=>?_,λe=>qE (by rw[Z9,e]) _ (AK _)⟩;left;refine Zt (g1.seq hw) λp hp=>?_
 rw[show ZW ((s' :: ws).map V.str) (some 1) none=ws.map V.str from XS _ 1];have g2:=Qc hp (.lst (ws.map V.str));have a4:A6 K (upd H1 p (.lst (ws.map V.str))) p (ws.map V.str):=AI Qa;generalize upd H1 p (.lst (ws.map V.str))=H2 at *;obtain⟨f1,f2,f3⟩:=Pd (by omega) (by omega) ef;refine⟨f,p,ws,_,rfl,rfl,a4,rfl,f1,f2,hz,λds e3 p3 vs H3 g3 a5 J U=>?_,λe3 H3 g3=>qE (by rw[Z9,ef];dsimp only;rw[e3]) _ ((g1.trans g2).trans g3)⟩;have gg:=(g1.trans g2).trans g3;have fin:(¬(Txt.endswith f (q_ "LOW HIGH")=true/\Bw ds=true))->Q (.ref p3) H3:=λc=>q ds (by rw[Z9,ef];dsimp only;rw[e3];exact if_neg c) _ _ _ gg ((g1.trans g2).free a5) J U
 refine⟨by trivial,_,_,rfl,rfl,?_⟩;left;refine Qs (λc=>?_) (λc=>fin λz=>c z.1);obtain⟨d,l,h',rfl⟩:=Ld (f3 c).1 (f3 c).2 e3;obtain⟨v0,v1,v2,rfl,_,r1,r2⟩:∃v0 v1 v2,vs=[v0,v1,v2]/\Pv K H3 d v0/\Pv K H3 (.int l) v1/\Pv K H3 (.int h') v2:=by
  match vs,U with
  | [v0,v1,v2],U=>exact⟨_,_,_,rfl,U.2 0 _ _ rfl rfl,U.2 1 _ _ rfl rfl,U.2 2 _ _ rfl rfl⟩
 cases r1;cases r2;refine QA (AI J) (v:=.int l) rfl (QA (AI J) (v:=.int h') rfl ?_);left;refine Qs (λc2=>⟨by decide,qE (by rw[Z9,ef];dsimp only;rw[e3];exact if_pos ⟨c,decide_eq_true c2⟩) _ gg⟩) (λc2=>fin λz=>c2 (of_decide_eq_true z.2))
theorem Pn {r:Row}(ok:r.Ok)(h:Txt.endswith r.form (q_ "LOW HIGH")=true):∃d l h',r.ds=[d,.int l,.int h']/\l<=h':=by
 cases r with
 | kind z=>exact absurd (h.symm.trans (show _=false by kernel_rfl)) (by decide)
 | cap a b ns=>exact absurd (h.symm.trans (Uu ns.length ok.2.2.2.1 ok.2.2.2.2).2.2.2) (by decide)
 | itm x=>
  cases x with
  | each a l h'=>exact⟨_,l,h',rfl,ok.2.2.1⟩
  | term u n l h'=>exact⟨_,l,h',rfl,ok.2.2.1⟩
  | pay r s l h'=>exact⟨_,l,h',rfl,ok.2.2.1⟩
  | _=>exact absurd (h.symm.trans (show _=false by kernel_rfl)) (by decide)
theorem GY:∀{ss ws} {ds},Rds ss ws ds->IU ss ws=some ds
 | _,_,_,.nil=>rfl
 | _,_,_,.cons h r=>by rw[IU,h,GY r];rfl
theorem LY {r:Row}(ok:r.Ok):Xm r.srt (r.ws.length+1)=some r.form:=by
 unfold Xm;rw[LX];dsimp only;by_cases c:r.srt=q_ "cap"
 ·obtain⟨a,b,ns,rfl⟩:=GT c;rw[DZ c];have e:(((Row.cap a b ns).ws.length+1:Nat):Int)-1-3=(ns.length:Int)-1:=by
   show((ns.length+1+1+1:Nat):Int)-1-3=_;omega
  rw[e];rfl
 ·rw[DY c];cases r with
  | cap=>exact absurd rfl c
  | kind=>rfl
  | itm=>rfl
theorem VO {r:Row}(ok:r.Ok):Z9 (r.srt::r.ws)=some r.ds:=by
 rw[Z9,LY ok];dsimp only;rw[(La ok).1,GY (r.reads ok)];dsimp only;refine DY λ⟨c1,J⟩=>?_
 obtain⟨d,l,h',ed,U⟩:=Pn ok c1;rw[ed] at J;have:=C3 J;omega
theorem Xs (f)(v):∀fs,(QI f v fs).length<=fs.length+1
 | []=>D2 _
 | (g,x)::r=>by
  unfold QI;split
  ·simp
  ·have:=Xs f v r;simp;omega
def Oth (p:Addr)(H H':Hp):Prop:=∀c u,c≠p->H c=some u->H' c=some u
theorem Oth.refl (p)(H):Oth p H H:=λ_ _ _ h=>h
theorem Oth.put {o}(h:Oth p H H'):Oth p H (upd H' p o):=λc u e k=>by rw[Qj e];exact h c u e k
theorem Oth.new {o}(h:Oth p H H')(hl:H' l=none):Oth p H (upd H' l o):=λc u e k=>(Qc hl o) _ _ (h c u e k)
abbrev jx (C x dx:Addr)(H:Hp):Hp:=upd (upd H dx (.own x)) x (.ins C dx [])
theorem XO:jx C x dx H x=some (.ins C dx []):=Qa
theorem Zk {x}(hx:H x=none)(hd:H dx=none)(g:Oth x (jx C x dx H) H'):Same H H':=λb o h=>by
 have h1:b≠x:=Qi h hx;have h2:b≠dx:=Qi h hd;refine g b o h1 ?_;show upd (upd H dx (.own x)) x (.ins C dx []) b=some o;rw[Qj h1,Qj h2];exact h
inductive kM (C)(f1)(x y:V)(H:Hp)(Q:VK):Prop
 | mk (p dx:Addr) (h1:x=.ref p) (h5:H p=some (.ins C dx [])) (h6:∀H',Oth p H H'->H' p=some (.ins C dx (QI f1 y []))->Q .non H'):kM C f1 x y H Q
inductive kL (C)(f1 f2)(x y z:V)(H:Hp)(Q:VK):Prop
 | mk (p dx:Addr) (h1:x=.ref p) (h5:H p=some (.ins C dx [])) (h6:∀H',Oth p H H'->H' p=some (.ins C dx (QI f2 z (QI f1 y [])))->Q .non H'):kL C f1 f2 x y z H Q
inductive ig (C)(f1 f2 f3)(x y z u:V)(H:Hp)(Q:VK):Prop
 | mk (p dx:Addr) (h1:x=.ref p) (h5:H p=some (.ins C dx [])) (h6:∀H',Oth p H H'->H' p=some (.ins C dx (QI f3 u (QI f2 z (QI f1 y []))))->Q .non H'):ig C f1 f2 f3 x y z u H Q
theorem len1 {f}:(QI f v []).length<1000:=Aq (Xs _ _ _) (by decide)
theorem len2 {f g}{u}:(QI g u (QI f v [])).length<1000:=Aq (Co (Xs _ _ _) (Nat.succ_le_succ (Xs _ _ _))) (by decide)
theorem gY (T:Tx w K mg):JK P w K mg base 1 t.zR ["self","amount"] (Sp2M (kM t.zR "amount")):=by
 refine Uw T 4800 ["self","amount"] Y6 λH Q J U h=>?_
 obtain⟨_,_,rfl,p,dx,rfl,hp,q⟩:=h;refine⟨_,(Qf (QC K rfl (pu 0) (pu 1))),?_⟩;left;exact XX hp T.eZ T.f9 (by decide) (q _ (Oth.refl _ _).put Qa)
theorem gZ (T:Tx w K mg):JK P w K mg base 1 t.zS ["self","amount","low","high"] (Sp4M (ig t.zS "amount" "low" "high")):=by
 refine Uw T 4900 ["self","amount","low","high"] By λH Q J U h=>?_
 obtain⟨_,_,_,_,rfl,p,dx,rfl,hp,q⟩:=h;refine⟨_,(Qb (QC K rfl (pu 0) (pu 1)) (Qb (QC K rfl (pu 0) (pu 2)) (Qf (QC K rfl (pu 0) (pu 3))))),?_⟩;left;refine XX hp T.b7 T.fI (by decide) ?_;left;refine XX Qa T.b7 T.fJ len1 ?_;left;exact XX Qa T.b7 T.fK len2 (q _ (Oth.refl _ _).put.put.put Qa)
theorem hG (T:Tx w K mg):JK P w K mg base 1 t.zT ["self","rate","most"] (Sp3M (kL t.zT "rate" "most")):=by
 refine Uw T 5000 ["self","rate","most"] JU λH Q J U h=>?_
 obtain⟨_,_,_,rfl,p,dx,rfl,hp,q⟩:=h;refine⟨_,(Qb (QC K rfl (pu 0) (pu 1)) (Qf (QC K rfl (pu 0) (pu 2)))),?_⟩;left;refine XX hp T.bM T.fQ (by decide) ?_;left;exact XX Qa T.bM T.fU len1 (q _ (Oth.refl _ _).put.put Qa)
theorem hJ (T:Tx w K mg):JK P w K mg base 1 t.zV ["self","many","low","high"] (Sp4M (ig t.zV "many" "low" "high")):=by
 refine Uw T 5200 ["self","many","low","high"] By λH Q J U h=>?_
 obtain⟨_,_,_,_,rfl,p,dx,rfl,hp,q⟩:=h;refine⟨_,(Qb (QC K rfl (pu 0) (pu 1)) (Qb (QC K rfl (pu 0) (pu 2)) (Qf (QC K rfl (pu 0) (pu 3))))),?_⟩;left;refine XX hp T.b8 T.fW (by decide) ?_;left;refine XX Qa T.b8 T.fY len1 ?_;left;exact XX Qa T.b8 T.fZ len2 (q _ (Oth.refl _ _).put.put.put Qa)
theorem hV (T:Tx w K mg):JK P w K mg base 1 t.zW ["self","many","low","high"] (Sp4M (ig t.zW "many" "low" "high")):=by
 refine Uw T 5300 ["self","many","low","high"] By λH Q J U h=>?_
 obtain⟨_,_,_,_,rfl,p,dx,rfl,hp,q⟩:=h;refine⟨_,(Qb (QC K rfl (pu 0) (pu 1)) (Qb (QC K rfl (pu 0) (pu 2)) (Qf (QC K rfl (pu 0) (pu 3))))),?_⟩;left;refine XX hp T.b9 T.gF (by decide) ?_;left;refine XX Qa T.b9 T.gG len1 ?_;left;exact XX Qa T.b9 T.gH len2 (q _ (Oth.refl _ _).put.put.put Qa)
def fB (a:V):List (Str×V):=QI "amount" a []
def fE (a l h:V):List (Str×V):=QI "high" h (QI "low" l (QI "amount" a []))
def fR (r m:V):List (Str×V):=QI "most" m (QI "rate" r [])
def fT (n l h:V):List (Str×V):=QI "high" h (QI "low" l (QI "many" n []))
inductive PIt (K)(t:Ii)(H:Hp):Itm->V->Prop
 | base (a:Int) (x dx:Addr) (h:H x=some (.ins t.zR dx (fB (.int a)))):PIt K t H (.base a) (.ref x)
 | each (a l h':Int) (x dx:Addr) (h:H x=some (.ins t.zS dx (fE (.int a) (.int l) (.int h')))):PIt K t H (.each a l h') (.ref x)
 | rent (r s m:Int) (x dx p:Addr) (h:H x=some (.ins t.zT dx (fR (.ref p) (.int m)))) (hp:A9 K H p [.int r,.int s]):PIt K t H (.rent r s m) (.ref x)
 | from' (n l h':Int) (x dx:Addr) (h:H x=some (.ins t.zV dx (fT (.int n) (.int l) (.int h')))):PIt K t H (.term false n l h') (.ref x)
 | upto (n l h':Int) (x dx:Addr) (h:H x=some (.ins t.zW dx (fT (.int n) (.int l) (.int h')))):PIt K t H (.term true n l h') (.ref x)
 | pay (r s l h':Int) (x p:Addr) (h:A9 K H x [.ref p,.int l,.int h']) (hp:A9 K H p [.int r,.int s]):PIt K t H (.pay r s l h') (.ref x)
 | cnt (z:Str) (r s:Int) (x p:Addr) (h:A9 K H x [.str z,.ref p]) (hp:A9 K H p [.int r,.int s]):PIt K t H (.cnt z r s) (.ref x)
 | off (l r s:Int) (x p:Addr) (h:A9 K H x [.int l,.ref p]) (hp:A9 K H p [.int r,.int s]):PIt K t H (.off l r s) (.ref x)
 | unt (a:Int) (x:Addr) (h:A9 K H x [.int a]):PIt K t H (.unt a) (.ref x)
 | rnd (u:Int) (z:Str) (x:Addr) (h:A9 K H x [.int u,.str z]):PIt K t H (.rnd u z) (.ref x)
def Kp (N:Addr->Prop)(H H':Hp):Prop:=∀b o,H b=some o->(N b∨∀vs,o≠.lst vs)->H' b=some o
theorem Kp.of (g:Same H H'):Kp N H H':=λb o h _=>g b o h
theorem Kp.trans (a:Kp N H H1)(b:Kp N H1 H2):Kp N H H2:=λc o h k=>b c o (a c o h k) k
theorem Kp.sqT {xs}(g:Kp N H H')(h:A9 K H p xs):A9 K H' p xs:=by
 rcases h with (h|⟨o,h⟩)|h
 ·exact .inl (.inl (g _ _ h (.inr λvs e=>nomatch e)))
 ·exact .inl (.inr ⟨o,g _ _ h (.inr λvs e=>nomatch e)⟩)
 ·exact .inr h
theorem Kp.ins {fs:List (Str×V)}(g:Kp N H H')(h:H p=some (.ins C dx fs)):H' p=some (.ins C dx fs):=g _ _ h (.inr λvs e=>nomatch e)
theorem PIt.kp {t}(g:Kp N H H'){x}{v}(h:PIt K t H x v):PIt K t H' x v:=by
 cases h with
 | base a x dx h=>exact .base a x dx (g.ins h)
 | each a l h' x dx h=>exact .each a l h' x dx (g.ins h)
 | rent r s m x dx p h hp=>exact .rent r s m x dx p (g.ins h) (g.sqT hp)
 | from' n l h' x dx h=>exact .from' n l h' x dx (g.ins h)
 | upto n l h' x dx h=>exact .upto n l h' x dx (g.ins h)
 | pay r s l h' x p h hp=>exact .pay r s l h' x p (g.sqT h) (g.sqT hp)
 | cnt z r s x p h hp=>exact .cnt z r s x p (g.sqT h) (g.sqT hp)
 | off l r s x p h hp=>exact .off l r s x p (g.sqT h) (g.sqT hp)
 | unt a x h=>exact .unt a x (g.sqT h)
 | rnd u z x h=>exact .rnd u z x (g.sqT h)
theorem l7 {d}(h:All2 (Pv K H) [d] vs):∃v,vs=[v]/\Pv K H d v:=by
 match vs,h with
 | [v],h=>exact⟨v,rfl,h.2 0 _ _ rfl rfl⟩
theorem jl {d e}(h:All2 (Pv K H) [d,e] vs):∃v u,vs=[v,u]/\Pv K H d v/\Pv K H e u:=by
 match vs,h with
 | [v,u],h=>exact⟨v,u,rfl,h.2 0 _ _ rfl rfl,h.2 1 _ _ rfl rfl⟩
theorem mP {d e f}(h:All2 (Pv K H) [d,e,f] vs):∃v u w,vs=[v,u,w]/\Pv K H d v/\Pv K H e u/\Pv K H f w:=by
 match vs,h with
 | [v,u,w],h=>exact⟨v,u,w,rfl,h.2 0 _ _ rfl rfl,h.2 1 _ _ rfl rfl,h.2 2 _ _ rfl rfl⟩
theorem Zj {i:Int}(h:Pv K H (.int i) v):v=.int i:=by cases h;rfl
theorem YC (h:Pv K H (.str z) v):v=.str z:=by cases h;rfl
theorem G1 {r s:Int}(h:Pv K H (fr r s) v):∃p,v=.ref p/\A9 K H p [.int r,.int s]:=by cases h with|rt _ _ p h=>exact⟨p,rfl,h⟩
inductive Iq (K)(t:Ii)(x y:V)(H:Hp)(Q:VK):Prop
 | mk (x':Itm) (a:Addr) (vs:List V) (h1:x=.str x'.srt) (h2:y=.ref a) (h3:A6 K H a vs) (h4:All2 (Pv K H) x'.ds vs) (h5:∀v H',Same H H'->PIt K t H' x' v->Q v H'):Iq K t x y H Q
theorem hZ (T:Tx w K mg):GF P w K mg base 3 "thing_of" ["sort","values"] (Sp2M (Iq K t)):=by
 refine Zf T 62 ["sort","values"] Y6 λH Q a4 hr h=>?_
 obtain⟨_,_,rfl,x,a,vs,rfl,rfl,hL,hA,q⟩:=h;refine⟨_,(Qb (Qr (A8 (QM K) (pu 0) Qe) (Qf (Qk (YE (gY T) (GG hr) rfl T.cU (A1 (BM K 1))))) Ql) (Qb (Qr (A8 (QM K) (pu 0) Qe) (Qf (Qk (YE (gZ T) (GG hr) rfl T.cV (IZ (BM K 1) (BM K 1) (BM K 1))))) Ql) (Qb (Qr (A8 (QM K) (pu 0) Qe) (Qf (Qk (YE (hG T) (GG hr) rfl T.cW (A3 (BM K 1) (BM K 1))))) Ql) (Qb (Qr (A8 (QM K) (pu 0) Qe) (Qf (Qk (YE (hJ T) (GG hr) rfl T.cX (IZ (BM K 1) (BM K 1) (BM K 1))))) Ql) (Qb (Qr (A8 (QM K) (pu 0) Qe) (Qf (Qk (YE (hV T) (GG hr) rfl T.cY (IZ (BM K 1) (BM K 1) (BM K 1))))) Ql) (Qf (Qk (Qv (Ss K rfl) (by rfl) T.bE boot_tuple (A1 (pu 1)))))))))),?_⟩;have tp:(∀p H',Same H H'->H' p=some (.tup vs)->Q (.ref p) H')->Lf K [.ref a] H Q:=λk=>⟨a,vs,rfl,.inl ⟨hL,λl hl=>k l _ (Qc hl _) Qa⟩⟩
 cases x with
 | base n=>
  obtain⟨v,rfl,h1⟩:=l7 hA;cases Zj h1;dsimp only[Itm.srt];left;intro x dx U hd _;exact⟨x,dx,rfl,XO,λH' g hp=>⟨rfl,q _ _ (Zk U hd g) (.base n x dx hp)⟩⟩
 | each n l h'=>
  obtain⟨v,v2,v3,rfl,h1,h2,h3⟩:=mP hA;cases Zj h1;cases Zj h2;cases Zj h3;dsimp only[Itm.srt];left;intro x dx U hd _;exact⟨x,dx,rfl,XO,λH' g hp=>⟨rfl,q _ _ (Zk U hd g) (.each n l h' x dx hp)⟩⟩
 | rent r s' m=>
  obtain⟨v,v2,rfl,h1,h2⟩:=jl hA;obtain⟨p,rfl,J⟩:=G1 h1;cases Zj h2;dsimp only[Itm.srt];left;intro x dx U hd _;exact⟨x,dx,rfl,XO,λH' g hp=>⟨rfl,q _ _ (Zk U hd g) (.rent r s' m x dx p hp ((Zk U hd g).sqT J))⟩⟩
 | term u n l h'=>
  obtain⟨v,v2,v3,rfl,h1,h2,h3⟩:=mP hA;cases Zj h1;cases Zj h2;cases Zj h3;cases u with
  | false=>
   dsimp only[Itm.srt];left;intro x dx U hd _;exact⟨x,dx,rfl,XO,λH' g hp=>⟨rfl,q _ _ (Zk U hd g) (.from' n l h' x dx hp)⟩⟩
  | true=>
   dsimp only[Itm.srt];left;intro x dx U hd _;exact⟨x,dx,rfl,XO,λH' g hp=>⟨rfl,q _ _ (Zk U hd g) (.upto n l h' x dx hp)⟩⟩
 | pay r s' l h'=>
  obtain⟨v,v2,v3,rfl,h1,h2,h3⟩:=mP hA;obtain⟨p,rfl,J⟩:=G1 h1;cases Zj h2;cases Zj h3;dsimp only[Itm.srt];left;exact tp λp2 H' g hp=>q _ _ g (.pay r s' l h' p2 p (AJ hp) (g.sqT J))
 | cnt z r s'=>
  obtain⟨v,v2,rfl,h1,h2⟩:=jl hA;cases YC h1;obtain⟨p,rfl,J⟩:=G1 h2;dsimp only[Itm.srt];left;exact tp λp2 H' g hp=>q _ _ g (.cnt z r s' p2 p (AJ hp) (g.sqT J))
 | off l r s'=>
  obtain⟨v,v2,rfl,h1,h2⟩:=jl hA;cases Zj h1;obtain⟨p,rfl,J⟩:=G1 h2;dsimp only[Itm.srt];left;exact tp λp2 H' g hp=>q _ _ g (.off l r s' p2 p (AJ hp) (g.sqT J))
 | unt n=>
  obtain⟨v,rfl,h1⟩:=l7 hA;cases Zj h1;dsimp only[Itm.srt];left;exact tp λp2 H' g hp=>q _ _ g (.unt n p2 (AJ hp))
 | rnd u z=>
  obtain⟨v,v2,rfl,h1,h2⟩:=jl hA;cases Zj h1;cases YC h2;dsimp only[Itm.srt];left;exact tp λp2 H' g hp=>q _ _ g (.rnd u z p2 (AJ hp))
def Itm.sl:Itm->Nat
 | .base ..=>0|.each ..=>0|.rent ..=>0|.term ..=>1|.pay ..=>2|.cnt ..=>3|.off ..=>4|.unt ..=>5|.rnd ..=>6
theorem Xb (x:Itm):x.sl<7:=by cases x<;>exact AL rfl
def sn:Nat->Str
 | 0=>q_ "parts" | 1=>q_ "terms" | 2=>q_ "pays" | 3=>q_ "counts" | 4=>q_ "offs" | 5=>q_ "untils" | _=>q_ "rounds"
def mo:Nat->Int
 | 0=>6|1=>6|2=>4|4=>6|_=>1
def os6:List Nat:=[0,1,2,4,5,6]
theorem Jk (x:Itm):Z3 Uc (Sum.inr x.srt)=some (.str (sn x.sl)):=by
 cases x with
 | term u n l h=>cases u<;>kernel_rfl
 | _=>kernel_rfl
theorem Vk:kd_LONGEST.map (·.1)=os6.map λj=>Sum.inr (sn j):=by kernel_rfl
theorem Gf (h:j<7)(h3:j≠3):Z3 kd_LONGEST (Sum.inr (sn j))=some (.int (mo j)):=by
 rcases(show j=0∨j=1∨j=2∨j=4∨j=5∨j=6 by omega) with rfl|rfl|rfl|rfl|rfl|rfl<;>kernel_rfl
def l9 (z:Str)(q:Nat->Addr):List (Key×V):=[(Sum.inr (q_ "title"),.str z),(Sum.inr (q_ "counts"),.ref (q 3))]++os6.map λj=>(Sum.inr (sn j),.ref (q j))
theorem Ma:Z3 (l9 z q) (Sum.inr (q_ "title"))=some (.str z):=by kernel_rfl
theorem HD (h:j<7):Z3 (l9 z q) (Sum.inr (sn j))=some (.ref (q j)):=by
 rcases(show j=0∨j=1∨j=2∨j=3∨j=4∨j=5∨j=6 by omega) with rfl|rfl|rfl|rfl|rfl|rfl|rfl<;>kernel_rfl
inductive Iv (x:V)(H)(Q:VK):Prop
 | mk (z:Str) (h1:x=.str z) (h2:∀d q H',Same H H'->H d=none->H' d=some (.dK (l9 z q))->(∀j<7,H (q j)=none/\H' (q j)=some (.lst []))->(∀i<7,∀j<7,q i=q j->i=j)->Q (.ref d) H'):Iv x H Q
def d0 (z:Str)(q:Nat->Addr)(l:List Nat):List (Key×V):=[(Sum.inr (q_ "title"),.str z),(Sum.inr (q_ "counts"),.ref (q 3))]++l.map λj=>(Sum.inr (sn j),.ref (q j))
def o8 (z:Str)(H:Hp)(d:Addr)(i:Nat)(σ:L2.St)(H':Hp):Prop:=∃(x2:Option V) (q:Nat->Addr),σ=[some (.str z),some (.ref d),x2]/\Same H H'/\H' d=some (.dK (d0 z q (os6.take i)))/\(∀j∈3::os6.take i,H (q j)=none/\H' (q j)=some (.lst []))/\∀a∈3::os6.take i,∀b∈3::os6.take i,q a=q b->a=b
theorem ED (h:os6[i]?=some j):j<7/\j≠3/\j∉os6.take i/\os6.take (i+1)=os6.take i++[j]:=by
 have hi:i<6:=(Cg.mp h).1;rcases(show i=0∨i=1∨i=2∨i=3∨i=4∨i=5 by omega) with rfl|rfl|rfl|rfl|rfl|rfl<;>cases h<;>exact⟨by decide,by decide,by decide,rfl⟩
theorem i0 (T:Tx w K mg):GF P w K mg base 1 "new_draft" ["title"] (Sp1M Iv):=by
 refine Zf T 63 ["title","draft","name"] Xk λH Q ae hr h=>?_
 obtain⟨_,rfl,z,rfl,q⟩:=h;refine⟨_,(Qb (A5 1 (RC (V1 Qe (pu 0) (V1 Qe (Qn Qz) Rn)) rfl rfl (λz=>nomatch z) (AL rfl))) (Qb (fh (Ru T.bK) (GE 2) (Qf (Rm (ZV hr) (pu 1) (pu 2) (Qn Qz) rfl))) (Qf (Qk (pu 1))))),?_⟩;left;intro d hd;simp only[KW];left;refine⟨CF _,λp hp=>?_⟩;have a6:p≠d:=λe=>by rw[e,Qa] at hp;cases hp
 have a8:H p=none:=by rw[Qj a6] at hp;exact hp
 refine⟨by rw[Qj a6.symm];exact Qa,[(Sum.inr (q_ "title"),.str z),(Sum.inr (q_ "counts"),.ref p)],rfl,AL rfl,?_⟩;rw[show Wj [] [(Sum.inr (q_ "title"),.str z),(Sum.inr (q_ "counts"),.ref p)]=d0 z (λ_=>p) [] from by kernel_rfl];have g:Same H (upd (upd (upd H d (.dK [])) p (.lst [])) d (.dK (d0 z (λ_=>p) []))):=λb o h=>by
  have h1:=Qi h hd;rw[Qj h1,Qj (Qi h a8),Qj h1];exact h
 show KN (mD kd_LONGEST) _ _ _ _ _;refine DJ (o8 z H d) ⟨none,λ_=>p,rfl,g,Qa,λj _=>⟨a8,by rw[Qj a6];exact Qa⟩,λa ha b J _=>?_⟩ ?_ ?_
 ·have ha:a=3:=by simpa using ha
  have J:b=3:=by simpa using J
  rw[ha,J]
 ·rintro i kv _ H2 U ⟨x2,q',rfl,g2,hd2,hq,hinj⟩;have a9:(kd_LONGEST.map (·.1))[i]?=some kv.1:=by rw[Ct,U];rfl
  rw [Vk,Ct] at a9;obtain ⟨j,hj,ek⟩:=Cv.mp a9;obtain ⟨j7,j3,jn,jt⟩:=ED hj;have hi:i<6:=(Cg.mp hj).1;rw [<-ek];left;simp only [P7];left;refine ⟨CF _,fun p2 a7=>?_⟩;have n2:d≠p2:=Qi hd2 a7;have aa:H p2=none:=g2.free a7;refine ⟨d,_,rfl,DPut.k (k:=Sum.inr (sn j)) (by rw [Qj n2];exact hd2) ?_,?_⟩
  ·show([(Sum.inr (q_ "title"),V.str z),(Sum.inr (q_ "counts"),.ref (q' 3))]++(os6.take i).map λj=>((Sum.inr (sn j):Key),V.ref (q' j))).length<_;rw[D0,D1,CC,Cb];show 2+min i 6<_;omega
  ·have e1:Z3 (d0 z q' (os6.take i)) (Sum.inr (sn j))=none:=by
    rcases(show i=0∨i=1∨i=2∨i=3∨i=4∨i=5 by omega) with rfl|rfl|rfl|rfl|rfl|rfl<;>cases hj<;>kernel_rfl
   have e2:d0 z q' (os6.take i)++[(Sum.inr (sn j),.ref p2)]=d0 z (λk=>if k=j then p2 else q' k) (os6.take (i+1)):=by
    rcases(show i=0∨i=1∨i=2∨i=3∨i=4∨i=5 by omega) with rfl|rfl|rfl|rfl|rfl|rfl<;>cases hj<;>kernel_rfl
   rw[Ll _ e1,e2];have a4:∀k∈3::os6.take i,k≠j/\q' k≠p2/\q' k≠d:=λk U=>by
    have:=(hq k U).2;refine⟨λe=>?_,Qi this a7,Kn this hd2 (by intro z;cases z)⟩;subst e;rcases Ca.mp U with h|h
    ·exact j3 h
    ·exact jn h
   have a5:∀k∈3::os6.take (i+1),k=j∨k∈3::os6.take i:=λk U=>by
    rw[jt] at U;rcases Ca.mp U with h|h
    ·exact .inr (Ca.mpr (.inl h))
    ·rcases Cr.mp h with h|h
     ·exact .inr (Cu _ h)
     ·exact .inl (D7.mp h)
   refine⟨_,λk=>if k=j then p2 else q' k,rfl,λb o h=>?_,Qa,λk U=>?_,λa ha b J e=>?_⟩
   ·rw[Qj (λe=>by subst e;have:=g2 _ _ h;rw[hd2] at this;cases this;exact absurd hd (by rw[h];simp)),Qj (Qi h aa)];exact g2 _ _ h
   ·rcases a5 k U with rfl|U
    ·show H (if k=k then p2 else q' k)=none/\_=_;rw[DZ rfl];exact⟨aa,by show upd (upd H2 p2 (.lst [])) d _ (if k=k then p2 else q' k)=_;rw[DZ rfl,Qj n2.symm,Qa]⟩
    ·obtain⟨o1,o2,o3⟩:=a4 k U;show H (if k=j then p2 else q' k)=none/\upd (upd H2 p2 (.lst [])) d _ (if k=j then p2 else q' k)=_;rw[DY o1,Qj o3,Qj o2];exact hq k U
   ·have e:(if a=j then p2 else q' a)=if b=j then p2 else q' b:=e
    rcases a5 a ha with rfl|ha
    ·rcases a5 b J with rfl|J
     ·rfl
     ·obtain⟨o1,o2,_⟩:=a4 b J;rw[DZ rfl,DY o1] at e;exact absurd e.symm o2
    ·obtain⟨o1,o2,_⟩:=a4 a ha;rcases a5 b J with rfl|J
     ·rw[DZ rfl,DY o1] at e;exact absurd e o2
     ·obtain⟨o3,_,_⟩:=a4 b J;rw[DY o1,DY o3] at e;exact hinj a ha b J e
 ·rintro _ H2 ⟨x2,q',rfl,g2,hd2,hq,hinj⟩;left;have all:∀j<7,j∈3::os6.take kd_LONGEST.length:=by decide +kernel
  exact q d q' _ g2 hd hd2 (λj hj=>hq j (all j hj)) λa ha b J=>hinj a (all a ha) b (all b J)
structure DrR (K:W.Frag)(t:Ii)(H:Hp)(d:Addr)(z:Str)(xs:List Itm)(q:Nat->Addr):Prop where
 hd:H d=some (.dK (l9 z q))
 hq:∀j<7,∃vs,H (q j)=some (.lst vs)/\All2 (PIt K t H) (xs.filter λx=>decide (x.sl=j)) vs
def Xl (xs:List Itm)(x:Itm):Prop:=match x with
 | .cnt z _ _=>∀y∈xs,∀z' r s,y=.cnt z' r s->z'≠z
 | .off l _ _=>(xs.filter λy=>decide (y.sl=4)).length<6/\∀y∈xs,∀l' r s,y=.off l' r s->l'<l
 | x=>((xs.filter λy=>decide (y.sl=x.sl)).length:Int)<mo x.sl
def lR:Itm->Str
 | .cnt z _ _=>z
 | _=>q_ ""
def IV:Itm->Int
 | .off l _ _=>l
 | _=>0
abbrev BL (xs:List Itm)(j:Nat):List Itm:=xs.filter λy=>decide (y.sl=j)
def XB (xs:List Itm)(x:Itm):Bool:=match x with
 | .cnt z _ _=>!decide (z∈(BL xs 3).map lR)
 | .off l _ _=>!decide (((BL xs 4).length:Int)=6)&&(match (BL xs 4).getLast? with|some y=>decide (IV y<l)|none=>true)
 | x=>!decide (((BL xs x.sl).length:Int)=mo x.sl)
inductive jT (K)(t:Ii)(x y z:V)(H:Hp)(Q:VK):Prop
 | mk (d:Addr) (tl:Str) (xs:List Itm) (q:Nat->Addr) (x':Itm) (a:Addr) (vs:List V) (h1:x=.ref d) (h2:y=.str x'.srt) (h3:z=.ref a) (h4:DrR K t H d tl xs q) (h5:A6 K H a vs) (h6:All2 (Pv K H) x'.ds vs) (h8:xs.length<=1000) (h9:∀H',Same H H'->Q (.bl (XB xs x')) H'):jT K t x y z H Q
theorem K0 {x:Itm}(h:x.srt=q_ "counts"):∃z r s,x=.cnt z r s:=by
 cases x with
 | cnt z r s=>exact⟨z,r,s,rfl⟩
 | term u n l h'=>
  cases u with
  | false=>exact absurd h (show¬q_ "from"=q_ "counts" by decide +kernel)
  | true=>exact absurd h (show¬q_ "upto"=q_ "counts" by decide +kernel)
 | base=>exact absurd h (show¬q_ "base"=q_ "counts" by decide +kernel)
 | each=>exact absurd h (show¬q_ "each"=q_ "counts" by decide +kernel)
 | rent=>exact absurd h (show¬q_ "rent"=q_ "counts" by decide +kernel)
 | pay=>exact absurd h (show¬q_ "pay"=q_ "counts" by decide +kernel)
 | off=>exact absurd h (show¬q_ "off"=q_ "counts" by decide +kernel)
 | unt=>exact absurd h (show¬q_ "until"=q_ "counts" by decide +kernel)
 | rnd=>exact absurd h (show¬q_ "round"=q_ "counts" by decide +kernel)
theorem B3 {x:Itm}(h:x.srt=q_ "off"):∃l r s,x=.off l r s:=by
 cases x with
 | off l r s=>exact⟨l,r,s,rfl⟩
 | term u n l h'=>
  cases u with
  | false=>exact absurd h (show¬q_ "from"=q_ "off" by decide +kernel)
  | true=>exact absurd h (show¬q_ "upto"=q_ "off" by decide +kernel)
 | base=>exact absurd h (show¬q_ "base"=q_ "off" by decide +kernel)
 | each=>exact absurd h (show¬q_ "each"=q_ "off" by decide +kernel)
 | rent=>exact absurd h (show¬q_ "rent"=q_ "off" by decide +kernel)
 | pay=>exact absurd h (show¬q_ "pay"=q_ "off" by decide +kernel)
 | cnt=>exact absurd h (show¬q_ "counts"=q_ "off" by decide +kernel)
 | unt=>exact absurd h (show¬q_ "until"=q_ "off" by decide +kernel)
 | rnd=>exact absurd h (show¬q_ "round"=q_ "off" by decide +kernel)
theorem K2 {x:Itm}(h:x.sl=3):∃z r s,x=.cnt z r s:=by cases x<;>first|exact⟨_,_,_,rfl⟩|exact absurd h (by simp[Itm.sl])
theorem YA {x:Itm}(h:x.sl=4):∃l r s,x=.off l r s:=by cases x<;>first|exact⟨_,_,_,rfl⟩|exact absurd h (by simp[Itm.sl])
theorem ZF {t}(hD:DrR K t H d z xs q){j:Nat}(hj:j<7):DGet H d (.str (sn j)) (some (.ref (q j))):=by
 have:=DGet.k (k:=(Sum.inr (sn j):Key)) hD.hd;rw[HD hj] at this;exact this
def pB (fl:List Itm)(H:Hp)(i:Nat)(acc:List V)(σ':L2.St)(H':Hp):Prop:=∃x0 x1,σ'=[x0,x1]/\Same H H'/\acc=((fl.take i).map lR).map V.str
theorem Ju {x}(h:(xs.filter λx=>decide (x.sl=j))[i]?=some x):x∈xs/\x.sl=j:=by
 have:=C4.mp (C6 h);exact⟨this.1,C3 this.2⟩
theorem Rr {t}{r s:Int}(h:PIt K t H (.cnt z r s) v):∃x p,v=.ref x/\A9 K H x [.str z,.ref p]/\A9 K H p [.int r,.int s]:=by
 cases h with|cnt _ _ _ x p h hp=>exact⟨x,p,rfl,h,hp⟩
theorem Rq {t}{l r s:Int}(h:PIt K t H (.off l r s) v):∃x p,v=.ref x/\A9 K H x [.int l,.ref p]/\A9 K H p [.int r,.int s]:=by
 cases h with|off _ _ _ x p h hp=>exact⟨x,p,rfl,h,hp⟩
theorem i7 (T:Tx w K mg):GF P w K mg base 1 "fits_in" ["draft","sort","values"] (Sp3M (jT K t)):=by
 refine Zf T 64 ["draft","sort","values"] JU λH Q a8 hr h=>?_
 obtain⟨_,_,_,rfl,d,tl,xs,q',x,a,vs,rfl,rfl,rfl,hD,hL,hA,hx,q⟩:=h;refine⟨_,(Qb (Qr (A8 (QM K) (pu 1) Qe) (Qf (Qk (YR (Xe K rfl) (BM K 2) (Ij ["title","rate"] [none,none] (Ie K rfl (Za (ZV hr) (pu 0) Qe (λ_ _=>rfl))) (jm (n:=2) K rfl rfl (QR (GE 0) (QR (GE 1) Xd))) QU (pu 0)) (by with_unfolding_all rfl)))) Ql) (Qb (Qr (A8 (QM K) (IC K T.aB (Za (ZV hr) (pu 0) (YQ T.aY (pu 1) (λ_ _=>rfl)) (λ_ _=>rfl))) (YQ T.bK (YQ T.aY (pu 1) (λ_ _=>rfl)) (λ_ _=>rfl))) (Qf (Qk Jf)) Ql) (Qb (Qr (PW.pt (Zz (A8 (QM K) (pu 1) Qe) (Zh (Jc (Za (ZV hr) (pu 0) Qe (λ_ _=>rfl)) (λ_=>rfl))))) (Qf (Qk (jX YF (BM K 2) (BN K (BN K (Za (ZV hr) (pu 0) Qe (λ_ _=>rfl)) Ia) Qd)))) Ql) (Qf (Qk Jf))))),?_⟩;left;refine Qs (λc=>?_) (λc=>?_)
 ·obtain⟨z,r,s',rfl⟩:=K0 c;obtain⟨v,v2,rfl,h1,h2⟩:=jl hA;cases YC h1;refine QA hL (v:=.str z) rfl ?_;simp only[ZL,YK];left;simp only[YK];left;obtain⟨ws,J,U⟩:=hD.hq 3 (by decide);refine⟨d,_,rfl,ZF hD (j:=3) (by decide),q' 3,rfl,⟨_,AI J⟩,?_⟩;have aa:(xs.filter λx=>decide (x.sl=3)).length<=xs.length:=Az _ _;have a6:=U.1;refine Y2 (xs:=ws) (pB (xs.filter λx=>decide (x.sl=3)) H) ⟨none,none,rfl,AK _,rfl⟩ (λi acc σ' H' _ h=>by obtain⟨_,_,_,g',_⟩:=h;exact g'.seq (AI J)) (by omega) ?_ ?_
  ·rintro i v acc _ H2 hv a7 ⟨x0,x1,rfl,g,rfl⟩;obtain⟨y,hy,hP⟩:=U.getV hv;obtain⟨_,a4⟩:=Ju hy;obtain⟨z2,r2,s2,rfl⟩:=K2 a4;obtain⟨p,p2,rfl,hT,_⟩:=Rr hP;have a9:=g.sqT hT;left;simp only[ZS];left;exact CN.mk (Z0 hv) (by rw[D0,D6];omega) ⟨_,_,rfl,g,by rw[CS,hy,D9,D9];rfl⟩
  ·rintro acc _ H2 ⟨x0,x1,rfl,g,rfl⟩ p hp;rw[CH (by omega)];exact Zx (AI Qa) (q _ (g.trans (Qc hp _)))
 have n3:x.sl≠3:=λe=>by
  obtain⟨z,r,s',rfl⟩:=K2 e;exact c rfl
 simp only[YK,GP];left;obtain⟨ws,J,U⟩:=hD.hq x.sl (Xb x);refine⟨Sum.inr x.srt,_,rfl,Jk x,d,_,rfl,ZF hD (Xb x),?_⟩;refine Q0 (AI J) ?_;left;refine⟨Sum.inr x.srt,_,rfl,Jk x,Sum.inr (sn x.sl),_,rfl,Gf (Xb x) n3,?_⟩;left;have a6:=U.1;have e3:((ws.length:Nat):Int)=((BL xs x.sl).length:Int):=by rw[U.1]
 rw[e3];refine Qs (λc=>?_) (λc3=>?_)
 ·have:XB xs x=false:=by
   cases x with
   | cnt=>exact absurd rfl n3
   | off l r s'=>show(!decide _&&_)=false;rw[Ck (show((BL xs 4).length:Int)=6 from c)];rfl
   | _=>show(!decide _)=false;rw[Ck c];rfl
  rw[this] at q;exact q _ (AK _)
 refine Qs (λc2=>?_) (λc2=>?_)
 ·obtain⟨l,r,s',rfl⟩:=B3 c2;obtain⟨v,v2,rfl,h1,h2⟩:=jl hA;cases Zj h1;have eb:XB xs (.off l r s')=(match (BL xs 4).getLast? with|some y=>decide (IV y<l)|none=>true):=by
   show(!decide _&&_)=_;rw[Ce (show¬((BL xs 4).length:Int)=6 from c3)];rfl
  rw[eb] at q;left;have J:H (q' 4)=some (.lst ws):=J;refine⟨d,_,rfl,ZF hD (j:=4) (by decide),_,.inl ⟨ws,AI J,rfl⟩,?_⟩;rcases List.eq_nil_or_concat ws with rfl|⟨w0,v,rfl⟩
  ·have:BL xs 4=[]:=AO U.1;rw[this] at q;exact q _ (AK _)
  rw[DZ (by simp)];have J:=AI (K:=K) J;rw[List.concat_eq_append] at J U;refine QA hL (v:=.int l) rfl ⟨d,_,rfl,ZF hD (j:=4) (by decide),QA J (Q5 _ _) ?_⟩;obtain⟨y,hy,hP⟩:=U.getV (i:=w0.length) (v:=v) (by rw[CG (D2 _),CK];rfl);obtain⟨hm,a4⟩:=Ju (j:=4) hy;obtain⟨l2,r2,s2,rfl⟩:=YA a4;obtain⟨p,p2,rfl,hT,_⟩:=Rq hP;have el:(BL xs 4).getLast?=some (.off l2 r2 s2):=by
   have a5:(BL xs 4).length=w0.length+1:=by rw[show(BL xs 4).length=_ from U.1,D0];rfl
   rw[List.getLast?_eq_getElem?,a5];exact hy
  rw[el] at q;refine Zq hT rfl ?_;left;exact q _ (AK _)
 ·have:XB xs x=true:=by
   cases x with
   | cnt=>exact absurd rfl n3
   | off l r s'=>exact absurd rfl c2
   | _=>show(!decide _)=true;rw[Ce c3];rfl
  rw[this] at q;exact q _ (AK _)
theorem Pi {x}(h:Xl xs x):XB xs x=true:=by
 cases x with
 | cnt z r s=>
  show(!decide _)=true;rw[Ce]
  ·rfl
  ·intro hm;obtain⟨y,hy,e⟩:=C8.mp hm;obtain⟨U,J⟩:=C4.mp hy;obtain⟨z2,r2,s2,rfl⟩:=K2 (C3 J);exact h _ U z2 r2 s2 rfl e
 | off l r s=>
  show(!decide _&&_)=true;have h1:(BL xs 4).length<6:=h.1;rw[Ce (show¬((BL xs 4).length:Int)=6 by omega)];show(match (BL xs 4).getLast? with|some y=>decide (IV y<l)|none=>true)=true;split
  ·rename_i y hy;obtain⟨U,J⟩:=C4.mp (List.mem_of_getLast? hy);obtain⟨l2,r2,s2,rfl⟩:=YA (C3 J);exact Ck (h.2 _ U l2 r2 s2 rfl)
  ·rfl
 | _=>
  show(!decide _)=true;have h:(_:Int)<_:=h;rw[Ce (Int.ne_of_lt h)];rfl
theorem Hb {fs}(h:H p=some (.ins C dx fs))(k:H l=some (.lst vs)):l≠p:=λe=>by rw[e,h] at k;cases k
theorem LI {o}(h:H p=some o)(k:H l=none):l≠p:=λe=>by rw[e,h] at k;cases k
theorem YG {fs}{f}(h:fs.length<=n):(QI f v fs).length<=n+1:=Co (Xs _ _ _) (Nat.succ_le_succ h)
theorem T4 (kl:H l=some (.lst vs))(q:∀l',H l'=none->Q (.ref l') (upd H l' (.lst vs))):K7 K [.ref l] H Q:=⟨l,vs,rfl,.inl (AI kl),q⟩
theorem WA {f:Str}(ot:Oth p H0 H)(hp:H p=some (.ins C dx fs))(hp0:H0 p=some (.ins C dx []))(kl:H0 l=some (.lst vs)){Q:Hp->Prop}(c:Cls K C)(n:NoAttr K C f)(hl:fs.length<1000)
  (q:∀U H',H0 U=none->Oth p H0 H'->Oth p H H'->H' p=some (.ins C dx (QI f (.ref U) fs))->H' U=some (.lst vs)->U≠p->Q H') :
  K7 K [.ref l] H λx H1=>∃a C' dx' fs',V.ref p=.ref a/\H1 a=some (.ins C' dx' fs')/\Cls K C'/\NoAttr K C' f/\fs'.length<1000/\Q (upd H1 a (.ins C' dx' (QI f x fs'))):=by
 refine T4 (ot _ _ (Hb hp0 kl) kl) λU J=>?_
 have np:=LI hp J;exact⟨p,C,dx,fs,rfl,by rw[Qj np.symm];exact hp,c,n,hl,q U _ (by cases e:H0 U with|none=>rfl|some u=>rw[ot _ _ np e] at J;cases J) (ot.new J).put ((Oth.refl p H).new J).put Qa (by rw[Qj np];exact Qa) np⟩
def kF (xtitle xparts xterms xpays xcounts xoffs xlimit xunit xway:V):List (Str×V):=QI "way" xway (QI "unit" xunit (QI "limit" xlimit (QI "offs" xoffs (QI "counts" xcounts (QI "pays" xpays (QI "terms" xterms (QI "parts" xparts (QI "title" xtitle []))))))))
inductive IX (C)(x nm pa te py co of li un wa:V)(H)(Q:VK):Prop
 | mk (p dx l1 l2 l3 l4 l5:Addr) (v1 v2 v3 v4 v5:List V) (h1:x=.ref p) (h2:H p=some (.ins C dx [])) (e1:pa=.ref l1) (k1:H l1=some (.lst v1)) (e2:te=.ref l2) (k2:H l2=some (.lst v2)) (e3:py=.ref l3) (k3:H l3=some (.lst v3)) (e4:co=.ref l4) (k4:H l4=some (.lst v4)) (e5:of=.ref l5) (k5:H l5=some (.lst v5))
   (h3:∀H' m1 m2 m3 m4 m5,Oth p H H'->H' p=some (.ins C dx (kF nm (.ref m1) (.ref m2) (.ref m3) (.ref m4) (.ref m5) li un wa))->H' m1=some (.lst v1)/\H m1=none->H' m2=some (.lst v2)/\H m2=none->H' m3=some (.lst v3)/\H m3=none->H' m4=some (.lst v4)/\H m4=none->H' m5=some (.lst v5)/\H m5=none->Q .non H'):IX C x nm pa te py co of li un wa H Q
theorem Wi (T:Tx w K mg)(F:FunD K "__init__" "Kind.__init__" (mS 4200) f fd):FnOk P w K mg base Ih 1 f fd ["self","title","parts","terms","pays","counts","offs","limit","unit","way"] (HM (IX t.zN)):=by
 refine F.ok Wd Eb (λcdv A outer s H vs Q E hr h=>?_);obtain⟨_,nm,_,_,_,_,_,li,un,wa,rfl,p,dx,l1,l2,l3,l4,l5,v1,v2,v3,v4,v5,rfl,hp,rfl,k1,rfl,k2,rfl,k3,rfl,k4,rfl,k5,q⟩:=h;refine⟨_,(Qb (QC K rfl (pu 0) (pu 1)) (Qb (QC K rfl (pu 0) (Qv (ZE K rfl) (by rfl) T.aF Ac (A1 (pu 2)))) (Qb (QC K rfl (pu 0) (Qv (ZE K rfl) (by rfl) T.aF Ac (A1 (pu 3)))) (Qb (QC K rfl (pu 0) (Qv (ZE K rfl) (by rfl) T.aF Ac (A1 (pu 4)))) (Qb (QC K rfl (pu 0) (Qv (ZE K rfl) (by rfl) T.aF Ac (A1 (pu 5)))) (Qb (QC K rfl (pu 0) (Qv (ZE K rfl) (by rfl) T.aF Ac (A1 (pu 6)))) (Qb (QC K rfl (pu 0) (pu 7)) (Qb (QC K rfl (pu 0) (pu 8)) (Qf (QC K rfl (pu 0) (pu 9))))))))))),?_⟩;left;refine XX hp T.aM T.eJ (by decide) ?_;have o1:=(Oth.refl p H).put (o:=.ins t.zN dx (QI "title" nm []));have i1:(upd H p (.ins t.zN dx (QI "title" nm []))) p=some (.ins t.zN dx (QI "title" nm [])):=Qa;have z1:(QI "title" nm []).length<=1:=Xs _ _ _;generalize upd H p (.ins t.zN dx (QI "title" nm []))=H1 at *;left;refine WA o1 i1 hp k1 T.aM T.eK (by omega) λm1 H2 a7 o2 t2 i2 j1 J=>?_
 have z2:=YG (f:=Str.ofString "parts") (v:=.ref m1) z1;left;refine WA o2 i2 hp k2 T.aM T.eM (by omega) λm2 H3 a6 o3 t3 i3 j2 np2=>?_
 have z3:=YG (f:=Str.ofString "terms") (v:=.ref m2) z2;left;refine WA o3 i3 hp k3 T.aM T.eN (by omega) λm3 H4 aa o4 t4 i4 j3 U=>?_
 have z4:=YG (f:=Str.ofString "pays") (v:=.ref m3) z3;left;refine WA o4 i4 hp k4 T.aM T.eO (by omega) λm4 H5 a8 o5 t5 i5 j4 a4=>?_
 have z5:=YG (f:=Str.ofString "counts") (v:=.ref m4) z4;left;refine WA o5 i5 hp k5 T.aM T.eQ (by omega) λm5 H6 a9 o6 t6 i6 j5 a5=>?_
 have z6:=YG (f:=Str.ofString "offs") (v:=.ref m5) z5;left;refine XX i6 T.aM T.eR (by omega) ?_;have z7:=YG (f:=Str.ofString "limit") (v:=li) z6;left;refine XX Qa T.aM T.eS (by omega) ?_;have z8:=YG (f:=Str.ofString "unit") (v:=un) z7;left;refine XX Qa T.aM T.eT (by omega) ?_;have pn:∀m,m≠p->∀(a b c o:HO),H6 m=some o->(upd (upd (upd H6 p a) p b) p c) m=some o:=λm np a b c o h=>by rw[Qj np,Qj np,Qj np];exact h
 exact q _ m1 m2 m3 m4 m5 o6.put.put.put Qa ⟨pn _ J _ _ _ _ (t6 _ _ J (t5 _ _ J (t4 _ _ J (t3 _ _ J j1)))),a7⟩ ⟨pn _ np2 _ _ _ _ (t6 _ _ np2 (t5 _ _ np2 (t4 _ _ np2 j2))),a6⟩ ⟨pn _ U _ _ _ _ (t6 _ _ U (t5 _ _ U j3)),aa⟩ ⟨pn _ a4 _ _ _ _ (t6 _ _ a4 j4),a8⟩ ⟨pn _ a5 _ _ _ _ j5,a9⟩
theorem i8 (T:Tx w K mg):TB P w K mg base 1 t.zN ["self","title","parts","terms","pays","counts","offs","limit","unit","way"] [] (Sp10M (IX t.zN)):=by
 obtain⟨f,J,oc,od,an,sl,kV,dc,pm,cd,ct,td,dn,a,i,l,c,k,d,U,mk⟩:=T.kI;exact⟨f,_,_,(Wi T (Pc (st:=(mS 4200)) l c k)).imp Sp10M.imp,Ux (fd:=(W.fnOf "__init__" "Kind.__init__" (Zp (mS 4200)) (QN (mS 4200)) (Qm (mS 4200)) (.ref J) kV dc pm an cd ct)) (ps:=["self","title","parts","terms","pays","counts","offs","limit","unit","way"]) (ds:=[]) d 10 rfl (Hd.len10 (P:=λus=>∃e k,bindArgs _ ⟨us,[]⟩=Sem.load _ e k/\∀S,W.peek K S (k _)=some (List.zip _ (us++_))) (λ_ _ _ _ _ _ _ _ _ _=>⟨_,_,rfl,λ_=>rfl⟩)),.nil,⟨U,a,i,mk⟩⟩
def cF (a b c:V):List (Str×V):=QI "titles" c (QI "each" b (QI "limit" a []))
def oF (a b:V):List (Str×V):=QI "caps" b (QI "kinds" a [])
def rF (a b c:V):List (Str×V):=QI "asked_for" c (QI "caps" b (QI "drafts" a []))
inductive Ot (C)(x y z u:V)(H)(Q:VK):Prop
 | mk (p dx l:Addr) (vs:List V) (h1:x=.ref p) (h2:H p=some (.ins C dx [])) (h3:u=.ref l) (h4:H l=some (.lst vs)) (h5:∀H' m,Oth p H H'->H' p=some (.ins C dx (cF y z (.ref m)))->H' m=some (.lst vs)->H m=none->Q .non H'):Ot C x y z u H Q
theorem i9 (T:Tx w K mg):JK P w K mg base 1 t.zO ["self","limit","each","titles"] (Sp4M (Ot t.zO)):=by
 refine Uw T 4300 ["self","limit","each","titles"] By λH Q J hr h=>?_
 obtain⟨_,a,b,_,rfl,p,dx,l,vs,rfl,hp,rfl,U,q⟩:=h;refine⟨_,(Qb (QC K rfl (pu 0) (pu 1)) (Qb (QC K rfl (pu 0) (pu 2)) (Qf (QC K rfl (pu 0) (Qv (ZE K rfl) (by rfl) T.aF Ac (A1 (pu 3))))))),?_⟩;left;refine XX hp T.aU T.eU (by decide) ?_;left;refine XX Qa T.aU T.eV len1 ?_;left;refine WA (Oth.refl _ _).put.put Qa hp U T.aU T.bL len2 λm H2 fr o2 t2 i2 j2 np=>?_
 left;exact q _ m o2 i2 j2 fr
inductive Og (C)(x y z:V)(H)(Q:VK):Prop
 | mk (p dx l1 l2:Addr) (v1 v2:List V) (h1:x=.ref p) (h2:H p=some (.ins C dx [])) (e1:y=.ref l1) (k1:H l1=some (.lst v1)) (e2:z=.ref l2) (k2:H l2=some (.lst v2)) (h5:∀H' m1 m2,Oth p H H'->H' p=some (.ins C dx (oF (.ref m1) (.ref m2)))->H' m1=some (.lst v1)/\H m1=none->H' m2=some (.lst v2)/\H m2=none->Q .non H'):Og C x y z H Q
theorem iA (T:Tx w K mg):JK P w K mg base 1 t.zP ["self","kinds","caps"] (Sp3M (Og t.zP)):=by
 refine Uw T 4400 ["self","kinds","caps"] JU λH Q a5 hr h=>?_
 obtain⟨_,_,_,rfl,p,dx,l1,l2,v1,v2,rfl,hp,rfl,k1,rfl,k2,q⟩:=h;refine⟨_,(Qb (QC K rfl (pu 0) (Qv (ZE K rfl) (by rfl) T.aF Ac (A1 (pu 1)))) (Qf (QC K rfl (pu 0) (Qv (ZE K rfl) (by rfl) T.aF Ac (A1 (pu 2)))))),?_⟩;left;refine WA (Oth.refl _ _) hp hp k1 T.aZ T.eX (by decide) λm1 H2 a4 o2 t2 i2 j1 J=>?_
 left;refine WA o2 i2 hp k2 T.aZ T.eY len1 λm2 H3 U o3 t3 i3 j2 np2=>?_
 left;exact q _ m1 m2 o3 i3 ⟨t3 _ _ J j1,a4⟩ ⟨j2,U⟩
inductive jJ (C)(x:V)(H)(Q:VK):Prop
 | mk (p dx:Addr) (h1:x=.ref p) (h2:H p=some (.ins C dx [])) (h5:∀H' m1 m2 m3,Oth p H H'->H' p=some (.ins C dx (rF (.ref m1) (.ref m2) (.ref m3)))->H' m1=some (.lst [])/\H m1=none->H' m2=some (.lst [])/\H m2=none->H' m3=some (.lst [])/\H m3=none->m1≠m2->m1≠m3->m2≠m3->Q .non H'):jJ C x H Q
theorem LG {f}{fs}(ot:Oth p H0 H)(hp:H p=some (.ins C dx fs)){D}{σ}{i:Nat}(c:Cls K C)(n:NoAttr K C f)(hl:fs.length<1000)
  (q:∀U H',H U=none->H0 U=none->Oth p H0 H'->Oth p H H'->H' p=some (.ins C dx (QI f (.ref U) fs))->H' U=some (.lst [])->U≠p->D.nx σ H') (e:σ[i]?=some (some (.ref p)):=by rfl):B6 K (Xj i) (Sw JO) f D σ H:=by
 refine⟨CF _,λU J=>?_⟩;have np:=LI hp J;show asVar σ[i]? _;rw[e];exact⟨p,C,dx,fs,rfl,by rw[Qj np.symm];exact hp,c,n,hl,q U _ J (by cases e:H0 U with|none=>rfl|some u=>rw[ot _ _ np e] at J;cases J) (ot.new J).put ((Oth.refl p H).new J).put Qa (by rw[Qj np];exact Qa) np⟩
theorem iB (T:Tx w K mg):JK P w K mg base 1 t.zX ["self"] (Sp1M (jJ t.zX)):=by
 refine Uw T 6600 ["self"] Xk λH Q a4 hr h=>?_
 obtain⟨_,rfl,p,dx,rfl,hp,q⟩:=h;refine⟨_,(Qb (QC K rfl (pu 0) (Qn Qz)) (Qb (QC K rfl (pu 0) (Qn Qz)) (Qf (QC K rfl (pu 0) (Qn Qz))))),?_⟩;left;refine LG (Oth.refl _ _) hp T.aC T.aN (by decide) λm1 H1 z1 f1 o1 t1 i1 j1 J=>?_
 left;refine LG o1 i1 T.aC T.aP len1 λm2 H2 z2 f2 o2 t2 i2 j2 np2=>?_
 left;refine LG o2 i2 T.aC T.aV len2 λm3 H3 U f3 o3 t3 i3 j3 a5=>?_
 left;have k1:=t2 _ _ J j1;exact q _ m1 m2 m3 o3 i3 ⟨t3 _ _ J k1,f1⟩ ⟨t3 _ _ np2 j2,f2⟩ ⟨j3,f3⟩ (Qi j1 z2) (Qi k1 U) (Qi j2 U)
def KdR (K:W.Frag)(t:Ii)(N:Addr->Prop)(H:Hp)(k:Str×List Itm)(v:V):Prop:=∃x dx li un wa,∃m:Nat->Addr,v=.ref x/\H x=some (.ins t.zN dx (kF (.str k.1) (.ref (m 0)) (.ref (m 1)) (.ref (m 2)) (.ref (m 3)) (.ref (m 4)) li un wa)) /\
 (∀j<5,N (m j)/\∃vs,H (m j)=some (.lst vs)/\All2 (PIt K t H) (k.2.filter λx=>decide (x.sl=j)) vs) /\
 (match k.2.filter λx=>decide (x.sl=5) with|.unt a::_=>li=.int a|_=>li=.non)/\match k.2.filter λx=>decide (x.sl=6) with|.rnd u z::_=>un=.int u/\wa=.str z|_=>un=.non
theorem Yg {t}(g:Kp N H H'){xs}{vs}(h:All2 (PIt K t H) xs vs):All2 (PIt K t H') xs vs:=⟨h.1,λi a b ha hb=>(h.2 i a b ha hb).kp g⟩
theorem KdR.kp {t}{k}(g:Kp N H H')(h:KdR K t N H k v):KdR K t N H' k v:=by
 obtain⟨x,dx,li,un,U,m,e,h1,h2,h3,h4⟩:=h;refine⟨x,dx,li,un,U,m,e,g.ins h1,λj hj=>?_,h3,h4⟩;obtain⟨J,vs,h5,h6⟩:=h2 j hj;exact⟨J,vs,g _ _ h5 (.inl J),Yg g h6⟩
inductive jP (K)(t:Ii)(x:V)(H:Hp)(Q:VK):Prop
 | mk (d:Addr) (z:Str) (xs:List Itm) (q:Nat->Addr) (h1:x=.ref d) (h2:DrR K t H d z xs q) (h3:∀v H',Same H H'->KdR K t (λb=>H b=none) H' (z,xs) v->Q v H'):jP K t x H Q
theorem DrR.kp {t}(g:Same H H')(h:DrR K t H d z xs q):DrR K t H' d z xs q:=by
 refine⟨g _ _ h.hd,λj J=>?_⟩;obtain⟨vs,h1,h2⟩:=h.hq j J;exact⟨vs,g _ _ h1,Yg (N:=λ_=>True) (.of g) h2⟩
theorem ZD {x}{b}{o}(hx:H x=none)(hd:H dx=none)(h:H b=some o):jx C x dx H b=some o:=by
 show upd (upd H dx (.own x)) x (.ins C dx []) b=some o;rw[Qj (Qi h hx),Qj (Qi h hd)];exact h
theorem Xw {x}{b}(hx:H x=none)(hd:H dx=none)(h:jx C x dx H b=none):H b=none:=by
 cases e:H b with
 | none=>rfl
 | some o=>rw[ZD hx hd e] at h;cases h
theorem Ul {t}(hD:DrR K t H d z xs q):DGet H d (.str (q_ "title")) (some (.str z)):=by
 have:=DGet.k (k:=(Sum.inr (q_ "title"):Key)) hD.hd;rw[Ma] at this;exact this
theorem Ro {t}{a:Int}(h:PIt K t H (.unt a) v):∃x,v=.ref x/\A9 K H x [.int a]:=by
 cases h with|unt _ x h=>exact⟨x,rfl,h⟩
theorem Rp {t}{u:Int}(h:PIt K t H (.rnd u z) v):∃x,v=.ref x/\A9 K H x [.int u,.str z]:=by
 cases h with|rnd _ _ x h=>exact⟨x,rfl,h⟩
theorem Sx {x:Itm}(h:x.sl=5):∃a,x=.unt a:=by cases x<;>first|exact⟨_,rfl⟩|exact absurd h (by simp[Itm.sl])
theorem Sy {x:Itm}(h:x.sl=6):∃u z,x=.rnd u z:=by cases x<;>first|exact⟨_,_,rfl⟩|exact absurd h (by simp[Itm.sl])
theorem iC (T:Tx w K mg):GF P w K mg base 3 "kind_of" ["draft"] (Sp1M (jP K t)):=by
 refine Zf T 65 ["draft","limit","rounding"] Xk λH Q ae hr h=>?_
 obtain⟨_,rfl,d,z,xs,q',rfl,hD,q⟩:=h;refine⟨_,(Qb (A5 1 (Je (Jc (Za (ZV hr) (pu 0) Qe (λ_ _=>rfl)) (λ_=>rfl)) (BN K (BN K (Za (ZV hr) (pu 0) Qe (λ_ _=>rfl)) Qd) Qd) Lp)) (Qb (A5 2 (Je (Jc (Za (ZV hr) (pu 0) Qe (λ_ _=>rfl)) (λ_=>rfl)) (BN K (Za (ZV hr) (pu 0) Qe (λ_ _=>rfl)) Qd) (QY (A3 Lp Qe)))) (Qf (Qk (Rz (i8 T) (GG hr) rfl T.cR (Qp (Za (ZV hr) (pu 0) Qe (λ_ _=>rfl)) (Qp (Za (ZV hr) (pu 0) Qe (λ_ _=>rfl)) (Qp (Za (ZV hr) (pu 0) Qe (λ_ _=>rfl)) (Qp (Za (ZV hr) (pu 0) Qe (λ_ _=>rfl)) (Ig (Za (ZV hr) (pu 0) Qe (λ_ _=>rfl)) (Za (ZV hr) (pu 0) Qe (λ_ _=>rfl)) (pu 1) (BM K 2) (BM K 2))))))))))),?_⟩;generalize hM:BZ (Yt t.zN _ _ _ _)=M;have fin:∀(D:QO) (li un wa:V) (p:Addr) (H1:Hp),D.rt=Q->Same H H1->A9 K H1 p [un,wa]->(match xs.filter λx=>decide (x.sl=5) with|.unt a::_=>li=.int a|_=>li=.non)->(match xs.filter λx=>decide (x.sl=6) with|.rnd u z::_=>un=.int u/\wa=.str z|_=>un=.non)->M D [some (.ref d),some li,some (.ref p)] H1:=by
  subst hM;intro D li un wa p H1 a7 g1 hp c1 c2;have J:=hD.kp g1;simp only[PR,Yt];left;simp only[YK];left;obtain⟨v0,k0,a0⟩:=J.hq 0 (by decide);obtain⟨v1,k1,a1⟩:=J.hq 1 (by decide);obtain⟨v2,k2,a2⟩:=J.hq 2 (by decide);obtain⟨v3,k3,a3⟩:=J.hq 3 (by decide);obtain⟨v4,k4,a4⟩:=J.hq 4 (by decide);refine⟨d,_,rfl,Ul J,d,_,rfl,ZF J (j:=0) (by decide),d,_,rfl,ZF J (j:=1) (by decide),d,_,rfl,ZF J (j:=2) (by decide),d,_,rfl,ZF J (j:=3) (by decide),d,_,rfl,ZF J (j:=4) (by decide),?_⟩;left;intro x dx hx U _;refine⟨x,dx,q' 0,q' 1,q' 2,q' 3,q' 4,v0,v1,v2,v3,v4,rfl,XO,rfl,ZD hx U k0,rfl,ZD hx U k1,rfl,ZD hx U k2,rfl,ZD hx U k3,rfl,ZD hx U k4,λH' m0 m1 m2 m3 m4 o aa b0 b1 b2 b3 b4=>⟨rfl,?_⟩⟩;have g2:=Zk hx U o;have fr:∀{b},jx t.zN x dx H1 b=none->H b=none:=λh=>g1.free (Xw hx U h)
  have kp:∀{l:List Itm} {vs:List V},All2 (PIt K t H1) l vs->All2 (PIt K t H') l vs:=λh=>Yg (N:=λ_=>True) (.of g2) h
  rw[a7];refine q _ _ (g1.trans g2) ⟨x,dx,li,un,wa,λj=>match j with|0=>m0|1=>m1|2=>m2|3=>m3|_=>m4,rfl,aa,λj hj=>?_,c1,c2⟩;rcases(show j=0∨j=1∨j=2∨j=3∨j=4 by omega) with rfl|rfl|rfl|rfl|rfl
  ·exact⟨fr b0.2,v0,b0.1,kp a0⟩
  ·exact⟨fr b1.2,v1,b1.1,kp a1⟩
  ·exact⟨fr b2.2,v2,b2.1,kp a2⟩
  ·exact⟨fr b3.2,v3,b3.1,kp a3⟩
  ·exact⟨fr b4.2,v4,b4.1,kp a4⟩
 generalize hR:W8 (VQ _ (XW 2)) M=R;have a9:∀(D:QO) (li:V),D.rt=Q->(match xs.filter λx=>decide (x.sl=5) with|.unt a::_=>li=.int a|_=>li=.non)->R D [some (.ref d),some li,none] H:=by
  subst hR;intro D li a7 c1;left;simp only[YK];left;obtain⟨v6,k6,a6⟩:=hD.hq 6 (by decide);refine⟨d,_,rfl,ZF hD (j:=6) (by decide),_,.inl ⟨v6,AI k6,rfl⟩,?_⟩;cases e:v6 with
  | nil=>
   rw[DY (by simp)];refine⟨by decide,λp hp=>fin _ _ .non (.str (q_ "down")) p _ a7 (Qc hp _) (AJ Qa) c1 ?_⟩;have:=a6.1;rw[e] at this;rw[AO this]
  | cons v r=>
   rw[DZ (by simp)];subst e;obtain⟨y,hy,hP⟩:=a6.getV (i:=0) (v:=v) rfl;obtain⟨_,a8⟩:=Ju hy;obtain⟨u,z2,rfl⟩:=Sy a8;obtain⟨p,rfl,hT⟩:=Rp hP;refine⟨d,_,rfl,ZF hD (j:=6) (by decide),QA (AI k6) (QV (j:=0) rfl) ?_⟩;refine fin _ _ _ _ p _ a7 (AK _) hT c1 ?_;cases e2:xs.filter λx=>decide (x.sl=6) with
   | nil=>rw[e2] at hy;cases hy
   | cons y2 r2=>rw[e2] at hy;cases hy;exact⟨rfl,rfl⟩
 left;simp only[YK];left;obtain⟨v5,k5,a5⟩:=hD.hq 5 (by decide);refine⟨d,_,rfl,ZF hD (j:=5) (by decide),_,.inl ⟨v5,AI k5,rfl⟩,?_⟩;cases e:v5 with
 | nil=>
  rw[DY (by simp)];refine a9 _ _ rfl ?_;have:=a5.1;rw[e] at this;rw[AO this]
 | cons v r=>
  rw[DZ (by simp)];subst e;obtain⟨y,hy,hP⟩:=a5.getV (i:=0) (v:=v) rfl;obtain⟨_,a8⟩:=Ju hy;obtain⟨u,rfl⟩:=Sx a8;obtain⟨p,rfl,hT⟩:=Ro hP;refine⟨d,_,rfl,ZF hD (j:=5) (by decide),QA (AI k5) (QV (j:=0) rfl) (Zq hT rfl ?_)⟩;refine a9 _ _ rfl ?_;cases e2:xs.filter λx=>decide (x.sl=5) with
  | nil=>rw[e2] at hy;cases hy
  | cons y2 r2=>rw[e2] at hy;cases hy;rfl
abbrev Cp:=Int×Int×List Str
variable {cs:List Cp}
def CpR (K:W.Frag)(t:Ii)(N:Addr->Prop)(H:Hp)(c:Cp)(v:V):Prop:=∃x dx l,v=.ref x/\H x=some (.ins t.zO dx (cF (.int c.1) (.int c.2.1) (.ref l)))/\H l=some (.lst (c.2.2.map V.str))/\N l
theorem CpR.kp {t}{c}(g:Kp N H H')(h:CpR K t N H c v):CpR K t N H' c v:=by
 obtain⟨x,dx,l,e,h1,h2,n⟩:=h;exact⟨x,dx,l,e,g.ins h1,g _ _ h2 (.inl n),n⟩
theorem Wp {t}(g:Kp N H H')(h:All2 (CpR K t N H) cs vs):All2 (CpR K t N H') cs vs:=⟨h.1,λi a b ha hb=>(h.2 i a b ha hb).kp g⟩
structure RdS (K:W.Frag)(t:Ii)(N:Addr->Prop)(ow:Addr->Nat)(H:Hp)(r dx a1 a2 a3:Addr)(ds:List Addr)(qs:Nat->Nat->Addr)(cvs:List V)(ks:List (Str×List Itm))(cs:List Cp)(as:List Str):Prop where
 hr:H r=some (.ins t.zX dx (rF (.ref a1) (.ref a2) (.ref a3)))
 h1:H a1=some (.lst (ds.map V.ref))
 h2:H a2=some (.lst cvs)
 h3:H a3=some (.lst (as.map V.str))
 n1:N a1
 n2:N a2
 n3:N a3
 dl:ds.length=ks.length
 dr:∀(i:Nat) d k,ds[i]?=some d->ks[i]?=some k->DrR K t H d k.1 k.2 (qs i)
 nq:∀i<ks.length,∀j<7,N (qs i j)
 cr:All2 (CpR K t (λl=>N l/\ow l=3) H) cs cvs
 o1:ow a1=0
 o2:ow a2=1
 o3:ow a3=2
 oq:∀i<ks.length,∀j<7,ow (qs i j)=10+7*i+j
theorem RdS.mono {t}{ds}(g:Same H H')(h:RdS K t N ow H r dx a1 a2 a3 ds qs cvs ks cs as):RdS K t N ow H' r dx a1 a2 a3 ds qs cvs ks cs as:=
 ⟨g _ _ h.hr,g _ _ h.h1,g _ _ h.h2,g _ _ h.h3,h.n1,h.n2,h.n3,h.dl,λi d k U J=>(h.dr i d k U J).kp g,h.nq,Wp (.of g) h.cr,h.o1,h.o2,h.o3,h.oq⟩
def ji (K:W.Frag)(t:Ii)(N:Addr->Prop)(H:Hp)(r:Addr)(ks:List (Str×List Itm))(cs:List Cp)(as:List Str):Prop:=∃ow dx a1 a2 a3 ds qs cvs,RdS K t N ow H r dx a1 a2 a3 ds qs cvs ks cs as
theorem Zu {a}:(rF a b c).lookup (Str.ofString "drafts")=some a:=by kernel_rfl
theorem WU {a}:(rF a b c).lookup (Str.ofString "caps")=some b:=by kernel_rfl
theorem Jb {a}:(rF a b c).lookup (Str.ofString "asked_for")=some c:=by kernel_rfl
theorem Ta {a}:(rF a b c).lookup (Str.ofString "titles_told")=none:=by kernel_rfl
theorem Rb {a}:(rF a b c).lookup (Str.ofString "fits")=none:=by kernel_rfl
theorem SJ {a}:(rF a b c).lookup (Str.ofString "caps_none_twice")=none:=by kernel_rfl
theorem Ra {a}:(rF a b c).lookup (Str.ofString "take")=none:=by kernel_rfl
theorem B9 {a}:(rF a b c).lookup (Str.ofString "office_told")=none:=by kernel_rfl
theorem Mq {a}:(cF a b c).lookup (Str.ofString "titles")=some c:=by kernel_rfl
inductive kE (K)(t)(x:V)(H:Hp)(Q:VK):Prop
 | mk (N:Addr->Prop) (r:Addr) (ks:List (Str×List Itm)) (cs:List Cp) (as:List Str) (h1:x=.ref r) (h2:ji K t N H r ks cs as) (h3:ks.length<=1000) (h4:∀p H',Same H H'->H' p=some (.lst ((ks.map (·.1)).map V.str))->Q (.ref p) H'):kE K t x H Q
def oS (ks:List (Str×List Itm))(H:Hp)(i:Nat)(acc:List V)(σ':L2.St)(H':Hp):Prop:=∃x0,σ'=[x0]/\Same H H'/\acc=((ks.take i).map (·.1)).map V.str
theorem bR (T:Tx w K mg):GB P w K mg base 1 t.zX "titles_told" ["self"] (Sp1M (kE K t)):=by
 refine Pw T 6601 ["self"] Xk λH Q a5 hr h=>?_
 obtain⟨_,rfl,N,r,ks,cs,as,rfl,⟨ow,dx,a1,a2,a3,ds,qs,cvs,S⟩,hn,q⟩:=h;refine⟨_,(Qf (Qk (Ij ["draft"] [none] (Ie K rfl (Il K (pu 0))) (GE 0) QU (Za (ZV hr) (pu 0) Qe (λ_ _=>rfl))))),?_⟩;left;simp only[ZL];left;refine Yq S.hr T.aC T.aN Zu ?_;have a6:=S.dl;refine⟨a1,rfl,⟨_,AI S.h1⟩,Y2 (xs:=ds.map V.ref) (oS ks H) ⟨none,rfl,AK _,rfl⟩ (λi acc σ' H' _ h=>by obtain⟨_,_,g',_⟩:=h;exact g'.seq (AI S.h1)) (by rw[D1];omega) ?_ ?_⟩
 ·rintro i v acc _ H2 U a4 ⟨x0,rfl,g,rfl⟩;have J:=Z0 U;rw[Ct] at U;obtain⟨d,hd,rfl⟩:=Cv.mp U;obtain⟨k,hk⟩:∃k,ks[i]?=some k:=⟨_,D4 (by rw[D1] at J;omega)⟩
  have hD:=(S.dr i d k hd hk).kp g;simp only[ZS,YK];left;refine⟨d,_,rfl,Ul hD,?_⟩;exact CN.mk J (by rw[D0,D6];omega) ⟨_,rfl,g,by rw[CS,hk,D9,D9];rfl⟩
 ·rintro acc _ H2 ⟨x0,rfl,g,rfl⟩ p hp;rw[CH (by rw[D1];omega)];exact q _ _ (g.trans (Qc hp _)) Qa
inductive Oq (K)(t)(x y:V)(H:Hp)(Q:VK):Prop
 | mk (N:Addr->Prop) (r a:Addr) (ns:List Str) (ks:List (Str×List Itm)) (cs:List Cp) (as:List Str) (h1:x=.ref r) (h1':y=.ref a) (h2:ji K t N H r ks cs as) (h3:A6 K H a (ns.map V.str)) (h5:(ns++(cs.map (·.2.2)).flatten).length<=100) (h6:∀H',Same H H'->Q (.bl (decide (ns++(cs.map (·.2.2)).flatten).Nodup)) H'):Oq K t x y H Q
def pE (r a l:Addr)(ns:List Str)(cs:List Cp)(H:Hp)(i:Nat)(σ':L2.St)(H':Hp):Prop:=∃x3,σ'=[some (.ref r),some (.ref a),some (.ref l),x3]/\Same H H'/\H l=none/\H' l=some (.lst ((ns++((cs.take i).map (·.2.2)).flatten).map V.str))
theorem iD (T:Tx w K mg):GB P w K mg base 1 t.zX "caps_none_twice" ["self","titles"] (Sp2M (Oq K t)):=by
 refine Pw T 6603 ["self","titles","capped","cap"] Y6 λH Q a6 hr h=>?_
 obtain⟨_,_,rfl,N,r,a,ns,ks,cs,as,rfl,rfl,⟨ow,dx,a1,a2,a3,ds,qs,cvs,S⟩,hL,hn,q⟩:=h;refine⟨_,(Qb (A5 2 (Qv (ZE K rfl) (by rfl) T.aF Ac (A1 (pu 1)))) (Qb (fh (Ie K rfl (Il K (pu 0))) (GE 3) (Qf (QH (QE K rfl CJ PySem.F.slot_list_extend PySem.F.type_list_extend Ko (pu 2) (A1 (Il K (pu 3))))))) (Qf (Qk (jX (QM K) (Qw Mm (by rfl) T.aB boot_len (A1 (Qv (Mj K rfl rfl) (by rfl) T.cB boot_set (A1 (pu 2))))) (IC K T.aB (pu 2))))))),?_⟩;left;refine⟨a,_,rfl,.inl hL,λl J=>?_⟩;have g1:=Qc J (.lst (ns.map V.str));have U:(upd H l (.lst (ns.map V.str))) l=some (.lst (ns.map V.str)):=Qa;generalize upd H l (.lst (ns.map V.str))=H1 at *;left;refine Yq (g1 _ _ S.hr) T.aC T.aP WU ?_;have a8:=S.cr.1;refine⟨a2,rfl,⟨_,AI (g1 _ _ S.h2)⟩,Xh (xs:=cvs) (pE r a l ns cs H) ⟨none,rfl,g1,J,by simpa using U⟩ (λi σ' H' _ h=>by obtain⟨_,_,g',_⟩:=h;exact AI (g' _ _ S.h2)) ?_ ?_⟩
 ·rintro i v _ H2 hv ⟨x3,rfl,g,_,hl2⟩;obtain⟨c,hc,hP⟩:=S.cr.getV hv;obtain⟨x,a7,l',rfl,hx,a4,_⟩:=hP;have sub:((cs.take (i+1)).map (·.2.2)).flatten=((cs.take i).map (·.2.2)).flatten++c.2.2:=by rw[CS,hc,D9,Ap];simp
  have len:(ns++((cs.take (i+1)).map (·.2.2)).flatten).length<=100:=by
   refine Co (List.Sublist.length_le ?_) hn;refine List.Sublist.append (List.Sublist.refl _) ?_
   conv=>rhs;rw [<-Aj (i+1) cs]
   rw[D9,Ap];exact List.sublist_append_left _ _
  left;refine⟨.inl ⟨rfl,_,AI hl2⟩,Yq (g _ _ hx) T.aU T.bL Mq ⟨l,l',_,_,rfl,rfl,hl2,g _ _ a4,?_,?_⟩⟩
  ·rw [sub,<-List.append_assoc] at len;rw [<-D0,<-D9,D1,Cb];exact Co len (by decide)
  ·refine⟨_,rfl,λb o h=>by rw[Qj (Qi h J)];exact g _ _ h,J,?_⟩;simp only[Qa,sub,D9,List.append_assoc]
 ·rintro _ H2 ⟨x3,rfl,g,_,hl2⟩;rw[CH (by omega)] at hl2;left;refine⟨l,_,rfl,AI hl2,hn,λp hp=>⟨p,_,rfl,Qa,Co (Nr _ _) hn,?_⟩⟩;have a5:=Qi hl2 hp;refine Q0 (AI (by rw[Qj a5];exact hl2)) ?_;left;rw[D1,show decide ((dn (ns++(cs.map (·.2.2)).flatten) (ns++(cs.map (·.2.2)).flatten).length:Int)=((ns++(cs.map (·.2.2)).flatten).length:Int))=decide (ns++(cs.map (·.2.2)).flatten).Nodup from decide_eq_decide.mpr ⟨λh=>dn_iff.mp (by omega),λh=>by rw[dn_iff.mpr h]⟩];exact q _ (g.trans (Qc hp _))
def UH (ks:List (Str×List Itm))(cs:List Cp):Row->Prop
 | .kind z=>ks.length<8/\z∉ks.map (·.1)
 | .cap _ _ ns=>cs.length<4/\(ns++(cs.map (·.2.2)).flatten).Nodup
 | .itm x=>∃ks0 z xs,ks=ks0++[(z,xs)]/\Xl xs x
def WE (ks:List (Str×List Itm))(cs:List Cp):Row->Bool
 | .kind z=>decide (ks.length<8)&&!decide (z∈ks.map (·.1))
 | .cap _ _ ns=>decide (cs.length<4)&&decide (ns++(cs.map (·.2.2)).flatten).Nodup
 | .itm x=>match ks.getLast? with
  | some k=>XB k.2 x
  | none=>false
theorem Ph {r}(h:UH ks cs r):WE ks cs r=true:=by
 cases r with
 | kind z=>show(decide _&&!decide _)=true;rw[Ck h.1,Ce h.2];rfl
 | cap a b ns=>show(decide _&&decide _)=true;rw[Ck h.1,Ck h.2];rfl
 | itm x=>
  obtain⟨ks0,z,xs,rfl,h⟩:=h;show(match (ks0++[(z,xs)]).getLast? with|some k=>XB k.2 x|none=>false)=true;rw[List.getLast?_concat];exact Pi h
structure Sml (n:Nat)(ks:List (Str×List Itm))(cs:List Cp)(as:List Str):Prop where
 k:ks.length<=n
 c:cs.length<=n
 a:as.length<=8*n
 x:∀k∈ks,k.2.length<=n
 m:∀c∈cs,c.2.2.length<=8
inductive Oo (K)(t)(x y z:V)(H:Hp)(Q:VK):Prop
 | mk (N:Addr->Prop) (r a:Addr) (vs:List V) (row:Row) (ks:List (Str×List Itm)) (cs:List Cp) (as:List Str) (h1:x=.ref r) (h2:y=.str row.srt) (h3:z=.ref a) (h4:ji K t N H r ks cs as) (h5:A6 K H a vs) (h6:All2 (Pv K H) row.ds vs) (h7':row.Ok) (h8:∃n,n<=100/\Sml n ks cs as) (h9:∀H',Same H H'->Q (.bl (WE ks cs row)) H'):Oo K t x y z H Q
theorem Ui (h:∀c∈cs,c.2.2.length<=8):(cs.map (·.2.2)).flatten.length<=8*cs.length:=by
 induction cs with
 | nil=>simp
 | cons c r U=>
  have h1:=h c Cw;have h2:=U λx J=>h x (Cu _ J)
  rw[CQ,List.flatten_cons,D0,Cm];omega
theorem KZ (x):(Row.itm x).srt≠q_ "kind"/\(Row.itm x).srt≠q_ "cap":=by
 cases x with
 | term u n l h'=>cases u;exact⟨show¬q_ "from"=q_ "kind" by decide +kernel,show¬q_ "from"=q_ "cap" by decide +kernel⟩;exact⟨show¬q_ "upto"=q_ "kind" by decide +kernel,show¬q_ "upto"=q_ "cap" by decide +kernel⟩
 | base=>exact⟨show¬q_ "base"=q_ "kind" by decide +kernel,show¬q_ "base"=q_ "cap" by decide +kernel⟩
 | each=>exact⟨show¬q_ "each"=q_ "kind" by decide +kernel,show¬q_ "each"=q_ "cap" by decide +kernel⟩
 | rent=>exact⟨show¬q_ "rent"=q_ "kind" by decide +kernel,show¬q_ "rent"=q_ "cap" by decide +kernel⟩
 | pay=>exact⟨show¬q_ "pay"=q_ "kind" by decide +kernel,show¬q_ "pay"=q_ "cap" by decide +kernel⟩
 | cnt=>exact⟨show¬q_ "counts"=q_ "kind" by decide +kernel,show¬q_ "counts"=q_ "cap" by decide +kernel⟩
 | off=>exact⟨show¬q_ "off"=q_ "kind" by decide +kernel,show¬q_ "off"=q_ "cap" by decide +kernel⟩
 | unt=>exact⟨show¬q_ "until"=q_ "kind" by decide +kernel,show¬q_ "until"=q_ "cap" by decide +kernel⟩
 | rnd=>exact⟨show¬q_ "round"=q_ "kind" by decide +kernel,show¬q_ "round"=q_ "cap" by decide +kernel⟩
theorem VY {K}{H}:∀{ns:List Str} {vs},All2 (Pv K H) (ns.map D.str) vs->vs=ns.map V.str
 | [],vs,h=>AO h.1.symm
 | n::ns,vs,h=>by
  match vs,h with
  | v::r,h=>
   have J:=h.2 0 _ _ rfl rfl;rw[YC J,VY (ns:=ns) (vs:=r) ⟨by have:=h.1;simpa using this,λi a b U hb=>h.2 (i+1) a b (by simpa using U) (by simpa using hb)⟩];rfl
theorem Lk {a b:Int}(h:All2 (Pv K H) (.int a::.int b::ns.map D.str) vs):vs=.int a::.int b::ns.map V.str:=by
 match vs,h with
 | v::u::r,h=>
  rw[Zj (h.2 0 _ _ rfl rfl),Zj (h.2 1 _ _ rfl rfl),VY (ns:=ns) (vs:=r) ⟨by have:=h.1;simpa using this,λi a b J U=>h.2 (i+2) a b (by simpa using J) (by simpa using U)⟩]
theorem Nd {t}{ds}{k}(S:RdS K t N ow H r dx a1 a2 a3 ds qs cvs (ks0++[k]) cs as):∃ds0 d,ds=ds0++[d]/\ds0.length=ks0.length/\DrR K t H d k.1 k.2 (qs ks0.length):=by
 have J:=S.dl;rw[D0,D6] at J;rcases List.eq_nil_or_concat ds with rfl|⟨ds0,d,rfl⟩
 ·simp at J
 rw[List.concat_eq_append] at *;rw[D0,D6] at J;have J:ds0.length=ks0.length:=by omega
 exact ⟨ds0,d,rfl,J,S.dr ks0.length d k (by rw [<-J];simp) (by simp)⟩
theorem iE (T:Tx w K mg):GB P w K mg base 2 t.zX "fits" ["self","sort","values"] (Sp3M (Oo K t)):=by
 refine Pw T 6602 ["self","sort","values"] JU λH Q a5 hr h=>?_
 obtain⟨_,_,_,rfl,N,r,a,vs,row,ks,cs,as,rfl,rfl,rfl,hR,U,hA,ok,⟨n,hn,sm⟩,q⟩:=h;refine⟨_,(Qb (Qr (A8 (QM K) (pu 1) Qe) (Qf (Qk (YS (jX Zr (IC K T.aB (Il K (pu 0))) (Xu T.dI)) (Jd (YR (Xe K rfl) (BM K 2) (G4 (bR T) (GG hr) T.aC (pu 0)) (by with_unfolding_all rfl)))))) Ql) (Qb (Qr (A8 (QM K) (pu 1) Qe) (Qf (Qk (YS (jX Zr (IC K T.aB (Il K (pu 0))) (Xu T.dJ)) (Jd (Gb (iD T) (GG hr) T.aC (pu 0) (A1 (QJ (IT K rfl) (pu 2) (QL Qd) Q8))))))) Ql) (Qf (Qk (YS (jX YF (IC K T.aB (Il K (pu 0))) Qd) (Jd (A7 (i7 T) (IZ (BN K (Il K (pu 0)) Ia) (pu 1) (pu 2))))))))),?_⟩;have J:=hR;obtain⟨ow,dx,a1,a2,a3,ds,qs,cvs,S⟩:=J;have a4:=S.dl;have a8:=S.cr.1;left;cases row with
 | kind z=>
  obtain⟨v,rfl,h1⟩:=l7 hA;cases YC h1;rw[DZ (show(Row.kind z).srt=Str.ofString "kind" from rfl)];refine Yq S.hr T.aC T.aN Zu (Q0 (AI S.h1) ?_);rw[D1];left;by_cases c:ks.length<8
  ·rw[DZ (by omega)];refine QA U (v:=.str z) rfl (MK S.hr Ta ?_);left;have:=sm.k;refine⟨N,r,ks,cs,as,rfl,hR,by omega,λp H' g hp=>Zx (AI hp) ?_⟩;have:=q _ g;rw[WE,Ck c] at this;exact this
  ·rw[DY (by omega)];have:=q _ (AK _);rw[WE,Ce c] at this;exact this
 | cap x y ns=>
  have e:=Lk hA;subst e;rw[DY (show¬(Row.cap x y ns).srt=Str.ofString "kind" from show¬q_ "cap"=q_ "kind" by decide +kernel),DZ (show(Row.cap x y ns).srt=Str.ofString "cap" from rfl)];refine Yq S.hr T.aC T.aP WU (Q0 (AI S.h2) ?_);left;by_cases c:cs.length<4
  ·rw[DZ (by omega)];refine MK S.hr SJ ?_;left;refine Zt U λp hp=>?_
   rw[show ZW (V.int x::V.int y::ns.map V.str) (some 2) none=ns.map V.str from XS _ 2];have g1:=Qc hp (.lst (ns.map V.str));have k1:=Ui sm.m;have k3:=ok.2.2.2.2;refine⟨N,r,p,ns,ks,cs,as,rfl,rfl,⟨ow,dx,a1,a2,a3,ds,qs,cvs,S.mono g1⟩,AI Qa,by rw[D0];omega,λH' g=>?_⟩;have:=q _ (g1.trans g);rw[WE,Ck c] at this;exact this
  ·rw[DY (by omega)];have:=q _ (AK _);rw[WE,Ce c] at this;exact this
 | itm x=>
  obtain⟨e1,e2⟩:=KZ x;rw[DY e1,DY e2];have h1:=AI (K:=K) S.h1;rcases List.eq_nil_or_concat ks with e|⟨ks0,⟨z,xs⟩,e⟩
  ·subst e;have e0:ds=[]:=AO a4;subst e0;refine Yq S.hr T.aC T.aN Zu (Q0 h1 ?_);left;exact q _ (AK _)
  rw[List.concat_eq_append] at e;subst e;obtain⟨a7,d,rfl,a6,hD⟩:=Nd S;refine Yq S.hr T.aC T.aN Zu (Q0 h1 ?_);left;rw[D1,D0,D6,DZ (by omega)];rw[D9] at h1;refine Yq S.hr T.aC T.aN Zu (QA h1 (Q5 _ _) ?_);have k1:xs.length<=n:=sm.x (z,xs) (by simp);refine⟨d,z,xs,_,x,a,vs,rfl,rfl,rfl,hD,U,hA,by omega,λH' g=>?_⟩;have:=q _ g;rw[WE,List.getLast?_concat] at this;exact this
def WH:List (Str×List Itm)->Itm->List (Str×List Itm)
 | [],_=>[]
 | [k],x=>[(k.1,k.2++[x])]
 | k::r,x=>k::WH r x
theorem Yp:∀{ks0},WH (ks0++[(z,xs)]) x=ks0++[(z,xs++[x])]
 | []=>rfl
 | [k]=>rfl
 | k::k2::r=>by
  show k::WH ((k2::r)++[(z,xs)]) x=_;rw[Yp (ks0:=k2::r)];rfl
def kS (ks:List (Str×List Itm)):Row->List (Str×List Itm)
 | .kind z=>ks++[(z,[])]
 | .itm x=>WH ks x
 | .cap ..=>ks
def cS (cs:List Cp):Row->List Cp
 | .cap a b ns=>cs++[(a,b,ns)]
 | _=>cs
def aS (as:List Str):Row->List Str
 | .cap _ _ ns=>as++ns
 | .itm (.cnt z _ _)=>as++[z]
 | _=>as
theorem UB:∀{ks} {x},(WH ks x).length=ks.length
 | [],_=>rfl
 | [_],_=>rfl
 | _::k2::r,x=>by show(WH (k2::r) x).length+1=_;rw[UB];rfl
theorem UA {n:Nat}:∀{ks},(∀k∈ks,k.2.length<=n)->∀k∈WH ks x,k.2.length<=n+1
 | [],_,k,J=>by cases J
 | [k0],h,k,J=>by
  have J:k=(k0.1,k0.2++[x]):=D7.mp J;subst J;have:=h k0 Cw;rw[D0,D6];omega
 | k0::k2::r,h,k,J=>by
  rcases Ca.mp (show k∈k0::WH (k2::r) x from J) with rfl|J
  ·have:=h k Cw;omega
  ·exact UA (λy U=>h y (Cu _ U)) k J
theorem Sml.step (h:Sml n ks cs as)(ok:row.Ok):Sml (n+1) (kS ks row) (cS cs row) (aS as row):=by
 obtain⟨h1,h2,h3,h4,h5⟩:=h;cases row with
 | kind z=>
  refine⟨by show(ks++[(z,[])]).length<=_;rw[D0,D6];omega,by show cs.length<=_;omega,by show as.length<=_;omega,λk J=>?_,h5⟩;rcases Cr.mp J with J|J
  ·have:=h4 k J;omega
  ·rw[D7.mp J];exact CF _
 | cap a b ns=>
  have:=ok.2.2.2.2;refine⟨by show ks.length<=_;omega,by show(cs++[(a,b,ns)]).length<=_;rw[D0,D6];omega,by show(as++ns).length<=_;rw[D0];omega,λk J=>by have:=h4 k J;omega,λc U=>?_⟩;rcases Cr.mp U with U|U
  ·exact h5 c U
  ·rw[D7.mp U];exact this
 | itm x=>
  refine⟨by show(WH ks x).length<=_;rw[UB];omega,by show cs.length<=_;omega,?_,UA h4,h5⟩;cases x with
  | cnt z r s=>show(as++[z]).length<=_;rw[D0,D6];omega
  | _=>show as.length<=_;omega
def Sn (N:Addr->Prop)(H H':Hp):Prop:=∀b o,¬N b->H b=some o->H' b=some o
theorem Sn.of (g:Same H H'):Sn N H H':=λb o _ h=>g b o h
theorem Sn.trans (a:Sn N H H1)(b:Sn N H1 H2):Sn N H H2:=λc o n h=>b c o n (a c o n h)
theorem Sn.put {c}{o}(n:N c):Sn N H (upd H c o):=λb u hn h=>by
 have:b≠c:=λe=>hn (by rw[e];exact n)
 rw[Qj this];exact h
theorem QZ {c}{ws}{o}(hc:H c=some (.lst ws))(h:∀b,N b->b≠c):Kp N H (upd H c o):=λb u e k=>by
 have:b≠c:=by
  rcases k with k|k
  ·exact h b k
  ·intro e2;subst e2;rw[hc] at e;exact k ws (CD e).symm
 rw[Qj this];exact e
theorem DrR.upd {t}{c}{ws}{o}(h:DrR K t H d z xs q)(hc:H c=some (.lst ws))(hn:∀j<7,q j≠c):DrR K t (L2.upd H c o) d z xs q:=by
 have g:=QZ (N:=λb=>b≠c) (o:=o) hc λb h=>h
 refine⟨g _ _ h.hd (.inr λvs e=>nomatch e),λj J=>?_⟩;obtain⟨vs,h1,h2⟩:=h.hq j J;exact⟨vs,g _ _ h1 (.inl (hn j J)),Yg g h2⟩
theorem DrR.add {t}{x}(h:DrR K t H d z xs q)(hc:H (q x.sl)=some (.lst vs))(hinj:∀i<7,∀j<7,q i=q j->i=j)(hv:PIt K t H x v):DrR K t (L2.upd H (q x.sl) (.lst (vs++[v]))) d z (xs++[x]) q:=by
 have g:=QZ (N:=λb=>b≠q x.sl) (o:=.lst (vs++[v])) hc λb h=>h
 refine⟨g _ _ h.hd (.inr λvs e=>nomatch e),λj hj=>?_⟩;obtain⟨us,h1,h2⟩:=h.hq j hj;rw[Av];by_cases e:x.sl=j
 ·subst e;rw[hc] at h1;cases h1;refine⟨_,Qa,?_⟩;rw[show[x].filter (λy=>decide (y.sl=x.sl))=[x] by simp];have h3:=Yg g h2;have hl:=h3.1;refine⟨by rw[D0,D0,hl];rfl,λi a b U J=>?_⟩;by_cases hi:i<vs.length
  ·rw[CI (by omega)] at U;rw[CI hi] at J;exact h3.2 i a b U J
  ·have a4:i<(vs++[v]).length:=(Cg.mp J).1;rw[D0,D6] at a4;have:i=vs.length:=by omega
   subst this;rw[CG (by omega),hl,CK] at U;rw[CG (D2 _),CK] at J;cases U;cases J;exact hv.kp g
 ·refine⟨us,g _ _ h1 (.inl λe2=>e (hinj _ (Xb x) _ hj e2.symm)),?_⟩;rw[show[x].filter (λy=>decide (y.sl=j))=[] by simp[e],Cs];exact Yg g h2
inductive Ob (K)(t)(x y z:V)(H:Hp)(Q:VK):Prop
 | mk (N:Addr->Prop) (Hp:Hp) (r a:Addr) (vs:List V) (row:Row) (ks:List (Str×List Itm)) (cs:List Cp) (as:List Str) (h1:x=.ref r) (h2:y=.str row.srt) (h3:z=.ref a) (h4:ji K t N Hp r ks cs as) (g0:Same Hp H) (ha:Hp a=none) (h5:A6 K H a vs) (h6:All2 (Pv K H) row.ds vs) (h7:UH ks cs row) (hN:∀b,H b=none->N b) (h8:∃n,n<=100/\Sml n ks cs as) (h7':row.Ok) (h9:∀H',Sn N H H'->ji K t N H' r (kS ks row) (cS cs row) (aS as row)->Q .non H'):Ob K t x y z H Q
theorem Gq (h:∀j<7,ow (q j)=n+j):∀i<7,∀j<7,q i=q j->i=j:=λi hi j hj e=>by
 have h1:=h i hi;have h2:=h j hj;rw[e] at h1;omega
theorem RdS.lst_q {t}{ds}(S:RdS K t N ow H r dx a1 a2 a3 ds qs cvs ks cs as){i j:Nat}(hi:i<ks.length)(hj:j<7):∃vs,H (qs i j)=some (.lst vs):=by
 obtain⟨vs,h,_⟩:=(S.dr i ds[i]! ks[i] (by rw[List.getElem!_eq_getElem?_getD,D4 (by rw[S.dl];exact hi)];rfl) (D4 hi)).hq j hj;exact⟨vs,h⟩
theorem Nw {t}(h:All2 (CpR K t N H) cs vs)(hn:∀l us,H l=some (.lst us)->N l->N' l):All2 (CpR K t N' H) cs vs:=⟨h.1,λi a b J U=>by
 obtain⟨x,dx,l,e,h1,h2,n⟩:=h.2 i a b J U;exact⟨x,dx,l,e,h1,h2,hn _ _ h2 n⟩⟩
theorem RdS.reown {t}{ds}{ow'}(S:RdS K t N ow H r dx a1 a2 a3 ds qs cvs ks cs as)(h:∀b vs,H b=some (.lst vs)->ow' b=ow b):RdS K t N ow' H r dx a1 a2 a3 ds qs cvs ks cs as:=
 ⟨S.hr,S.h1,S.h2,S.h3,S.n1,S.n2,S.n3,S.dl,S.dr,S.nq,Nw S.cr λl us e n=>⟨n.1,by rw[h _ _ e];exact n.2⟩,by rw[h _ _ S.h1];exact S.o1,by rw[h _ _ S.h2];exact S.o2,by rw[h _ _ S.h3];exact S.o3,λi hi j J=>by
  obtain⟨vs,e⟩:=S.lst_q hi J;rw[h _ _ e];exact S.oq i hi j J⟩
theorem QP (ow:Addr->Nat){a b}(h:ow a≠ow b):a≠b:=λe=>h (by rw[e])
theorem RdS.up1 {t}{ds}(S:RdS K t N ow H r dx a1 a2 a3 ds qs cvs ks cs as){d}{z}{q}(hD:DrR K t H d z [] q)(hq:∀j<7,N (q j)/\ow (q j)=10+7*ks.length+j):RdS K t N ow (upd H a1 (.lst (ds.map V.ref++[.ref d]))) r dx a1 a2 a3 (ds++[d]) (λi=>if i=ks.length then q else qs i) cvs (ks++[(z,[])]) cs as:=by
 have a4:=S.dl;have o1:=S.o1;have o2:=S.o2;have o3:=S.o3;have kc:Kp (λl=>N l/\ow l=3) H (upd H a1 (.lst (ds.map V.ref++[.ref d]))):=QZ S.h1 λb hb=>QP ow (by rw[hb.2,o1];decide)
 refine⟨by rw[Qj (Kn S.hr S.h1 (by intro z;cases z))];exact S.hr,by rw[Qa,D9];rfl,by rw[Qj (QP ow (by rw[o1,o2];decide))];exact S.h2,by rw[Qj (QP ow (by rw[o1,o3];decide))];exact S.h3,S.n1,S.n2,S.n3,by rw[D0,D0,a4];rfl,λi d' k J hk=>?_,λi hi j U=>?_,Wp kc S.cr,o1,o2,o3,λi hi j U=>?_⟩
 ·have hi:i<(ks++[(z,([]:List Itm))]).length:=(Cg.mp hk).1;rw[D0,D6] at hi;by_cases e:i=ks.length
  ·subst e;rw [<-a4,CG (D2 _),CK] at J;rw [CG (D2 _),CK] at hk;cases J;cases hk;simp only [if_true];exact hD.upd S.h1 fun j U=>QP ow (by rw [(hq j U).2,o1];omega)
  ·rw[CI (by omega)] at J hk;simp only[DY e];exact(S.dr i d' k J hk).upd S.h1 λj U=>QP ow (by rw[S.oq i (by omega) j U,o1];omega)
 ·rw[D0,D6] at hi;by_cases e:i=ks.length
  ·subst e;simp only[if_true];exact(hq j U).1
  ·simp only[DY e];exact S.nq i (by omega) j U
 ·rw[D0,D6] at hi;by_cases e:i=ks.length
  ·subst e;simp only[if_true];exact(hq j U).2
  ·simp only[DY e];exact S.oq i (by omega) j U
theorem RdS.up3 {t}{ds}(S:RdS K t N ow H r dx a1 a2 a3 ds qs cvs ks cs as)(as':List Str):RdS K t N ow (upd H a3 (.lst (as'.map V.str))) r dx a1 a2 a3 ds qs cvs ks cs as':=by
 have o1:=S.o1;have o2:=S.o2;have o3:=S.o3;have kc:Kp (λl=>N l/\ow l=3) H (upd H a3 (.lst (as'.map V.str))):=QZ S.h3 λb U=>QP ow (by rw[U.2,o3];decide)
 exact⟨by rw[Qj (Kn S.hr S.h3 (by intro z;cases z))];exact S.hr,by rw[Qj (QP ow (by rw[o1,o3];decide))];exact S.h1,by rw[Qj (QP ow (by rw[o2,o3];decide))];exact S.h2,Qa,S.n1,S.n2,S.n3,S.dl,λi d k hd J=>(S.dr i d k hd J).upd S.h3 λj hj=>QP ow (by rw[S.oq i (Cg.mp J).1 j hj,o3];omega),S.nq,Wp kc S.cr,o1,o2,o3,S.oq⟩
theorem RdS.up2 {t}{ds}(S:RdS K t N ow H r dx a1 a2 a3 ds qs cvs ks cs as){c}{v}(hc:CpR K t (λl=>N l/\ow l=3) H c v):RdS K t N ow (upd H a2 (.lst (cvs++[v]))) r dx a1 a2 a3 ds qs (cvs++[v]) ks (cs++[c]) as:=by
 have o1:=S.o1;have o2:=S.o2;have o3:=S.o3;have kc:Kp (λl=>N l/\ow l=3) H (upd H a2 (.lst (cvs++[v]))):=QZ S.h2 λb J=>QP ow (by rw[J.2,o2];decide)
 refine⟨by rw[Qj (Kn S.hr S.h2 (by intro z;cases z))];exact S.hr,by rw[Qj (QP ow (by rw[o1,o2];decide))];exact S.h1,Qa,by rw[Qj (QP ow (by rw[o2,o3];decide))];exact S.h3,S.n1,S.n2,S.n3,S.dl,λi d k hd hk=>(S.dr i d k hd hk).upd S.h2 λj hj=>QP ow (by rw[S.oq i (Cg.mp hk).1 j hj,o2];omega),S.nq,?_,o1,o2,o3,S.oq⟩;have h:=Wp kc S.cr;have hl:=h.1;refine⟨by rw[D0,D0,hl];rfl,λi a b U J=>?_⟩;by_cases hi:i<cvs.length
 ·rw[CI (by omega)] at U;rw[CI hi] at J;exact h.2 i a b U J
 ·have a4:i<(cvs++[v]).length:=(Cg.mp J).1;rw[D0,D6] at a4;have:i=cvs.length:=by omega
  subst this;rw[CG (by omega),hl,CK] at U;rw[CG (D2 _),CK] at J;cases U;cases J;exact hc.kp kc
theorem RdS.upx {t}{ds}(S:RdS K t N ow H r dx a1 a2 a3 ds qs cvs (ks0++[(z,xs)]) cs as){x}{v}{vs}(hv:H (qs ks0.length x.sl)=some (.lst vs))(hx:PIt K t H x v):RdS K t N ow (upd H (qs ks0.length x.sl) (.lst (vs++[v]))) r dx a1 a2 a3 ds qs cvs (ks0++[(z,xs++[x])]) cs as:=by
 have o1:=S.o1;have o2:=S.o2;have o3:=S.o3;have J:∀y:List Itm,(ks0++[(z,y)]).length=ks0.length+1:=λy=>by rw[D0];rfl
 have oq:ow (qs ks0.length x.sl)=10+7*ks0.length+x.sl:=S.oq _ (by rw[J];omega) _ (Xb x);have kc:Kp (λl=>N l/\ow l=3) H (upd H (qs ks0.length x.sl) (.lst (vs++[v]))):=QZ hv λb hb=>QP ow (by rw[hb.2,oq];omega)
 refine⟨by rw[Qj (Kn S.hr hv (by intro z;cases z))];exact S.hr,by rw[Qj (QP ow (by rw[o1,oq];omega))];exact S.h1,by rw[Qj (QP ow (by rw[o2,oq];omega))];exact S.h2,by rw[Qj (QP ow (by rw[o3,oq];omega))];exact S.h3,S.n1,S.n2,S.n3,by rw[S.dl,J,J],λi d k hd hk=>?_,λi hi j U=>S.nq i (by rw[J] at *;exact hi) j U,Wp kc S.cr,o1,o2,o3,λi hi j U=>S.oq i (by rw[J] at *;exact hi) j U⟩;have hi:=(Cg.mp hk).1;rw[J] at hi;by_cases e:i=ks0.length
 ·subst e;have hD:=S.dr ks0.length d (z,xs) hd (by simp);have ek:k=(z,xs++[x]):=by simpa using hk.symm
  subst ek;exact hD.add hv (Gq λj U=>S.oq _ (by rw[J];omega) j U) hx
 ·rw[CI (by omega)] at hk;refine(S.dr i d k hd (by rw[CI (by omega)];exact hk)).upd hv λj U=>QP ow ?_
  rw[S.oq i (by rw[J];omega) j U,oq];have:=Xb x;omega
theorem LH (ow:Addr->Nat)(q:Nat->Addr)(n:Nat)(hinj:∀i<7,∀j<7,q i=q j->i=j):∃ow':Addr->Nat,(∀j<7,ow' (q j)=n+j)/\∀b,(∀j<7,q j≠b)->ow' b=ow b:=by
 classical
 refine⟨λb=>if h:∃j,j<7/\q j=b then n+Classical.choose h else ow b,λj J=>?_,λb U=>?_⟩
 ·have h:∃i,i<7/\q i=q j:=⟨j,J,rfl⟩
  simp only[dif_pos h];have c:=Ax h;rw[hinj _ c.1 _ J c.2]
 ·have h:¬∃j,j<7/\q j=b:=λ⟨j,J,e⟩=>U j J e
  simp only[dif_neg h]
theorem GU {c}{xs}{o}(h:A6 K H a xs)(n:a≠c):A6 K (upd H c o) a xs:=by
 rcases h with (h|⟨u,h⟩)|h
 ·exact .inl (.inl (by rw[Qj n];exact h))
 ·exact .inl (.inr ⟨u,by rw[Qj n];exact h⟩)
 ·exact .inr h
theorem iF (T:Tx w K mg):GB P w K mg base 5 t.zX "take" ["self","sort","values"] (Sp3M (Ob K t)):=by
 refine Pw T 6604 ["self","sort","values"] JU λH Q ah hr h=>?_
 obtain⟨_,_,_,rfl,N,Hp,r,a,vs,row,ks,cs,as,rfl,rfl,rfl,⟨ow,dx,a1,a2,a3,ds,qs,cvs,S0⟩,g0,ha,hL,hA,hf,hN,⟨n,hn,sm⟩,ok,q⟩:=h;refine⟨_,(Qf (Qr (A8 (QM K) (pu 1) Qe) (Qf (QH (QE K rfl CJ CM CO Qy (Il K (pu 0)) (A1 (A7 (i0 T) (A1 (BM K 2))))))) (Qf (Qr (A8 (QM K) (pu 1) Qe) (Qb (QH (QE K rfl CJ CM CO Qy (Il K (pu 0)) (A1 (YE (i9 T) (GG hr) rfl T.cT (IZ (BM K 2) (BM K 2) (QJ (IT K rfl) (pu 2) (QL Qd) Q8)))))) (Qf (QH (QE K rfl CJ PySem.F.slot_list_extend PySem.F.type_list_extend Ko (Il K (pu 0)) (A1 (QJ (IT K rfl) (pu 2) (QL Qd) Q8)))))) (Qb (QH (QE K rfl CJ CM CO Qy (Za (ZV hr) (BN K (Il K (pu 0)) Ia) (YQ T.aY (pu 1) (λ_ _=>rfl)) (λ_ _=>rfl)) (A1 (A7 (hZ T) (A3 (pu 1) (pu 2)))))) (Qf (Qr (A8 (QM K) (pu 1) Qe) (Qf (QH (QE K rfl CJ CM CO Qy (Il K (pu 0)) (A1 (BM K 2))))) Ql))))))),?_⟩;have S:=S0.mono g0;have ao:=S.dl;have ag:=S.cr.1;have s1:=sm.k;have s2:=sm.c;have s3:=sm.a;left;cases row with
 | kind z=>
  obtain ⟨v,rfl,h1⟩:=l7 hA;cases YC h1;rw [DZ (show (Row.kind z).srt=Str.ofString "kind" from rfl)];refine Yq S.hr T.aC T.aN Zu ⟨.inl ⟨rfl,_,AI S.h1⟩,QA hL (v:=.str z) rfl ⟨z,rfl,fun d q' H1 J aj ae hq a7=>?_⟩⟩;refine ⟨a1,_,_,rfl,rfl,J _ _ S.h1,by rw [D1,Cb];omega,?_⟩;refine q _ ((Sn.of J).trans (Sn.put S.n1)) ?_;obtain ⟨ow',w1,w2⟩:=LH ow q' (10+7*ks.length) a7;have S1:=(S.reown (ow':=ow') fun b vs hb=>w2 b fun j hj e=>by rw [<-e,(hq j hj).1] at hb;cases hb).mono J;exact ⟨ow',dx,a1,a2,a3,_,_,cvs,S1.up1 ⟨ae,fun j hj=>⟨[],(hq j hj).2,rfl,fun i a b ha=>by simp at ha⟩⟩ fun j hj=>⟨hN _ (hq j hj).1,w1 j hj⟩⟩
 | cap x y ns=>
  have e:=Lk hA;subst e;rw[DY (show¬(Row.cap x y ns).srt=Str.ofString "kind" from show¬q_ "cap"=q_ "kind" by decide +kernel),DZ (show(Row.cap x y ns).srt=Str.ofString "cap" from rfl)];refine Yq S.hr T.aC T.aP WU ⟨.inl ⟨rfl,_,AI S.h2⟩,?_⟩;simp only[Yt];left;refine QA hL (QV (j:=0) rfl) (QA hL (QV (j:=1) rfl) (Zt hL λp hp=>?_));rw[show ZW (V.int x::V.int y::ns.map V.str) (some 2) none=ns.map V.str from XS _ 2];have J:=Qc hp (.lst (ns.map V.str));have aa:(upd H p (.lst (ns.map V.str))) p=some (.lst (ns.map V.str)):=Qa;generalize upd H p (.lst (ns.map V.str))=H1 at *;intro c dc hc a5 _;refine⟨c,dc,p,_,rfl,XO,rfl,ZD hc a5 aa,λH2 m o hx hm U=>⟨rfl,?_⟩⟩;have g2:=Zk hc a5 o;have a4:=J.trans g2;have U:H m=none:=J.free (Xw hc a5 U);refine⟨a2,_,_,rfl,rfl,a4 _ _ S.h2,by rw[Cb];omega,?_⟩;have w2:∀b,b≠m->(λb=>if b=m then 3 else ow b) b=ow b:=λb hb=>DY hb
  have S2:=((S.reown (ow':=λb=>if b=m then 3 else ow b) λb vs hb=>w2 b (Qi hb U)).mono a4).up2 (c:=(x,y,ns)) (v:=.ref c) ⟨c,dc,m,rfl,hx,hm,hN _ U,DZ rfl⟩;refine Yq S2.hr T.aC T.aV Jb ⟨.inl ⟨rfl,_,AI S2.h3⟩,?_⟩;have a9:a≠a2:=λe=>by rw[e,S0.h2] at ha;cases ha
  have aq:a3≠a:=fun e=>by rw [<-e,S0.h3] at ha;cases ha
  refine Zt (GU (a4.seq hL) a9) λp2 af=>?_
  rw [show ZW (V.int x :: V.int y :: ns.map V.str) (some 2) none=ns.map V.str from XS _ 2];have g3:=Qc af (.lst (ns.map V.str));have S3:=(S2.mono g3).up3 (as++ns);have l8:=ok.2.2.2.2;refine ⟨a3,p2,_,_,rfl,rfl,g3 _ _ S2.h3,Qa,by rw [D1,D1,Cb];omega,?_⟩;rw [<-D9];exact q _ ((((Sn.of a4).trans (Sn.put S.n2)).trans (Sn.of g3)).trans (Sn.put S.n3)) ⟨_,_,_,_,_,_,_,_,S3⟩
 | itm x=>
  obtain⟨e1,e2⟩:=KZ x;rw[DY e1,DY e2];obtain⟨ks0,z,xs,rfl,ai⟩:=hf;obtain⟨aw,d,rfl,ar,hD⟩:=Nd S;simp only[YK,GP];left;have h1:=AI (K:=K) S.h1;rw[D9] at h1;refine Yq S.hr T.aC T.aN Zu (QA h1 (Q5 _ _) ?_);obtain⟨us,hu,hU⟩:=hD.hq x.sl (Xb x);refine⟨Sum.inr x.srt,_,rfl,Jk x,d,_,rfl,ZF hD (Xb x),.inl ⟨rfl,_,AI hu⟩,x,a,vs,rfl,rfl,hL,hA,λv H1 J hP=>?_⟩;have av:(xs.filter λy=>decide (y.sl=x.sl)).length=us.length:=hU.1;have ak:xs.length<=n:=sm.x (z,xs) (by simp);have au:(xs.filter λy=>decide (y.sl=x.sl)).length<=xs.length:=Az _ _;refine⟨_,_,_,rfl,rfl,J _ _ hu,by rw[Cb];omega,?_⟩;have S1:=(S.mono J).upx (J _ _ hu) hP;have a8:ks0.length<(ks0++[(z,xs)]).length:=by rw[D0];exact Ao _
  have nq:=S.nq ks0.length a8 x.sl (Xb x);have na:a≠qs ks0.length x.sl:=λe=>by
   obtain ⟨ws,hw⟩:=S0.lst_q a8 (Xb x);rw [<-e,ha] at hw;cases hw
  have a6:=(Sn.of (N:=N) J).trans (Sn.put (o:=.lst (us++[v])) nq);have ek:kS (ks0++[(z,xs)]) (.itm x)=ks0++[(z,xs++[x])]:=Yp;rw[ek] at q;refine Qs (λc=>?_) (λc=>?_)
  ·obtain⟨z2,r2,s2,rfl⟩:=K0 c;obtain⟨v1,v2,rfl,p1,p2⟩:=jl hA;cases YC p1;refine Yq S1.hr T.aC T.aV Jb ⟨.inl ⟨rfl,_,AI S1.h3⟩,QA (GU (J.seq hL) na) (v:=.str z2) rfl ⟨a3,_,_,rfl,rfl,S1.h3,by rw[D1,Cb];omega,?_⟩⟩;have S3:=S1.up3 (as++[z2]);rw[D9] at S3;exact q _ (a6.trans (Sn.put S.n3)) ⟨_,_,_,_,_,_,_,_,S3⟩
  ·have ea:aS as (.itm x)=as:=by
    cases x with
    | cnt=>exact absurd rfl c
    | _=>rfl
   rw[ea] at q;exact q _ a6 ⟨_,_,_,_,_,_,_,_,S1⟩
inductive O6 (C)(f)(x y:V)(H:Hp)(Q:VK):Prop
 | mk (e:Addr) (h1:x=.ref e) (h2:H e=some (.ext (Xp e C none))) (h3:∀d,H d=none->d≠e->Q .non (upd (upd H e (.ext (Xp e C (some d)))) d (.ext (XD d [(f,y)])))):O6 C f x y H Q
theorem iG (T:Tx w K mg):BJ P w K mg base 1 t.zE ["self","title"] (Sp2M (O6 t.zE "title")):=by
 refine E6 T 600 ["self","title"] Y6 λH Q J U h=>?_
 obtain⟨_,v,rfl,e,rfl,he,q⟩:=h;refine⟨_,(Qf (G2 K rfl (pu 0) (pu 1))),?_⟩;left;exact⟨e,_,rfl,he,T.bP,T.bQ,q⟩
theorem bS (T:Tx w K mg):BJ P w K mg base 1 t.zH ["self","place"] (Sp2M (O6 t.zH "place")):=by
 refine E6 T 900 ["self","place"] Y6 λH Q J U h=>?_
 obtain⟨_,v,rfl,e,rfl,he,q⟩:=h;refine⟨_,(Qf (G2 K rfl (pu 0) (pu 1))),?_⟩;left;exact⟨e,_,rfl,he,T.bN,T.bO,q⟩
theorem PU {f:Str}{z:V}{E:XK}(q:∀d' H',Same H H'->H' d'=some (.ext (XD d' [(f,z)]))->E (.ref C) (some d') H'):1<=sizeLine/\∀x,H x=none->O6 C f (.ref x) z (upd H x (.ext (Xp x C none))) (λv H2=>v=.non/\∃od,H2 x=some (.ext (Xp x C od))/\E (.ref C) od (Ys H2 x)):=by
 refine⟨by decide,λx hx=>⟨x,rfl,Qa,λd2 U J=>⟨rfl,some d2,by rw[Qj J.symm];exact Qa,?_⟩⟩⟩;rw[Qj J] at U;refine q d2 _ (Kd hx U) ?_;rw[Yn J];exact Qa
theorem TR {c:Addr}{f:Str}{z:V}{E:XK}(hc:H c=none)(q:∀d' H',Same H H'->H' d'=some (.ext (XD d' [(f,z)]))->E (.ref C) (some d') H'):1<=sizeLine/\(upd H c (.ext (Yb c cls))) c=some (.ext (Yb c cls))/\∀x,(upd H c (.ext (Yb c cls))) x=none->O6 C f (.ref x) z (upd (upd H c (.ext (Yb c cls))) x (.ext (Xp x C none))) (λv H2=>v=.non/\∃od,H2 x=some (.ext (Xp x C od))/\H2 c=some (.ext (Yb c cls))/\E (.ref C) od (Ys H2 x)):=by
 refine⟨by decide,Qa,λx hx=>?_⟩;have g:=Qc hc (.ext (Yb c cls));have a4:c≠x:=Qi Qa hx;refine⟨x,rfl,Qa,λd2 U J=>⟨rfl,some d2,by rw[Qj J.symm];exact Qa,?_,?_⟩⟩
 ·rw[Qj J] at U;rw[Qj (Qi Qa U),Qj a4,Qj a4];exact Qa
 ·rw[Qj J] at U;refine q d2 _ (g.trans (Kd hx U)) ?_;rw[Yn J];exact Qa
def ghost (ks:List (Str×List Itm))(as:List Str):Option Str:=as.find? λz=>!decide (z∈ks.map (·.1))
theorem Ue (h:as[i]?=some z)(ha:∀y∈as.take i,y∈ks.map (·.1))(hz:z∉ks.map (·.1)):ghost ks as=some z:=by
 have e:as=as.take i++z::as.drop (i+1):=by
  rw [<-(Cg.mp h).2,<-List.drop_eq_getElem_cons,Aj]
 unfold ghost;rw[e,List.find?_append,List.find?_eq_none.mpr λy J=>by rw[Ck (ha y J)];decide,Option.none_or];show List.find? _ (z::as.drop (i+1))=_;exact List.find?_cons_of_pos (by rw[Ce hz];rfl)
theorem Jr (h:∀z∈as,z∈ks.map (·.1)):ghost ks as=none:=List.find?_eq_none.mpr λy hy=>by rw[Ck (h y hy)];decide
def nY (K:W.Frag)(t:Ii)(N:Addr->Prop)(H:Hp)(v:V)(ks:List (Str×List Itm))(cs:List Cp):Prop:=∃x dx m1 m2 kvs cvs,v=.ref x/\H x=some (.ins t.zP dx (oF (.ref m1) (.ref m2)))/\N m1/\N m2/\H m1=some (.lst kvs)/\H m2=some (.lst cvs)/\All2 (KdR K t N H) ks kvs/\All2 (CpR K t N H) cs cvs
theorem KdR.imp {t}{k}(h:KdR K t N H k v)(hn:∀b,N b->N' b):KdR K t N' H k v:=by
 obtain⟨x,dx,li,un,U,m,e,h1,h2,h3,h4⟩:=h;exact⟨x,dx,li,un,U,m,e,h1,λj J=>⟨hn _ (h2 j J).1,(h2 j J).2⟩,h3,h4⟩
inductive O9 (K)(t)(x:V)(H:Hp)(Q:VK)(E:XK):Prop
 | mk (N:Addr->Prop) (r:Addr) (ks:List (Str×List Itm)) (cs:List Cp) (as:List Str) (h1:x=.ref r) (h2:ji K t N H r ks cs as) (h4:ks.length<=1000) (hN:∀b,H b=none->N b) (h9:ghost ks as=none->∀v H',Same H H'->nY K t N H' v ks cs->Q v H')
   (h10:∀z,ghost ks as=some z->∀d H',Same H H'->H' d=some (.ext (XD d [(q_ "title",.str z)]))->E (.ref t.zE) (some d) H'):O9 K t x H Q E
def pF (r:Addr)(ks:List (Str×List Itm))(as:List Str)(H:Hp)(i:Nat)(σ':L2.St)(H':Hp):Prop:=∃x1,σ'=[some (.ref r),x1]/\Same H H'/\∀y∈as.take i,y∈ks.map (·.1)
def oj (K:W.Frag)(t:Ii)(N:Addr->Prop)(ks:List (Str×List Itm))(H:Hp)(i:Nat)(acc:List V)(σ':L2.St)(H':Hp):Prop:=∃x0,σ'=[x0]/\Same H H'/\All2 (KdR K t N H') (ks.take i) acc
theorem iH (T:Tx w K mg):BK P w K mg base 5 t.zX "office_told" ["self"] (Rp1M (O9 K t)):=by
 refine E7 T 6605 ["self","title"] Uy λH Q af hr h=>?_
 obtain⟨_,rfl,N,r,ks,cs,as,rfl,hR,hk,hN,q0,qE⟩:=h;have a8:=hR;obtain⟨ow,dx,a1,a2,a3,ds,qs,cvs,S⟩:=a8;have ag:=S.dl;refine⟨_,(Qb (Ga PassesOwn.leaving rfl (Ie K rfl (Il K (pu 0))) (GE 1) (Qf (Qr (ZA (Xe K rfl) (pu 1) (G4 (bR T) (GG hr) T.aC (pu 0)) (by with_unfolding_all rfl)) (Qf (Kh U1 rfl rfl (iG T) (GG hr) rfl T.aW (A1 (pu 1)))) Ql))) (Qf (Qk (YE (iA T) (GG hr) rfl T.bF (A3 (Ij ["draft"] [none] (Ie K rfl (Il K (pu 0))) (GE 0) QU (A7 (iC T) (A1 (pu 0)))) (Il K (pu 0))))))),?_⟩;left;refine Yq S.hr T.aC T.aV Jb ⟨a3,rfl,⟨_,AI S.h3⟩,Xh (xs:=as.map V.str) (pF r ks as H) ⟨none,rfl,AK _,λy U=>by cases U⟩ (λi σ' H' _ h=>by obtain⟨_,_,g',_⟩:=h;exact g'.seq (AI S.h3)) ?_ ?_⟩
 ·rintro i v _ H2 hv ⟨x1,rfl,g,ha⟩;rw[Ct] at hv;obtain⟨z,hz,rfl⟩:=Cv.mp hv;have S2:=S.mono g;left;refine MK S2.hr Ta ?_;left;refine⟨N,r,ks,cs,as,rfl,⟨ow,dx,a1,a2,a3,ds,qs,cvs,S2⟩,hk,λp H' g2 hp=>Zx (AI hp) ?_⟩;left;refine Qs (λc=>?_) (λc=>⟨_,rfl,g.trans g2,λy U=>?_⟩)
  ·simp only[VL];left;exact PU λd' a7 g' x'=>qE z (Ue hz ha c) d' a7 ((g.trans g2).trans g') x'
  ·rw[CS,hz] at U;rcases Cr.mp U with U|U
   ·exact ha y U
   ·have U:y=z:=by simpa using U
    rw[U];exact Classical.not_not.mp c
 ·rintro _ H2 ⟨x1,rfl,g,ha⟩;rw[CH (by rw[D1];exact D2 _)] at ha;have q:=q0 (Jr ha);have S2:=S.mono g;left;simp only[Yt];left;simp only[ZL];left;refine Yq S2.hr T.aC T.aN Zu ⟨a1,rfl,⟨_,AI S2.h1⟩,Y2 (xs:=ds.map V.ref) (oj K t N ks H2) ⟨none,rfl,AK _,rfl,λi a b h=>by simp at h⟩ (λi acc σ' H' _ h=>by obtain⟨_,_,g',_⟩:=h;exact g'.seq (AI S2.h1)) (by rw[D1];omega) ?_ ?_⟩
  ·rintro i v acc _ H3 hv ae ⟨x0,rfl,g3,hA⟩;have a6:=Z0 hv;rw[Ct] at hv;obtain⟨d,hd,rfl⟩:=Cv.mp hv;obtain⟨k,hk⟩:∃k,ks[i]?=some k:=⟨_,D4 (by rw[D1] at a6;omega)⟩
   have hD:=(S2.dr i d k hd hk).kp g3;simp only[ZS];left;refine⟨d,k.1,k.2,_,rfl,hD,λv H4 g4 hK=>?_⟩;exact CN.mk a6 (by rw[D0,D6];omega) ⟨_,rfl,g3.trans g4,KH hA (λa b h=>KdR.kp (.of g4) h) hk (hK.imp λb hb=>hN b ((g.trans g3).free hb))⟩
  ·rintro acc _ H3 ⟨x0,rfl,g3,hA⟩ p hp;rw[CH (by rw[D1];omega)] at hA;have g4:=Qc hp (.lst acc);have aa:(upd H3 p (.lst acc)) p=some (.lst acc):=Qa;generalize upd H3 p (.lst acc)=H4 at *;have J:=g3.trans g4;left;refine Yq (J _ _ S2.hr) T.aC T.aP WU ?_;left;intro x a5 hx a4 _;refine⟨x,a5,p,a2,acc,cvs,rfl,XO,rfl,ZD hx a4 aa,rfl,ZD hx a4 (J _ _ S2.h2),λH5 m1 m2 o a9 b1 b2=>⟨rfl,?_⟩⟩;have g5:=Zk hx a4 o;have fr:∀{b},jx t.zP x a5 H4 b=none->N b:=λh=>hN _ ((g.trans J).free (Xw hx a4 h))
   refine q _ _ ((g.trans J).trans g5) ⟨x,a5,m1,m2,acc,cvs,rfl,a9,fr b1.2,fr b2.2,b1.1,b2.1,⟨hA.1,λi a b h1 h2=>KdR.kp (.of (g4.trans g5)) (hA.2 i a b h1 h2)⟩,?_⟩;exact Nw (Wp (.of (J.trans g5)) S2.cr) λl us _ n=>n.1
def run:List (Str×List Itm)->List Cp->List Str->List Row->List (Str×List Itm)×List Cp×List Str
 | ks,cs,as,[]=>(ks,cs,as)
 | ks,cs,as,r::rs=>run (kS ks r) (cS cs r) (aS as r) rs
def IM:List (Str×List Itm)->List Cp->List Row->Prop
 | _,_,[]=>True
 | ks,cs,r::rs=>r.Ok/\UH ks cs r/\IM (kS ks r) (cS cs r) rs
def Row.tx (r:Row):Str:=Txt.join blank (r.srt::r.ws)
theorem W7 {r:Row}(ok:r.Ok):Txt.split r.tx blank=r.srt::r.ws:=U3 (by simp) λz hz=>(r.plain ok z hz).2.2
theorem X0 {r:Row}(ok:r.Ok):r.ws.length<=10:=by
 cases r with
 | kind z=>exact AL rfl
 | cap a b ns=>have:=ok.2.2.2.2;show ns.length+1+1<=10;omega
 | itm x=>cases x<;>exact AL rfl
theorem MU {r:Row}(ok:r.Ok):r.tx.length<=100000:=by
 have h:=LO blank (r.srt::r.ws);have h1:=X0 ok;have h2:((r.srt::r.ws).map (·.length)).sum<=(r.srt::r.ws).length*1000:=by
  have:∀l:List Str,(∀z∈l,z.length<=1000)->(l.map (·.length)).sum<=l.length*1000:=by
   intro l
   induction l with
   | nil=>simp
   | cons x l ih=>
    intro h;have h1:=h x Cw;have h2:=ih λy hy=>h y (Cu _ hy)
    simp only[CQ,List.sum_cons,Cm];omega
  exact this _ λz U=>(r.plain ok z U).2.1
 have J:blank.length=1:=rfl;rw[J,Cm] at h;rw[Cm] at h2;show(Txt.join blank (r.srt::r.ws)).length<=_;omega
theorem FL {m}{sp}{ta}{fs}{σ}{E}(hp:H p=some (.ins C dx fs))(l:fs.lookup m=none)(q:ta σ H λvs H2=>sp (.ref p::(vs++[])) H2 Q E)(e:σ[i]?=some (some (.ref p)):=by rfl):W9 C m sp [] E (Xj i) ta σ H Q:=by
 show asVar σ[i]? _;rw[e];exact⟨p,dx,fs,rfl,hp,l,q⟩
inductive jw (ks)(cs):Str->Prop
 | word (z s:Str) (ws:List Str) (e:Txt.split z blank=s::ws) (h:Z9 (s::ws)=none) (hw:∀y∈ws,Q6 y/\y.length<=1000) (hl:ws.length<=20) (hz:z.length<=1000):jw ks cs z
 | fit (r:Row) (ok:r.Ok) (h:WE ks cs r=false):jw ks cs r.tx
inductive Oc (K)(t)(x:V)(H:Hp)(Q:VK)(E:XK):Prop
 | mk (a:Addr) (rs:List Row) (zs:List Str) (ks:List (Str×List Itm)) (cs:List Cp) (as:List Str) (h1:x=.ref a) (h2:A6 K H a ((rs.map λr=>.str r.tx)++zs.map V.str)) (h3:rs.length<=80) (h4:IM [] [] rs) (h5:run [] [] [] rs=(ks,cs,as))
   (h6:zs=[]->ghost ks as=none->∀v H',Same H H'->nY K t (λb=>H b=none) H' v ks cs->Q v H') (h7:zs=[]->∀z,ghost ks as=some z->∀d H',Same H H'->H' d=some (.ext (XD d [(q_ "title",.str z)]))->E (.ref t.zE) (some d) H')
   (h8:∀z zr,zs=z::zr->jw ks cs z/\∀d H',Same H H'->H' d=some (.ext (XD d [(q_ "place",.int (rs.length:Nat))]))->E (.ref t.zH) (some d) H'):Oc K t x H Q E
def oX (K:W.Frag)(t:Ii)(a r:Addr)(rs:List Row)(fin:List (Str×List Itm)×List Cp×List Str)(H:Hp)(i:Nat)(σ':L2.St)(H':Hp):Prop:=∃x2 x3 x4 x5,σ'=[some (.ref a),some (.ref r),x2,x3,x4,x5]/\Same H H'/\i<=rs.length/\∃ks cs as,ji K t (λb=>H b=none) H' r ks cs as/\Sml i ks cs as/\IM ks cs (rs.drop i)/\run ks cs as (rs.drop i)=fin
theorem bA (T:Tx w K mg):HR P w K mg base 7 "read" ["rows"] (Rp1M (Oc K t)):=by
 refine DN T 67 ["rows","reader","place","row","words","values"] Uy λ{_ _ _ _ _ _ _ E} H Q aj hr h=>?_
 obtain⟨_,rfl,a,rs,zs,ks,cs,as,rfl,hL,hn,af,ae,q,qU,qR⟩:=h;refine⟨_,(Qb (A5 1 (Ry (iB T) (GG hr) rfl T.cZ)) (Qb (Ga PassesOwn.leaving rfl (Rv K rfl rfl T.c9 (A1 (pu 0))) (jm (n:=2) K rfl rfl (QR (GE 2) (QR (GE 3) Xd))) (Qb (A5 4 (QE K rfl AN AU AV Xx (pu 3) (A1 Qe))) (Qb (Rl U1 (λ_=>PassesOwnAt.leaving) ⟨rfl,rfl,rfl⟩ rfl T.aI (Rj (i:=5) aj rfl (Or.inl rfl) (Rh (gX T) (GG hr) rfl rfl (A1 (pu 4)))) (bS T) (GG hr) rfl T.aT (λea=>(A1 (pu 2)))) (Qb (Qr (YD (Z5 (Gb (iE T) (GG hr) T.aC (pu 1) (A3 (BM K 4) (pu 5))))) (Qf (Kh U1 rfl rfl (bS T) (GG hr) rfl T.aT (A1 (pu 2)))) Ql) (Qf (QH (Gb (iF T) (GG hr) T.aC (pu 1) (A3 (BM K 4) (pu 5))))))))) (Qf (Qk (Lq (iH T) (GG hr) T.aC (EC λ_ _ _ h=>h) (pu 1)))))),?_⟩;left;simp only[Yt];left;intro r dx a6 a4 _;refine⟨r,dx,rfl,XO,λH1 m1 m2 m3 o aq b1 b2 b3 au ah ai=>⟨rfl,?_⟩⟩;have g1:=Zk a6 a4 o;have R1:ji K t (λb=>H b=none) H1 r [] [] []:=by
  refine⟨λb=>if b=m1 then 0 else if b=m2 then 1 else 2,dx,m1,m2,m3,[],λ_ _=>0,[],aq,b1.1,b2.1,b3.1,Xw a6 a4 b1.2,Xw a6 a4 b2.2,Xw a6 a4 b3.2,rfl,λi d k h=>by simp at h,λi h=>by simp at h,⟨rfl,λi a b h=>by simp at h⟩,DZ rfl,?_,?_,λi h=>by simp at h⟩
  ·simp only[DY au.symm,if_true]
  ·simp only[DY ah.symm,DY ai.symm]
 simp only[Ti];left;refine⟨a,rfl,⟨_,g1.seq hL⟩,DK (xs:=(rs.map λr=>.str r.tx)++zs.map V.str) (oX K t a r rs (ks,cs,as) H) ⟨none,none,none,none,rfl,g1,CF _,[],[],[],R1,⟨D2 _,D2 _,D2 _,λk h=>by simp at h,λk h=>by simp at h⟩,af,ae⟩ (λi σ' H' _ h=>by obtain⟨_,_,_,_,_,g',_⟩:=h;exact g'.seq hL) ?_ ?_⟩
 ·rintro i v _ H2 p hv ⟨x2,x3,x4,x5,rfl,g,hir,ks1,cs1,as1,R,sm,ac,ru⟩ hp;generalize a8:(∀d H',Same H H'->H' d=some (.ext (XD d [(q_ "place",.int (i:Nat))]))->E (.ref t.zH) (some d) H')=RA;have J:∃z s' ws,v=.str z/\Txt.split z blank=s' :: ws/\z.length<=100000/\ws.length<=20/\(∀y∈ws,Q6 y/\y.length<=1000)/\((Z9 (s' :: ws)=none/\RA)∨∃row:Row,row.Ok/\s'=row.srt/\ws=row.ws/\((WE ks1 cs1 row=false/\RA)∨(UH ks1 cs1 row/\i<rs.length/\IM (kS ks1 row) (cS cs1 row) (rs.drop (i+1))/\run (kS ks1 row) (cS cs1 row) (aS as1 row) (rs.drop (i+1))=(ks,cs,as)))):=by
   have a7:∀{row:Row},row.Ok->Txt.split row.tx blank=row.srt::row.ws/\row.tx.length<=100000/\row.ws.length<=20/\∀y∈row.ws,Q6 y/\y.length<=1000:=λ{row} ok=>⟨W7 ok,MU ok,Co (X0 ok) (by decide),λy hy=>by
    obtain⟨a1,a2,_⟩:=row.plain ok y (Cu _ hy);exact⟨a1,a2⟩⟩
   by_cases hi:i<rs.length
   ·rw[CI (by rw[D1];exact hi),Ct] at hv;obtain⟨row,ag,rfl⟩:=Cv.mp hv;have ed:rs.drop i=row::rs.drop (i+1):=by rw[List.drop_eq_getElem_cons hi,(Cg.mp ag).2]
    rw[ed] at ac ru;obtain⟨ok,fi,ac⟩:=ac;obtain⟨r1,r2,r3,r4⟩:=a7 ok;exact⟨_,_,_,rfl,r1,r2,r3,r4,.inr ⟨row,ok,rfl,rfl,.inr ⟨fi,hi,ac,ru⟩⟩⟩
   ·have ei:i=rs.length:=by omega
    rw[List.drop_eq_nil_of_le (by omega)] at ru;cases ru;rw[CG (by rw[D1];omega),D1,ei,CK,Ct] at hv;obtain⟨z,hz,rfl⟩:=Cv.mp hv;have ez:∃zr,zs=z::zr:=by
     cases zs with
     | nil=>cases hz
     | cons y zr=>cases hz;exact⟨zr,rfl⟩
    obtain ⟨zr,ez⟩:=ez;obtain ⟨ak,U⟩:=qR z zr ez;rw [<-ei] at U;have U:RA:=by rw [<-a8];exact U
    cases ak with
    | word _ s' ws e h hw hl hz=>exact⟨z,s',ws,rfl,e,Co hz (by decide),hl,hw,.inl ⟨h,U⟩⟩
    | fit row ok h=>
     obtain⟨r1,r2,r3,r4⟩:=a7 ok;exact⟨_,_,_,rfl,r1,r2,r3,r4,.inr ⟨row,ok,rfl,rfl,.inl ⟨h,U⟩⟩⟩
  obtain⟨z,s',ws,rfl,sp,zl,wl,ao,J⟩:=J;have g2:=Qc hp (.tup [.int (i:Nat),.str z]);have hT:A9 K (upd H2 p (.tup [.int (i:Nat),.str z])) p [.int (i:Nat),.str z]:=AJ Qa;generalize upd H2 p (.tup [.int (i:Nat),.str z])=H3 at *;left;rw[ZG];refine⟨by trivial,z,blank,rfl,rfl,by decide,by rw[Cb];exact Co zl (by decide),by rw[sp,Cb,Cm];omega,λp2 av=>?_⟩;rw[sp];have g3:=Qc av (.lst ((s' :: ws).map V.str));have hw:A6 K (upd H3 p2 (.lst ((s' :: ws).map V.str))) p2 ((s' :: ws).map V.str):=AI Qa;generalize upd H3 p2 (.lst ((s' :: ws).map V.str))=H4 at *;left;simp only[TM,lM,Yz];left;have ar:=g.trans (g2.trans g3);refine⟨s',ws,p2,rfl,hw,wl,ao,λdvs e p3 vs H5 g4 hz aa hA=>?_,λe H5 g5=>?_⟩
  rotate_left
  ·refine⟨T.dM,λc hc=>?_⟩;left;rcases J with ⟨_,U⟩|⟨row,ok,rfl,rfl,_⟩
   ·subst a8;exact TR hc λd' H' g' x'=>U d' H' ((ar.trans g5).trans g') x'
   ·rw[VO ok] at e;cases e
  rcases J with ⟨h,_⟩|⟨row,ok,rfl,rfl,J⟩
  ·rw[h] at e;cases e
  rw[VO ok] at e;cases e;have a5:=(g2.trans g3).trans g4;have h0:IL ((row.srt::row.ws).map V.str) 0=some (.str row.srt):=QV (j:=0) rfl;obtain⟨ow,a9,a1,a2,a3,ds,qs,cvs,S⟩:=id R;have S5:=S.mono a5;left;refine MK S5.hr Rb ?_;left;refine QA (g4.seq hw) h0 ⟨_,r,p3,vs,row,ks1,cs1,as1,rfl,rfl,rfl,⟨ow,a9,a1,a2,a3,ds,qs,cvs,S5⟩,AI aa,hA,ok,⟨i,by omega,sm⟩,λH6 g6=>?_⟩;rcases J with ⟨bf,U⟩|⟨fi,hi,ac,ru⟩
  ·rw[bf];left;simp only[VL];left;subst a8;exact PU λd' H' g' x'=>U d' H' (((g.trans a5).trans g6).trans g') x'
  rw[Ph fi];left;refine MK (S5.mono g6).hr Ra ?_;left;have gg:=g.trans (a5.trans g6);refine QA ((g4.trans g6).seq hw) h0 ⟨_,H2,r,p3,vs,row,ks1,cs1,as1,rfl,rfl,rfl,R,a5.trans g6,(g2.trans g3).free hz,AI (g6 _ _ aa),⟨hA.1,λi a b h1 h2=>(hA.2 i a b h1 h2).mono g6⟩,fi,λb hb=>gg.free hb,⟨i,by omega,sm⟩,ok,λH7 sn R7=>?_⟩;exact⟨_,_,_,_,rfl,λb o h=>sn b o (λe=>by have e:H b=none:=e;rw[h] at e;cases e) (gg b o h),hi,_,_,_,R7,sm.step ok,ac,ru⟩
 ·rintro _ H2 ⟨x2,x3,x4,x5,rfl,g,hir,ks1,cs1,as1,R,sm,ac,ru⟩;rw[D0,D1,D1] at hir;have ez:zs=[]:=AO (by omega);rw[List.drop_eq_nil_of_le (by rw[D0,D1];omega)] at ru;cases ru;obtain⟨ow,a9,a1,a2,a3,ds,qs,cvs,S⟩:=id R;left;refine FL S.hr B9 ?_;left;have:=sm.k;rw[D0,D1,ez,D1] at this;exact⟨_,r,ks,cs,as,rfl,R,by simp at this;omega,λb hb=>g.free hb,λe v H' g' hO=>q ez e _ _ (g.trans g') hO,λz e d H' g' hd=>qU ez z e d _ (g.trans g') hd⟩
theorem aJ (T:Tx w K mg):GF P w K mg base 1 "_law_cell" ["_law_script","_law_k"] (Sp2M (Os K)):=by
 refine Zf T 69 ["_law_script","_law_k"] Y6 λH Q J hr h=>?_
 obtain⟨_,_,rfl,a,ns,k,rfl,rfl,U,hk,q⟩:=h;refine⟨_,(Qb (Qr (A8 Zr (pu 1) (IC K T.aB (pu 0))) (Qf (Qk (BN K (pu 0) (pu 1)))) Ql) (Qf (Qk Qd))),?_⟩;left;rw[D1];refine Qs (λc=>?_) (λc=>?_)
 ·obtain⟨n,rfl⟩:=CT hk;have hn:n<ns.length:=by omega
  refine QA U (v:=.int (ns.getD n 0)) ?_ ?_
  ·refine QV ?_;rw[Ct,D4 hn,AE,D4 hn];rfl
  ·exact q
 ·have e:ns.getD k.toNat 0=0:=by
   rw[AE,Ad (by omega)];rfl
  unfold cl at q;rw[e] at q;exact q
theorem iI (T:Tx w K mg):GF P w K mg base 1 "_law_common" ["_law_one","_law_other"] (Sp2M Ol):=by
 refine Zf T 72 ["_law_one","_law_other"] Y6 λH Q J hr h=>?_
 obtain⟨_,_,rfl,a,b,rfl,rfl,q⟩:=h;refine⟨_,(Qb (A5 0 (Qw Uv (by rfl) T.bC boot_abs (A1 (pu 0)))) (Qb (A5 1 (Qw Uv (by rfl) T.bC boot_abs (A1 (pu 1)))) (Qb (V0 AF (A8 YF (pu 1) Qd) (Qf (SM (i:=0) (j:=1) rfl J rfl rfl (by decide) rfl rfl (A3 (pu 1) (Qg Qo (pu 0) (pu 1))) rfl))) (Qf (Qk (pu 0)))))),?_⟩;left;refine⟨λm σ' H'=>∃(a' b':Int),σ'=[some (.int a'),some (.int b')]/\H'=H/\0<=a'/\0<=b'/\b'.toNat=m/\Int.gcd a' b'=Int.gcd a b,⟨_,_,_,rfl,rfl,BA a,BA b,rfl,Pb a b⟩,?_⟩;rintro m _ _ ⟨a',b',rfl,rfl,ha',hb',rfl,hg⟩;left;by_cases U:b'=0
 ·subst U;rw [DY (by simp)];have e:(Int.gcd a' 0:Int)=a':=Ug ha';rw [hg] at e;rw [<-e];exact q
 ·rw[DZ (by omega)];refine⟨λσ' H'=>∃m',m'<b'.toNat/\∃(a'' b'':Int),σ'=[some (.int a''),some (.int b'')]/\H'=_/\0<=a''/\0<=b''/\b''.toNat=m'/\Int.gcd a'' b''=Int.gcd a b,λ_ _ h=>h,?_⟩;refine⟨by omega,(a' % b').toNat,?_,b',a' % b',rfl,rfl,hb',Ci _ U,rfl,?_⟩
  ·have:=Cq a' (b:=b') (by omega);have:=Ci a' U;omega
  ·rw[Uh ha' (by omega)];exact hg
theorem iJ (T:Tx w K mg):GF P w K mg base 2 "_law_made" ["_law_top","_law_bottom"] (Sp2M Om):=by
 refine Zf T 73 ["_law_top","_law_bottom","_law_common_here"] Y6 λH Q a4 hr h=>?_
 obtain⟨_,_,rfl,t,b,rfl,rfl,U,hs,q⟩:=h;refine⟨_,(Qb (A5 2 (A7 (iI T) (A3 (pu 0) (pu 1)))) (Qb (Qr (A8 Zr (pu 1) Qd) (Qf (A5 2 (Tf GK (pu 2)))) Ql) (Qf (Qk (QY (A3 (Qg Qx (pu 0) (pu 2)) (Qg Qx (pu 1) (pu 2)))))))),?_⟩;left;refine⟨_,_,rfl,rfl,?_⟩;left;have hg:=Gs (t:=t) U;have hl:=Hw (t:=t) U;have J:UV (GH t b):=⟨hg,hs.le hl⟩
 by_cases hn:b<0
 ·rw[DZ hn];have e:-(Int.gcd t b:Int)=GH t b:=by unfold GH;rw[DZ hn]
  rw[e];refine⟨J,J,by decide,q⟩
 ·rw[DY hn];have e:(Int.gcd t b:Int)=GH t b:=by unfold GH;rw[DY hn]
  rw[e];refine⟨J,J,by decide,q⟩
inductive jN (x y:V)(H)(Q:VK):Prop
 | mk (c k:Int) (h1:x=.int c) (h2:y=.int k) (h3:0<=k/\k<=40) (h4:∀(i:Int) H',Same H H'->0<=i->i<1000000000039->Q (.int i) H'):jN x y H Q
theorem IB {i:Int}(h:0<=i)(h':i<1000000000000000)(hm:60<=m:=by decide):Bd m i:=(show Bd 60 i by unfold Bd;omega).mono hm
theorem aA (T:Tx w K mg):GF P w K mg base 1 "_law_mixed" ["_law_cell_here","_law_k"] (Sp2M jN):=by
 refine Zf T 71 ["_law_cell_here","_law_k","_law_prime"] Y6 λH Q a4 hr h=>?_
 obtain⟨_,_,rfl,c,k,rfl,rfl,hk,q⟩:=h;refine⟨_,(Qb (A5 2 (BN K (Qn (gu Qd Qd Qd Qd)) (Qg Qo (pu 1) Qd))) (Qf (Qk (Qg Qo (Qg Jg (Qg Jg (Qg Qh (Qg Qh (Qg Qo (pu 0) Qd) (Qg Jg Qd (pu 1))) Qd) (pu 2)) (pu 2)) Qd)))),?_⟩;left;refine⟨by decide,λp hp=>⟨trivial,?_⟩⟩;have g:=Qc hp (.lst [V.int 48271,V.int 16807,V.int 69621,V.int 39373]);have kp:(upd H p (.lst [V.int 48271,V.int 16807,V.int 69621,V.int 39373])) p=some (.lst [V.int 48271,V.int 16807,V.int 69621,V.int 39373]):=Qa;generalize upd H p (.lst [V.int 48271,V.int 16807,V.int 69621,V.int 39373])=H1 at *;obtain⟨v,hv,v0,v1⟩:∃v:Int,IL [V.int 48271,V.int 16807,V.int 69621,V.int 39373] (k % 4)=some (.int v)/\0<=v/\v<=100000:=by
  rcases(show k % 4=0∨k % 4=1∨k % 4=2∨k % 4=3 by omega) with e|e|e|e<;>rw[e]
  ·exact⟨48271,rfl,by decide,by decide⟩
  ·exact⟨16807,rfl,by decide,by decide⟩
  ·exact⟨69621,rfl,by decide,by decide⟩
  ·exact⟨39373,rfl,by decide,by decide⟩
 refine QA (AI kp) hv ⟨trivial,⟨IB (by decide) (by decide),IB (by omega) (by omega)⟩,?_⟩;left;have m0:=Ci c (show(1000000000039:Int)≠0 by decide);have m1:=Cq c (show 0<(1000000000039:Int) by decide);have U:Bd 60 (c % 1000000000039+7*k+3):=IB (by omega) (by omega);have J:Bd 60 v:=IB v0 (by omega);refine⟨⟨U.mono (by decide),J.mono (by decide)⟩,⟨(U.mul J).mono (by decide),J.mono (by decide)⟩,trivial,q _ _ g (Ci _ (by decide)) (Cq _ (by decide))⟩
inductive Oh (x:V)(H)(Q:VK):Prop
 | mk (c:Int) (h1:x=.int c) (h2:0<=c/\c<1000000000039) (h3:∀z:Str,Q7 z->Q (.str z) H):Oh x H Q
def abc:Str:=Str.ofString "abcdefghijklmnopqrstuvwxyz"
theorem VF:abc.length=26:=by decide
theorem BC:abc.length<=1000:=by rw[VF];decide
def Lt (z:Str):Prop:=∀c∈z.cps.toList,YY c=true
theorem BB:Lt abc:=by
 have:∀c∈abc.cps.toList,YY c=true:=by decide +kernel
 exact this
theorem LL {c:Nat}(h:YY c=true):Lt ⟨#[c]⟩:=λd hd=>by
 have hd:d∈[c]:=hd;rw[D7.mp hd];exact h
theorem Gd {a b}(ha:Lt a)(hb:Lt b):Lt (a++b):=λc hc=>by
 rw[Yy] at hc;rcases Cr.mp hc with h|h
 ·exact ha c h
 ·exact hb c h
theorem Tg (h1:1<=z.length)(h2:z.length<=8)(h:Lt z):Q7 z:=by
 show(decide (1<=z.length)&&decide (z.length<=8)&&z.cps.toList.all YY)=true;rw[Ck h1,Ck h2,C1.mpr h];rfl
theorem EM {n:Int}(h0:0<=n)(h1:n<=8):PySem.MulOk "a" n/\((Txt.mul "a" n).length:Int)=n/\Lt (Txt.mul "a" n):=by
 have e:(Str.ofString "a").length=1:=by decide
 have J:∀m:Nat,m<9->(Txt.mul "a" (m:Int)).length=m/\(Txt.mul "a" (m:Int)).cps.toList.all YY=true:=by decide +kernel
 refine⟨⟨?_,?_,?_⟩,?_⟩
 ·rw[Bool.or_eq_false_iff];exact⟨Ce (by omega),Ce (by omega)⟩
 ·intro hn _;rw[e];rcases(show n=1∨n=2∨n=3∨n=4∨n=5∨n=6∨n=7∨n=8 by omega) with rfl|rfl|rfl|rfl|rfl|rfl|rfl|rfl<;>decide
 ·intro hn _;rw[e];rcases(show n=1∨n=2∨n=3∨n=4∨n=5∨n=6∨n=7∨n=8 by omega) with rfl|rfl|rfl|rfl|rfl|rfl|rfl|rfl<;>decide
 ·obtain⟨m,rfl⟩:=CT h0;obtain⟨k1,k2⟩:=J m (by omega);exact⟨by rw[k1],C1.mp k2⟩
def o9 (c:Int)(H:Hp)(i:Nat)(σ':L2.St)(H':Hp):Prop:=∃(z:Str) (k0:Option V) (s a:Int),σ'=[some (.int c),some (.str abc),some (.int s),some (.int a),some (.str z),k0]/\H'=H/\z.length=i/\Lt z
theorem iK (T:Tx w K mg):GF P w K mg base 1 "_law_name" ["_law_cell_here"] (Sp1M Oh):=by
 refine Zf T 74 ["_law_cell_here","_law_letters","_law_size","_law_at","_law_text","_law_k"] Xk λH Q a4 hr h=>?_
 obtain⟨_,rfl,c,rfl,hc,q⟩:=h;refine⟨_,(Qb (A5 1 Qe) (Qb (A5 2 (Qg Qh Qd (Qg Qo (pu 0) Qd))) (Qb (A5 3 (Qg Qo (Qg Qx (pu 0) Qd) (pu 2))) (Qb (Qr (A8 (QM K) (Qg Qo (Qg Qx (pu 0) Qd) Qd) Qd) (Qf (Qk (Qg Qh (Qg Qh (Qg YT Qe (pu 3)) (BN K (pu 1) (Qg Qo (Qg Qx (pu 0) Qd) Qd))) (Qg YT Qe (Qg Z6 (Qg Z6 (pu 2) (pu 3)) Qd))))) Ql) (Qb (A5 4 Qe) (Qb (fh (Zc rfl T.aG (A1 (pu 2))) (GE 5) (Qf (A5 4 (Qg Qh (pu 4) (BN K (pu 1) (Qg Qo (Qg Qx (pu 0) (Qg Qh Qd (Qg YT (Qg YT Qd (pu 5)) (pu 5)))) Qd)))))) (Qf (Qk (pu 4))))))))),?_⟩;left;have s0:=Ci c (show(8:Int)≠0 by decide);have s1:=Cq c (show 0<(8:Int) by decide);have a0:=Ci (c.fdiv 8) (show 1+c % 8≠0 by omega);have a1:=Cq (c.fdiv 8) (show 0<1+c % 8 by omega);generalize c.fdiv 8 % (1+c % 8)=at' at *;have cd:∀j:Int,0<j->j<1000000->UV j:=λj h1 h2=>⟨by omega,(IB (m:=60) (by omega) (by omega)).mono (by decide)⟩
 refine⟨trivial,cd _ (by decide) (by decide),by omega,cd _ (by decide) (by decide),trivial,Qs (λ_=>?_) (λ_=>?_)⟩
 ·obtain⟨o1,l1,t1⟩:=EM a0 (show at'<=8 by omega);obtain⟨o2,l2,t2⟩:=EM (n:=1+c % 8-at'-1) (by omega) (by omega);refine⟨o1,cd _ (by decide) (by decide),trivial,?_⟩;have d0:=Ci (c.fdiv 128) (show(26:Int)≠0 by decide);have d1:=Cq (c.fdiv 128) (show 0<(26:Int) by decide);refine FC (z:=abc) BC d0 (by rw[VF];exact d1) λU J=>?_
  have hy:(⟨#[U]⟩:Str).length=1:=rfl;left;refine⟨Qq (by omega),o2,?_⟩;left;exact⟨Qq (by rw[Qu];omega),q _ (Tg (by rw[Qu,Qu];omega) (by rw[Qu,Qu];omega) (Gd (Gd t1 (LL (BB _ J))) t2))⟩
 ·refine⟨by omega,by omega,Hz (o9 c H) ⟨"",none,_,_,rfl,rfl,rfl,λc hc=>by cases hc⟩ ?_ ?_⟩
  ·rintro i _ H2 hi ⟨z,k0,s,a,rfl,rfl,hz,hlt⟩;have a6:i<8:=by omega
   have a5:(0:Int)<=27*(0+(i:Int))*(0+(i:Int))/\27*(0+(i:Int))*(0+(i:Int))<=10000:=by
    rcases(show i=0∨i=1∨i=2∨i=3∨i=4∨i=5∨i=6∨i=7 by omega) with rfl|rfl|rfl|rfl|rfl|rfl|rfl|rfl<;>decide
   left;refine⟨⟨IB (by decide) (by decide),IB (by omega) (by omega)⟩,⟨IB (by omega) (by omega),IB (by omega) (by omega)⟩,?_⟩;generalize 27*(0+(i:Int))*(0+(i:Int))=ii at *;left;have d0:=Ci (c.fdiv (128+ii)) (show(26:Int)≠0 by decide);have d1:=Cq (c.fdiv (128+ii)) (show 0<(26:Int) by decide);refine⟨cd _ (by omega) (by omega),trivial,FC (z:=abc) BC d0 (by rw[VF];exact d1) λU J=>?_⟩;have hy:(⟨#[U]⟩:Str).length=1:=rfl;left;exact⟨Qq (by omega),z++⟨#[U]⟩,_,_,_,rfl,rfl,by rw[Qu];omega,Gd hlt (LL (BB _ J))⟩
  ·rintro _ H2 ⟨z,k0,s,a,rfl,rfl,hz,hlt⟩;left;exact q _ (Tg (by omega) (by omega) hlt)
inductive Od (K:W.Frag)(x y:V)(H)(Q:VK):Prop
 | mk (c k:Int) (h1:x=.int c) (h2:y=.int k) (h3:0<=k/\k<=2) (h4:∀p r s H',Same H H'->ZH r s->H' p=some (.tup [.int r,.int s])->Q (.ref p) H'):Od K x y H Q
theorem Wu {a}(i:Int):∃v,IL [a,b] (i % 2)=some v/\(v=a∨v=b):=by
 rcases(show i % 2=0∨i % 2=1 by omega) with e|e<;>rw[e]
 ·exact⟨a,rfl,.inl rfl⟩
 ·exact⟨b,rfl,.inr rfl⟩
theorem Te {a}(i:Int):∃v,IL [a,b,c] (i % 3)=some v/\(v=a∨v=b∨v=c):=by
 rcases(show i % 3=0∨i % 3=1∨i % 3=2 by omega) with e|e|e<;>rw[e]
 ·exact⟨a,rfl,.inl rfl⟩
 ·exact⟨b,rfl,.inr (.inl rfl)⟩
 ·exact⟨c,rfl,.inr (.inr rfl)⟩
theorem NL {t b:Int}(h0:0<=t)(h1:t<=9999)(h2:1<=b)(h3:b<=9999):ZH (XY t b) (XZ t b):=by
 have J:b≠0:=by omega
 have n1:=Pf (t:=t) J;have n2:=Pj (t:=t) J;have p:=L4 (t:=t) J;have U:0<=XY t b:=by
  have e:=Pk (t:=t) J;have h:0<=XY t b*b:=by rw[e];exact Int.mul_nonneg h0 (by omega)
  exact Int.nonneg_of_mul_nonneg_left h (by omega)
 exact⟨U,by omega,by omega,by omega,L6 J⟩
theorem aO (T:Tx w K mg):GF P w K mg base 3 "_law_rate" ["_law_cell_here","_law_k"] (Sp2M (Od K)):=by
 refine Zf T 75 ["_law_cell_here","_law_k","_law_top"] Y6 λH Q ag hr h=>?_
 obtain⟨_,_,rfl,c,k,rfl,rfl,hk,q⟩:=h;refine⟨_,(Qb (A5 2 (Qg Qo (A7 (aA T) (A3 (pu 0) (pu 1))) (BN K (Qn (A3 Qd Qd)) (Qg Qo (A7 (aA T) (A3 (pu 0) Qd)) Qd)))) (Qf (Qk (A7 (iJ T) (A3 (pu 2) (Qg Qh Qd (Qg Qo (A7 (aA T) (A3 (pu 0) (Qg Qh (pu 1) Qd))) (BN K (Qn (A3 Qd Qd)) (Qg Qo (A7 (aA T) (A3 (pu 0) Qd)) Qd))))))))),?_⟩;left;refine⟨c,k,rfl,rfl,by omega,λm1 H1 g1 au aq=>?_⟩;left;refine⟨by decide,λp1 a8=>⟨c,3,rfl,rfl,by omega,λm2 H2 g2 ai ar=>?_⟩⟩;have ae:=(g1.trans (Qc a8 _)).trans g2;have k1:=g2 _ _ (Qa (H:=H1) (a:=p1) (o:=.lst [.int 40,.int 10000]));left;obtain⟨v1,a6,J⟩:=Wu (a:=.int 40) (b:=.int 10000) m2;obtain⟨w1,rfl,U,ak⟩:∃w:Int,v1=.int w/\0<w/\w<=10000:=by rcases J with rfl|rfl;exact⟨_,rfl,by decide,by decide⟩;exact⟨_,rfl,by decide,by decide⟩
 refine⟨trivial,QA (AI k1) a6 ?_⟩;left;have t0:=Ci m1 (show w1≠0 by omega);have t1:=Cq m1 U;refine⟨U,c,k+1,rfl,rfl,by omega,λm3 H3 g3 ah ao=>?_⟩;generalize m1 % w1=top at *;left;refine⟨by decide,λp2 aa=>⟨c,3,rfl,rfl,by omega,λm4 H4 g4 av af=>?_⟩⟩;have a9:=((ae.trans g3).trans (Qc aa _)).trans g4;have k2:=g4 _ _ (Qa (H:=H3) (a:=p2) (o:=.lst [.int 12,.int 9999]));left;obtain⟨v2,a7,a4⟩:=Wu (a:=.int 12) (b:=.int 9999) m4;obtain⟨w2,rfl,a5,aj⟩:∃w:Int,v2=.int w/\0<w/\w<=9999:=by rcases a4 with rfl|rfl;exact⟨_,rfl,by decide,by decide⟩;exact⟨_,rfl,by decide,by decide⟩
 refine⟨trivial,QA (AI k2) a7 ?_⟩;left;have b0:=Ci m3 (show w2≠0 by omega);have b1:=Cq m3 a5;generalize m3 % w2=bot at *;refine⟨a5,top,1+bot,rfl,rfl,by omega,(IB (m:=60) (by omega) (by omega)).mono (by decide),λp hp=>?_⟩;exact q _ _ _ _ (a9.trans (Qc hp _)) (NL t0 (by omega) (by omega) (by omega)) Qa
inductive jI (K)(x:V)(H)(Q:VK):Prop
 | mk (p:Addr) (r s:Int) (h1:x=.ref p) (h2:A9 K H p [.int r,.int s]) (h3:ZH r s) (h4:Q (.str (Zb r s)) H):jI K x H Q
theorem iL (T:Tx w K mg):GF P w K mg base 1 "_law_shown" ["_law_rate_here"] (Sp1M (jI K)):=by
 refine Zf T 76 ["_law_rate_here"] Xk λH Q U hr h=>?_
 obtain⟨_,rfl,p,r,s',rfl,hT,ok,q⟩:=h;refine⟨_,(Qb (Qr (A8 (QM K) (BM K 0) Qd) (Qf (Qk (Qv Zd (by rfl) T.aH boot_str (A1 (BM K 0))))) Ql) (Qf (Qk (Qg Qh (Qg Qh (Qv Zd (by rfl) T.aH boot_str (A1 (BM K 0))) Qe) (Qv Zd (by rfl) T.aH boot_str (A1 (BM K 0))))))),?_⟩;obtain⟨J,r1,s0,s1,_⟩:=ok;have l1:(nt r).length<=100:=len_num J (by omega);have l2:(nt s').length<=100:=len_num (n:=s') (by omega) (by omega);unfold Zb at q;left;refine Qs (λe=>?_) (λe=>?_)
 ·rw[DZ e] at q;left;exact .inl ⟨r,rfl,Xf J (by omega),q⟩
 ·rw[DY e] at q;left;refine .inl ⟨r,rfl,Xf J (by omega),?_⟩;left;rw[M6];refine⟨Qq (by show(nt r).length+1<=1000;omega),?_⟩;left;refine .inl ⟨s',rfl,Xf (by omega) (by omega),?_⟩;left;exact⟨Qq (show(Str.ofString (toString r)++sla).length+(nt s').length<=1000 by rw[Qu];show(nt r).length+1+(nt s').length<=1000;omega),q⟩
inductive Ov (K:W.Frag)(x:V)(H)(Q:VK):Prop
 | mk (c:Int) (h1:x=.int c) (h4:∀p l h H',Same H H'->WC l h->H' p=some (.tup [.int l,.int h])->Q (.ref p) H'):Ov K x H Q
theorem bB (T:Tx w K mg):GF P w K mg base 2 "_law_ages" ["_law_cell_here"] (Sp1M (Ov K)):=by
 refine Zf T 77 ["_law_cell_here","_law_low"] Xk λH Q a4 hr h=>?_
 obtain⟨_,rfl,c,rfl,q⟩:=h;refine⟨_,(Qb (A5 1 (Qg Qo (A7 (aA T) (A3 (pu 0) Qd)) Qd)) (Qf (Qk (QY (A3 (pu 1) (Qg Qh (pu 1) (Qg Qo (A7 (aA T) (A3 (pu 0) Qd)) (Qg Z6 Qd (pu 1))))))))),?_⟩;left;refine⟨c,1,rfl,rfl,by omega,λJ H1 g1 a7 a8=>?_⟩;left;have t0:=Ci J (show(151:Int)≠0 by decide);have t1:=Cq J (show(0:Int)<151 by decide);generalize J % 151=low at *;refine⟨trivial,c,2,rfl,rfl,by omega,λU H3 g3 a5 a6=>?_⟩;left;have d0:=Ci U (show(151-low:Int)≠0 by omega);have d1:=Cq U (show(0:Int)<151-low by omega);exact⟨by omega,by decide,λp hp=>q _ _ _ _ ((g1.trans g3).trans (Qc hp _)) ⟨t0,by omega,by omega⟩ Qa⟩
inductive LIt (K)(H):Itm->V->Prop
 | base (a:Int) (x:Addr) (h:A9 K H x [.str (q_ "base"),.int a]):LIt K H (.base a) (.ref x)
 | each (a l h':Int) (x:Addr) (h:A9 K H x [.str (q_ "each"),.int a,.int l,.int h']):LIt K H (.each a l h') (.ref x)
 | rent (r s m:Int) (x p:Addr) (h:A9 K H x [.str (q_ "rent"),.ref p,.int m]) (hp:A9 K H p [.int r,.int s]):LIt K H (.rent r s m) (.ref x)
 | from' (n l h':Int) (x:Addr) (h:A9 K H x [.str (q_ "from"),.int n,.int l,.int h']):LIt K H (.term false n l h') (.ref x)
 | upto (n l h':Int) (x:Addr) (h:A9 K H x [.str (q_ "upto"),.int n,.int l,.int h']):LIt K H (.term true n l h') (.ref x)
 | pay (r s l h':Int) (x p:Addr) (h:A9 K H x [.ref p,.int l,.int h']) (hp:A9 K H p [.int r,.int s]):LIt K H (.pay r s l h') (.ref x)
 | cnt (z:Str) (r s:Int) (x p:Addr) (h:A9 K H x [.str z,.ref p]) (hp:A9 K H p [.int r,.int s]):LIt K H (.cnt z r s) (.ref x)
 | off (l r s:Int) (x p:Addr) (h:A9 K H x [.int l,.ref p]) (hp:A9 K H p [.int r,.int s]):LIt K H (.off l r s) (.ref x)
 | unt (a:Int):LIt K H (.unt a) (.int a)
 | rnd (u:Int) (z:Str) (x:Addr) (h:A9 K H x [.int u,.str z]):LIt K H (.rnd u z) (.ref x)
theorem LIt.kp (g:Kp N H H'){x}{v}(h:LIt K H x v):LIt K H' x v:=by
 cases h with
 | base a x h=>exact .base a x (g.sqT h)
 | each a l h' x h=>exact .each a l h' x (g.sqT h)
 | rent r s m x p h hp=>exact .rent r s m x p (g.sqT h) (g.sqT hp)
 | from' n l h' x h=>exact .from' n l h' x (g.sqT h)
 | upto n l h' x h=>exact .upto n l h' x (g.sqT h)
 | pay r s l h' x p h hp=>exact .pay r s l h' x p (g.sqT h) (g.sqT hp)
 | cnt z r s x p h hp=>exact .cnt z r s x p (g.sqT h) (g.sqT hp)
 | off l r s x p h hp=>exact .off l r s x p (g.sqT h) (g.sqT hp)
 | unt a=>exact .unt a
 | rnd u z x h=>exact .rnd u z x (g.sqT h)
theorem Yk (g:Kp N H H'){xs}{vs}(h:All2 (LIt K H) xs vs):All2 (LIt K H') xs vs:=⟨h.1,λi a b ha hb=>(h.2 i a b ha hb).kp g⟩
inductive Oe (K)(x:V)(H)(Q:VK):Prop
 | mk (c:Int) (h1:x=.int c) (h2:∀x' v H',Same H H'->x'.Ok->x'.sl=0->LIt K H' x' v->Q v H'):Oe K x H Q
theorem bT (T:Tx w K mg):GF P w K mg base 4 "_law_part" ["_law_cell_here"] (Sp1M (Oe K)):=by
 refine Zf T 79 ["_law_cell_here","_law_amount","_law_low","_law_high","_law_way"] Xk λH Q ae hr h=>?_
 obtain⟨_,rfl,c,rfl,q⟩:=h;refine⟨_,(Qb (A5 1 (Qg Qo (A7 (aA T) (A3 (pu 0) Qd)) (BN K (Qn (A3 Qd (Qg Qh (Qg XM Qd Qd) Qd))) (Qg Qo (A7 (aA T) (A3 (pu 0) Qd)) Qd)))) (Qb (Vc (A7 (bB T) (A1 (pu 0))) (jm (n:=2) K rfl rfl (QR (GE 2) (QR (GE 3) Xd)))) (Qb (A5 4 (Qg Qo (Qg Qx (A7 (aA T) (A3 (pu 0) Qd)) Qd) Qd)) (Qb (Qr (A8 (QM K) (pu 4) Qd) (Qf (Qk (QY (A3 Qe (pu 1))))) Ql) (Qb (Qr (A8 (QM K) (pu 4) Qd) (Qf (Qk (QY (gu Qe (pu 1) (pu 2) (pu 3))))) Ql) (Qf (Qk (QY (IZ Qe (A7 (aO T) (A3 (pu 0) Qd)) (pu 1)))))))))),?_⟩;left;refine⟨c,3,rfl,rfl,by omega,λm1 H1 g1 aj ah=>?_⟩;left;refine⟨by unfold VJ;decide,by decide,λp1 a9=>⟨c,0,rfl,rfl,by omega,λm2 H2 g2 af ai=>?_⟩⟩;have k1:=g2 _ _ (Qa (H:=H1) (a:=p1) (o:=.lst [.int 60,.int (10 ^ Int.toNat 9+1)]));have a8:=(g1.trans (Qc a9 _)).trans g2;left;obtain⟨v1,a7,a4⟩:=Wu (a:=.int 60) (b:=.int (10 ^ Int.toNat 9+1)) m2;obtain⟨w1,rfl,a5,ag⟩:∃w:Int,v1=.int w/\0<w/\w<=1000000001:=by rcases a4 with rfl|rfl;exact⟨_,rfl,by decide,by decide⟩;exact⟨_,rfl,by decide,by decide⟩
 refine⟨trivial,QA (AI k1) a7 ?_⟩;left;have hn:Zg (m1 % w1):=⟨Ci m1 (by omega),by have:=Cq m1 a5;omega⟩
 generalize m1 % w1=n at *;refine⟨a5,c,rfl,λp l h' H3 g3 ha hp=>?_⟩;have hT:=AJ (K:=K) hp;left;refine⟨c,0,rfl,rfl,by omega,λm H4 g4 m0 m1=>?_⟩;have U:=(a8.trans g3).trans g4;left;refine⟨⟨by decide,(IB (m:=60) (by decide) (by decide)).mono (by decide)⟩,trivial,Qs (λ_=>?_) (λ_=>Qs (λ_=>?_) (λ_=>?_))⟩
 ·exact⟨by decide,λp4 J=>q (.base n) _ _ (U.trans (Qc J _)) hn rfl (.base n p4 (AJ Qa))⟩
 ·exact⟨by decide,λp4 J=>q (.each n l h') _ _ (U.trans (Qc J _)) ⟨hn,ha⟩ rfl (.each n l h' p4 (AJ Qa))⟩
 ·refine⟨c,0,rfl,rfl,by omega,λp5 r s' H4 g4 a6 aa=>?_⟩;left;exact⟨by decide,λp4 J=>q (.rent r s' n) _ _ ((U.trans g4).trans (Qc J _)) ⟨a6,hn⟩ rfl (.rent r s' n p4 p5 (AJ Qa) ((Qc J _).sqT (AJ aa)))⟩
inductive Oa (K)(x:V)(H)(Q:VK):Prop
 | mk (c:Int) (h1:x=.int c) (h2:∀x' v H',Same H H'->x'.Ok->x'.sl=1->LIt K H' x' v->Q v H'):Oa K x H Q
theorem bU (T:Tx w K mg):GF P w K mg base 3 "_law_term" ["_law_cell_here"] (Sp1M (Oa K)):=by
 refine Zf T 80 ["_law_cell_here","_law_low","_law_high"] Xk λH Q a7 hr h=>?_
 obtain⟨_,rfl,c,rfl,q⟩:=h;refine⟨_,(Qb (Vc (A7 (bB T) (A1 (pu 0))) (jm (n:=2) K rfl rfl (QR (GE 1) (QR (GE 2) Xd)))) (Qf (Qk (QY (gu (BN K (Qn (A3 Qe Qe)) (Qg Qo (A7 (aA T) (A3 (pu 0) Qd)) Qd)) (Qg Qo (A7 (aA T) (A3 (pu 0) Qd)) Qd) (pu 1) (pu 2)))))),?_⟩;left;refine⟨c,rfl,λp l h' H2 g2 ha hp=>?_⟩;have hT:=AJ (K:=K) hp;left;refine⟨by decide,λp1 a5=>⟨c,0,rfl,rfl,by omega,λm2 H5 g5 _ _=>?_⟩⟩;have k1:=g5 _ _ (Qa (H:=H2) (a:=p1) (o:=.lst [.str "from",.str "upto"]));have g6:=(g2.trans (Qc a5 _)).trans g5;left;obtain⟨v1,a4,J⟩:=Wu (a:=.str "from") (b:=.str "upto") m2;refine⟨trivial,QA (AI k1) a4 ⟨c,3,rfl,rfl,by omega,λU H6 g7 _ _=>?_⟩⟩;left;have d0:=Ci U (show(61:Int)≠0 by decide);have d1:=Cq U (show(0:Int)<61 by decide);refine⟨trivial,by decide,λp2 a6=>?_⟩;have g8:=(g6.trans g7).trans (Qc a6 (.tup [v1,.int (U % 61),.int l,.int h']));rcases J with rfl|rfl
 ·exact q (.term false (U % 61) l h') _ _ g8 ⟨⟨d0,by omega⟩,ha⟩ rfl (.from' _ l h' p2 (AJ Qa))
 ·exact q (.term true (U % 61) l h') _ _ g8 ⟨⟨d0,by omega⟩,ha⟩ rfl (.upto _ l h' p2 (AJ Qa))
def Wv (K:W.Frag)(H:Hp)(z:Str)(v:V):Prop:=(v=.str z∨(∃n,v=.int n/\Zg n/\z=nt n)∨∃p r s,v=.ref p/\A9 K H p [.int r,.int s]/\ZH r s/\z=Zb r s)/\z.length<=1000
inductive IR (K)(x:V)(H)(Q:VK):Prop
 | mk (a:Addr) (vs:List V) (zs:List Str) (h1:x=.ref a) (h2:A9 K H a vs) (h3:All2 (Wv K H) zs vs) (h4:zs.length<=20) (h5:∀H',Same H H'->Q (.str (Txt.join blank zs)) H'):IR K x H Q
def nR (a l:Addr)(zs:List Str)(H:Hp)(i:Nat)(σ':L2.St)(H':Hp):Prop:=∃x2,σ'=[some (.ref a),some (.ref l),x2]/\Same H H'/\H l=none/\H' l=some (.lst ((zs.take i).map V.str))
theorem aK (T:Tx w K mg):GF P w K mg base 2 "_law_words" ["_law_row"] (Sp1M (IR K)):=by
 refine Zf T 81 ["_law_row","_law_words_here","_law_one"] Xk λH Q a6 hr h=>?_
 obtain⟨_,rfl,a,vs,zs,rfl,hT,hA,hn,q⟩:=h;refine⟨_,(Qb (A5 1 (Qn Qz)) (Qb (fh (DE K rfl (pu 0)) (GE 2) (Qf (Qr (Z5 (Qw (LP K rfl) (by rfl) T.aD boot_isinstance (A3 (pu 2) (V2 T.bE boot_tuple)))) (Qf (QH (QE K rfl CJ CM CO Qy (pu 1) (A1 (A7 (iL T) (A1 (pu 2))))))) (Qf (QH (QE K rfl CJ CM CO Qy (pu 1) (A1 (Qv Zd (by rfl) T.aH boot_str (A1 (pu 2)))))))))) (Qf (Qk (QE K rfl AN PySem.F.slot_str_join PySem.F.type_str_join (Nb K rfl) Qe (A1 (pu 1))))))),?_⟩;left;refine⟨by decide,λl J=>?_⟩;have g1:=Qc J (.lst []);have a4:=Qa (H:=H) (a:=l) (o:=.lst []);generalize upd H l (.lst [])=H1 at *;left;have a8:=hA.1;refine⟨a,rfl,⟨_,g1.sqT hT⟩,Pe (xs:=vs) (nR a l zs H) ⟨none,rfl,g1,J,a4⟩ (λi σ' H' _ h=>by obtain⟨_,_,g',_⟩:=h;exact g'.sqT hT) ?_ ?_⟩
 ·rintro i v _ H2 hv ⟨x2,rfl,g,_,hl2⟩;obtain⟨z,hz,U,a7⟩:=hA.getV hv;have hi:i<vs.length:=Z0 hv;have st:(zs.take (i+1)).map V.str=(zs.take i).map V.str++[V.str z]:=by rw[CS,hz,D9];rfl
  have ln:((zs.take i).map V.str).length<sizeLine:=by rw[D1,CC,Cb];omega
  have fin:∀x:V,nR a l zs H (i+1) [some (.ref a),some (.ref l),some x] (upd H2 l (.lst ((zs.take i).map V.str++[.str z]))):=λx=>⟨_,rfl,λb o h=>by rw[Qj (Qi h J)];exact g _ _ h,J,by rw[Qa,st]⟩
  rcases U with rfl|⟨n,rfl,hn',rfl⟩|⟨p,r,s',rfl,hp,ok,rfl⟩
  ·left;refine W3 (.str z) (by rfl) ?_;left;exact⟨.inl ⟨rfl,_,AI hl2⟩,.inr ⟨z,rfl,l,_,_,rfl,rfl,hl2,ln,fin _⟩⟩
  ·left;exact⟨.inl ⟨rfl,_,AI hl2⟩,.inl ⟨n,rfl,Xf hn'.1 (by have:=hn'.2;omega),l,_,_,rfl,rfl,hl2,ln,fin _⟩⟩
  ·have a5:=g.sqT hp;left;exact⟨.inl ⟨rfl,_,AI hl2⟩,p,r,s',rfl,a5,ok,l,_,_,rfl,rfl,hl2,ln,fin _⟩
 ·rintro _ H2 ⟨x2,rfl,g,_,hl2⟩;rw[CH (by omega)] at hl2;left;rw[ZG];refine⟨by trivial,blank,l,zs,rfl,rfl,AI hl2,?_,q _ g⟩;have:∀l:List Str,(∀z∈l,z.length<=1000)->(l.map (·.length)).sum<=l.length*1000:=by
   intro l
   induction l with
   | nil=>simp
   | cons x l ih=>
    intro h;have h1:=h x Cw;have h2:=ih λy hy=>h y (Cu _ hy)
    simp only[CQ,List.sum_cons,Cm];omega
  have h1:=this zs λz hz=>by
   obtain⟨k,hk⟩:=List.getElem?_of_mem hz;obtain⟨v,_,U⟩:=hA.get hk;exact U.2
  have h2:blank.length=1:=rfl;rw[h2];omega
def Tz (xs:List Itm)(n:Int):Prop:=(xs=[]->0<=n/\n<100000000)/\∀y,xs.getLast?=some y->IV y<n/\n<=IV y+100000000
inductive jO (K)(x y:V)(H)(Q:VK):Prop
 | mk (a:Addr) (c:Int) (xs:List Itm) (vs:List V) (h1:x=.ref a) (h2:y=.int c) (h3:A6 K H a vs) (h4:All2 (LIt K H) xs vs) (h5:∀x∈xs,x.sl=4) (h6:∀n H',Same H H'->Tz xs n->Q (.int n) H'):jO K x y H Q
theorem Nc {l r s:Int}(h:LIt K H (.off l r s) v):∃x p,v=.ref x/\A9 K H x [.int l,.ref p]/\A9 K H p [.int r,.int s]:=by
 cases h with|off _ _ _ x p h hp=>exact⟨x,p,rfl,h,hp⟩
theorem RQ {r s:Int}(h:LIt K H (.cnt z r s) v):∃x p,v=.ref x/\A9 K H x [.str z,.ref p]/\A9 K H p [.int r,.int s]:=by
 cases h with|cnt _ _ _ x p h hp=>exact⟨x,p,rfl,h,hp⟩
theorem Yd (h1:A6 K H p vs)(h2:A6 K H r [])(q:Q (.bl vs.isEmpty) H):Ef K (.ref p) (.ref r) H Q:=by
 cases vs with
 | nil=>
  have r1:Rep K H (.lst []) (.ref p):=.lst h1 rfl λi d x e _=>by simp at e
  have r2:Rep K H (.lst []) (.ref r):=.lst h2 rfl λi d x e _=>by simp at e
  have J:DB 30 (.lst []):=.lst λd U=>by cases U
  exact .inl (PV r1 r2 J ⟨λ_=>rfl,λ_=>rfl⟩ q)
 | cons v r'=>exact .inr ⟨p,r,_,_,rfl,rfl,h1,h2,by simp,q⟩
theorem bV (T:Tx w K mg):GF P w K mg base 2 "_law_limit" ["_law_offs_here","_law_cell_here"] (Sp2M (jO K)):=by
 refine Zf T 82 ["_law_offs_here","_law_cell_here","_law_step"] Y6 λH Q af hr h=>?_
 obtain⟨_,_,rfl,a,c,xs,vs,rfl,rfl,hL,hA,hx,q⟩:=h;refine⟨_,(Qb (A5 2 (Qg Qh Qd (Qg Qo (A7 (aA T) (A3 (pu 1) Qd)) (BN K (Qn (IZ Qd (Qg XM Qd Qd) (Qg XM Qd Qd))) (Qg Qo (A7 (aA T) (A3 (pu 1) Qd)) Qd))))) (Qb (Qr (A8 (JX K) (pu 0) (Qn Qz)) (Qf (Qk (Qg Z6 (pu 2) Qd))) Ql) (Qf (Qk (Qg Qh (BN K (BN K (pu 0) Ia) Qd) (pu 2)))))),?_⟩;left;refine⟨c,1,rfl,rfl,by omega,λm1 H1 g1 a1 b1=>?_⟩;left;refine⟨by unfold VJ;decide,by unfold VJ;decide,by decide,λp1 a8=>⟨c,2,rfl,rfl,by omega,λm2 H2 g2 a2 b2=>?_⟩⟩;have k1:=g2 _ _ (Qa (H:=H1) (a:=p1) (o:=.lst [.int 3,.int (10 ^ Int.toNat 4),.int (10 ^ Int.toNat 8)]));have a9:=(g1.trans (Qc a8 _)).trans g2;left;obtain⟨v1,a6,a4⟩:=Te (a:=.int 3) (b:=.int (10 ^ Int.toNat 4)) (c:=.int (10 ^ Int.toNat 8)) m2;obtain⟨w1,rfl,a5,ag⟩:∃w:Int,v1=.int w/\0<w/\w<=100000000:=by
  rcases a4 with rfl|rfl|rfl
  ·exact⟨_,rfl,by decide,by decide⟩
  ·exact⟨_,rfl,by decide,by decide⟩
  ·exact⟨_,rfl,by decide,by decide⟩
 refine⟨trivial,QA (AI k1) a6 ?_⟩;left;have d0:=Ci m1 (show(w1:Int)≠0 by omega);have d1:=Cq m1 a5;refine⟨a5,by decide,λp2 ae=>?_⟩;generalize m1 % w1=st at *;have J:=a9.trans (Qc ae (.lst []));refine Yd (J.seq hL) (AI Qa) ?_;left;rcases List.eq_nil_or_concat vs with rfl|⟨w0,v,rfl⟩
 ·refine Qs (λ_=>?_) (λe=>absurd rfl e);have ex:xs=[]:=AO hA.1;exact q _ _ J ⟨λ_=>by omega,λy U=>by rw[ex] at U;cases U⟩
 ·rw[List.concat_eq_append] at *;refine Qs (λe=>absurd e (by simp)) (λ_=>?_);obtain⟨y,U,hP⟩:=hA.getV (i:=w0.length) (v:=v) (by rw[CG (D2 _),CK];rfl);have aa:=hx y (C6 U);obtain⟨l2,r2,s2,rfl⟩:=YA aa;obtain⟨p,p3,rfl,hT,_⟩:=Nc hP;have el:xs.getLast?=some (.off l2 r2 s2):=by
   have a7:xs.length=w0.length+1:=by rw[hA.1,D0];rfl
   rw[List.getLast?_eq_getElem?,a7];exact U
  refine QA (J.seq hL) (Q5 _ _) (Zq (J.sqT hT) rfl ?_);left;refine q _ _ J ⟨λe=>(by rw[e] at el;cases el),λy U=>?_⟩;rw[el] at U;cases U;show l2<_/\_<=l2+_;omega
theorem Ut (K){X}(h:X.K=K):OpR X (binaryOp .Add) (VX K):=by subst h;exact RJ
structure KL (K:W.Frag)(H:Hp)(p:Addr)(z:Str)(xs:List Itm)(q:Nat->Addr):Prop where
 hp:H p=some (.tup [.str z,.ref (q 0),.ref (q 1),.ref (q 2),.ref (q 3),.ref (q 4),.ref (q 5),.ref (q 6)])
 hq:∀j<7,∃vs,H (q j)=some (.lst vs)/\All2 (LIt K H) (xs.filter λx=>decide (x.sl=j)) vs
theorem KL.mono (g:Same H H')(h:KL K H p z xs q):KL K H' p z xs q:=by
 refine⟨g _ _ h.hp,λj J=>?_⟩;obtain⟨vs,h1,h2⟩:=h.hq j J;exact⟨vs,g _ _ h1,Yk (N:=λ_=>True) (.of g) h2⟩
theorem KL.upd {c}{ws}{o}(h:KL K H p z xs q)(hc:H c=some (.lst ws))(hn:∀j<7,q j≠c):KL K (L2.upd H c o) p z xs q:=by
 have g:=QZ (N:=λb=>b≠c) (o:=o) hc λb h=>h
 refine⟨g _ _ h.hp (.inr λvs e=>nomatch e),λj J=>?_⟩;obtain⟨vs,h1,h2⟩:=h.hq j J;exact⟨vs,g _ _ h1 (.inl (hn j J)),Yk g h2⟩
theorem KL.add {x}(h:KL K H p z xs q)(hc:H (q x.sl)=some (.lst vs))(hinj:∀i<7,∀j<7,q i=q j->i=j)(hv:LIt K H x v):KL K (L2.upd H (q x.sl) (.lst (vs++[v]))) p z (xs++[x]) q:=by
 have g:=QZ (N:=λb=>b≠q x.sl) (o:=.lst (vs++[v])) hc λb h=>h
 refine⟨g _ _ h.hp (.inr λvs e=>nomatch e),λj hj=>?_⟩;obtain⟨us,h1,h2⟩:=h.hq j hj;rw[Av];by_cases e:x.sl=j
 ·subst e;rw[hc] at h1;cases h1;refine⟨_,Qa,?_⟩;rw[show[x].filter (λy=>decide (y.sl=x.sl))=[x] by simp];have h3:=Yk g h2;have hl:=h3.1;refine⟨by rw[D0,D0,hl];rfl,λi a b U J=>?_⟩;by_cases hi:i<vs.length
  ·rw[CI (by omega)] at U;rw[CI hi] at J;exact h3.2 i a b U J
  ·have a4:i<(vs++[v]).length:=(Cg.mp J).1;rw[D0,D6] at a4;have:i=vs.length:=by omega
   subst this;rw[CG (by omega),hl,CK] at U;rw[CG (D2 _),CK] at J;cases U;cases J;exact hv.kp g
 ·refine⟨us,g _ _ h1 (.inl λe2=>e (hinj _ (Xb x) _ hj e2.symm)),?_⟩;rw[show[x].filter (λy=>decide (y.sl=j))=[] by simp[e],Cs];exact Yk g h2
theorem mH (a b):Txt.join blank [a,b]=a++blank++b:=StrLaws.glued_eq_join blank [a,b]
theorem mG (a b c):Txt.join blank [a,b,c]=a++blank++(b++blank++c):=StrLaws.glued_eq_join blank [a,b,c]
theorem KP (h:z.length<=1000):Wv K H z (.str z):=⟨.inl rfl,h⟩
theorem Yr {n:Int}(h:Zg n):Wv K H (nt n) (.int n):=⟨.inr (.inl ⟨n,rfl,h,rfl⟩),(Q3 h).2.1⟩
theorem MP {r s:Int}(h:ZH r s)(hp:A9 K H p [.int r,.int s]):Wv K H (Zb r s) (.ref p):=⟨.inr (.inr ⟨p,r,s,rfl,hp,h,rfl⟩),(ZT h).2.1⟩
theorem Z1 {R:α->V->Prop}:All2 R [] []:=⟨rfl,λi a b h=>by simp at h⟩
theorem QB {R:α->V->Prop}{a:α}{l:List α}(h:R a v)(t:All2 R l vs):All2 R (a::l) (v::vs):=⟨by rw[Cm,Cm,t.1],λi=>by
 cases i with
 | zero=>intro x y U J;cases U;cases J;exact h
 | succ j=>intro x y U J;exact t.2 j x y (by simpa using U) (by simpa using J)⟩
theorem ZR {l h:Int}(a:WC l h):Zg l/\Zg h:=⟨⟨a.1,by have:=a.2;omega⟩,⟨by have:=a;unfold WC at this;omega,by have:=a.2;omega⟩⟩
theorem Gg {x}(h:LIt K H x v)(ok:x.Ok)(hs:x.sl=0∨x.sl=1):∃a us,v=.ref a/\A9 K H a us/\All2 (Wv K H) (x.srt::x.ws) us:=by
 cases h with
 | base n a h=>exact⟨a,_,rfl,h,QB (KP (Q4 _ (Z4 (.itm _))).2.1) (QB (Yr ok) Z1)⟩
 | each n l h' a h=>exact⟨a,_,rfl,h,QB (KP (Q4 _ (Z4 (.itm _))).2.1) (QB (Yr ok.1) (QB (Yr (ZR ok.2).1) (QB (Yr (ZR ok.2).2) Z1)))⟩
 | rent r s m a p h hp=>exact⟨a,_,rfl,h,QB (KP (Q4 _ (Z4 (.itm _))).2.1) (QB (MP ok.1 hp) (QB (Yr ok.2) Z1))⟩
 | from' n l h' a h=>exact⟨a,_,rfl,h,QB (KP (Q4 _ (Z4 (.itm _))).2.1) (QB (Yr ⟨ok.1.1,by have:=ok.1.2;omega⟩) (QB (Yr (ZR ok.2).1) (QB (Yr (ZR ok.2).2) Z1)))⟩
 | upto n l h' a h=>exact⟨a,_,rfl,h,QB (KP (Q4 _ (Z4 (.itm _))).2.1) (QB (Yr ⟨ok.1.1,by have:=ok.1.2;omega⟩) (QB (Yr (ZR ok.2).1) (QB (Yr (ZR ok.2).2) Z1)))⟩
 | _=>simp[Itm.sl] at hs
def Zw (xs:List Itm):Prop:=(BL xs 4).Pairwise (λa b=>IV a<IV b)/\∀(i:Nat) y,(BL xs 4)[i]?=some y->0<=IV y/\IV y<((i+1:Nat):Int)*100000000
theorem XJ:BL (xs++[x]) j=BL xs j++if x.sl=j then[x] else[]:=by
 unfold BL;rw[Av]
 congr 1
 by_cases e:x.sl=j<;>simp[e]
theorem Kk:Zw []:=⟨.nil,λi y h=>by simp[BL] at h⟩
theorem ZU {x}(h:Zw xs)(hx:x.sl≠4):Zw (xs++[x]):=by
 unfold Zw;rw[XJ,DY hx,Cs];exact h
theorem Ri {l:List Itm}{y:Itm}(h:l.Pairwise (λa b=>IV a<IV b))(hl:l.getLast?=some y):∀a∈l,IV a<=IV y:=λa J=>by
 obtain⟨U,rfl⟩:∃U,l=U++[y]:=by
  rcases List.eq_nil_or_concat l with rfl|⟨U,z,rfl⟩
  ·cases hl
  ·rw[List.concat_eq_append] at *;rw[List.getLast?_concat] at hl;cases hl;exact⟨U,rfl⟩
 rcases Cr.mp J with J|J
 ·exact Int.le_of_lt ((List.pairwise_append.mp h).2.2 a J y (by simp))
 ·rw[D7.mp J];exact Int.le_refl _
theorem Yi {n r s:Int}(h:Zw xs)(hn:Tz (BL xs 4) n):Zw (xs++[.off n r s])/\(∀y∈BL xs 4,IV y<n)/\0<=n/\n<(((BL xs 4).length+1:Nat):Int)*100000000:=by
 have J:(∀y∈BL xs 4,IV y<n)/\0<=n/\n<(((BL xs 4).length+1:Nat):Int)*100000000:=by
  cases e:(BL xs 4).getLast? with
  | none=>
   have e0:BL xs 4=[]:=List.getLast?_eq_none_iff.mp e;rw[e0] at hn ⊢;obtain⟨a,b⟩:=hn.1 rfl;exact⟨λy U=>(by cases U),a,by show n<1*100000000;omega⟩
  | some y=>
   obtain⟨a,b⟩:=hn.2 y e;rw[List.getLast?_eq_getElem?] at e;obtain⟨c,d⟩:=h.2 _ y e;have hl:=(Cg.mp e).1;rw[show(BL xs 4).length-1+1=(BL xs 4).length by omega] at d;refine⟨λz hz=>Int.lt_of_le_of_lt (Ri h.1 (by rw[List.getLast?_eq_getElem?];exact e) z hz) a,by omega,by omega⟩
 refine⟨?_,J⟩;unfold Zw;rw[XJ,DZ (show(Itm.off n r s).sl=4 from rfl)];refine⟨List.pairwise_append.mpr ⟨h.1,by simp,λa ha b hb=>by rw[D7.mp hb];exact J.1 a ha⟩,λi y U=>?_⟩;by_cases hi:i<(BL xs 4).length
 ·rw[CI hi] at U;exact h.2 i y U
 ·have a4:=(Cg.mp U).1;rw[D0,D6] at a4;have ei:i=(BL xs 4).length:=by omega
  subst ei;rw[CG (D2 _),CK] at U;cases U;exact J.2
inductive jK (K)(x y z:V)(H)(Q:VK):Prop
 | mk (p pl:Addr) (c:Int) (tl:Str) (xs:List Itm) (q:Nat->Addr) (ns:List Str) (h1:x=.ref p) (h2:y=.ref pl) (h3:z=.int c) (h4:KL K H p tl xs q) (h5:∀i<7,∀j<7,q i=q j->i=j) (h6:A6 K H pl (ns.map V.str)) (h6':∀j<7,q j≠pl) (h7:∀z∈ns,Q7 z) (h8:1<=ns.length/\ns.length<=8) (h9:Zw xs) (h10:xs.length<=200)
   (q0:∀H',Same H H'->Q (.str (q_ "")) H')
   (q1:∀x v vs H1 H',Same H H1->x.Ok->Xl xs x->Zw (xs++[x])->(∀z r s,x=.cnt z r s->z∈ns)->H1 (q x.sl)=some (.lst vs)->LIt K H1 x v->Same (upd H1 (q x.sl) (.lst (vs++[v]))) H'->Q (.str (Row.itm x).tx) H'):jK K x y z H Q
theorem LM {x}(h:LIt K H x v)(ok:x.Ok)(hs:x.sl=2∨x.sl=3∨x.sl=4):∃a us,v=.ref a/\A9 K H a us/\us≠[]/\All2 (Wv K H) x.ws us:=by
 cases h with
 | pay r s l h' a p h hp=>exact⟨a,_,rfl,h,by simp,QB (MP ok.1 hp) (QB (Yr (ZR ok.2).1) (QB (Yr (ZR ok.2).2) Z1))⟩
 | cnt z r s a p h hp=>exact⟨a,_,rfl,h,by simp,QB (KP (ZM ok.1).2.1) (QB (MP ok.2 hp) Z1)⟩
 | off l r s a p h hp=>exact⟨a,_,rfl,h,by simp,QB (Yr ok.1) (QB (MP ok.2 hp) Z1)⟩
 | _=>simp[Itm.sl] at hs
theorem Wv.kp (g:Kp N H H'){z}{v}(h:Wv K H z v):Wv K H' z v:=by
 obtain⟨h|h|⟨p,r,s,e,hp,ok,e2⟩,l⟩:=h
 ·exact⟨.inl h,l⟩
 ·exact⟨.inr (.inl h),l⟩
 ·exact⟨.inr (.inr ⟨p,r,s,e,g.sqT hp,ok,e2⟩),l⟩
theorem UX (g:Kp N H H'){zs}{vs}(h:All2 (Wv K H) zs vs):All2 (Wv K H') zs vs:=⟨h.1,λi a b ha hb=>(h.2 i a b ha hb).kp g⟩
theorem XA {x}(h3:x.sl≠3)(h4:x.sl≠4)(h:((xs.filter λy=>decide (y.sl=x.sl)).length:Int)<mo x.sl):Xl xs x:=by
 cases x with
 | cnt=>exact absurd rfl h3
 | off=>exact absurd rfl h4
 | _=>exact h
theorem Ye (a b c:Str):a++b++c=a++(b++c):=WR (by rw[Yy,Yy,Yy,Yy,List.append_assoc])
theorem MT (a:Int):(Row.itm (.unt a)).tx=Str.ofString "until "++nt a:=by
 show Txt.join blank [q_ "until",nt a]=_;rw[mH,show Str.ofString "until "=q_ "until"++blank by decide +kernel]
theorem Sq (u:Int)(z):(Row.itm (.rnd u z)).tx=Str.ofString "round "++nt u++Str.ofString " "++z:=by
 show Txt.join blank [q_ "round",nt u,z]=_;rw[mG,show Str.ofString "round "=q_ "round"++blank by decide +kernel,ZG];simp only[Ye]
def pC (fl:List Itm)(H:Hp)(i:Nat)(acc:List V)(σ':L2.St)(H':Hp):Prop:=∃x0,σ'=[x0]/\Same H H'/\acc=((fl.take i).map lR).map V.str
theorem iM (T:Tx w K mg):GF P w K mg base 5 "_law_put" ["_law_last","_law_pool_here","_law_cell_here"] (Sp3M (jK K)):=by
 refine Zf T 83 ["_law_last","_law_pool_here","_law_cell_here","_law_way","_law_low","_law_high","_law_title","_law_unit"] JU λH Q cb hr h=>?_
 obtain⟨_,_,_,rfl,p,pl,c,tl,xs,U,ns,rfl,rfl,rfl,hK,c4,hP,c5,b9,cm,a8,bu,q0,q1⟩:=h;refine⟨_,(Qb (A5 3 (Qg Qo (pu 2) Qd)) (Qb (Qr (PW.pt (Zz (A8 Zr (pu 3) Qd) (Zh (A8 Zr (IC K T.aB (BM K 0)) Qd)))) (Qb (QH (QE K rfl CJ CM CO Qy (BM K 0) (A1 (A7 (bT T) (A1 (pu 2)))))) (Qf (Qk (A7 (aK T) (A1 (BN K (BM K 0) Ia)))))) Ql) (Qb (Qr (PW.pt (Zz (A8 (QM K) (pu 3) Qd) (Zh (A8 Zr (IC K T.aB (BM K 0)) Qd)))) (Qb (QH (QE K rfl CJ CM CO Qy (BM K 0) (A1 (A7 (bU T) (A1 (pu 2)))))) (Qf (Qk (A7 (aK T) (A1 (BN K (BM K 0) Ia)))))) Ql) (Qb (Qr (PW.pt (Zz (A8 (QM K) (pu 3) Qd) (Zh (A8 Zr (IC K T.aB (BM K 0)) Qd)))) (Qb (Vc (A7 (bB T) (A1 (pu 2))) (jm (n:=2) K rfl rfl (QR (GE 4) (QR (GE 5) Xd)))) (Qb (QH (QE K rfl CJ CM CO Qy (BM K 0) (A1 (QY (IZ (A7 (aO T) (A3 (pu 2) Qd)) (pu 4) (pu 5)))))) (Qf (Qk (A7 (aK T) (A1 (Qg (Ut K rfl) (QY (A1 Qe)) (BN K (BM K 0) Ia)))))))) Ql) (Qb (A5 6 (BN K (pu 1) (Qg Qo (A7 (aA T) (A3 (pu 2) Qd)) (IC K T.aB (pu 1))))) (Qb (Qr (PW.pt (Zz (A8 (QM K) (pu 3) Qd) (Zh (ZA (Xe K rfl) (pu 6) (Ij ["_law_one"] [none] (Ie K rfl (BM K 0)) (GE 0) QU (BM K 0)) (by with_unfolding_all rfl))))) (Qb (QH (QE K rfl CJ CM CO Qy (BM K 0) (A1 (QY (A3 (pu 6) (A7 (aO T) (A3 (pu 2) Qd))))))) (Qf (Qk (A7 (aK T) (A1 (Qg (Ut K rfl) (QY (A1 Qe)) (BN K (BM K 0) Ia))))))) Ql) (Qb (Qr (PW.pt (Zz (A8 (QM K) (pu 3) Qd) (Zh (A8 Zr (IC K T.aB (BM K 0)) Qd)))) (Qb (QH (QE K rfl CJ CM CO Qy (BM K 0) (A1 (QY (A3 (A7 (bV T) (A3 (BM K 0) (pu 2))) (A7 (aO T) (A3 (pu 2) Qd))))))) (Qf (Qk (A7 (aK T) (A1 (Qg (Ut K rfl) (QY (A1 Qe)) (BN K (BM K 0) Ia))))))) Ql) (Qb (Qr (PW.pt (Zz (A8 (QM K) (pu 3) Qd) (Zh (A8 (JX K) (BM K 0) (Qn Qz))))) (Qb (QH (QE K rfl CJ CM CO Qy (BM K 0) (A1 (Qg Qo (A7 (aA T) (A3 (pu 2) Qd)) (BN K (Qn (A3 Qd (Qg Qh (Qg XM Qd Qd) Qd))) (Qg Qo (A7 (aA T) (A3 (pu 2) Qd)) Qd)))))) (Qf (Qk (Qg Qh Qe (Qv Zd (by rfl) T.aH boot_str (A1 (BN K (BM K 0) Qd))))))) Ql) (Qb (Qr (PW.pt (Zz (A8 (QM K) (pu 3) Qd) (Zh (A8 (JX K) (BM K 0) (Qn Qz))))) (Qb (A5 7 (Qg Qh Qd (Qg Qo (A7 (aA T) (A3 (pu 2) Qd)) (BN K (Qn (A3 Qd (Qg XM Qd Qd))) (Qg Qo (A7 (aA T) (A3 (pu 2) Qd)) Qd))))) (Qb (QH (QE K rfl CJ CM CO Qy (BM K 0) (A1 (QY (A3 (pu 7) (BN K (Qn (IZ Qe Qe Qe)) (Qg Qo (A7 (aA T) (A3 (pu 2) Qd)) Qd))))))) (Qf (Qk (Qg Qh (Qg Qh (Qg Qh Qe (Qv Zd (by rfl) T.aH boot_str (A1 (pu 7)))) Qe) (BN K (BN K (BM K 0) Qd) Qd)))))) Ql) (Qf (Qk Qe))))))))))),?_⟩;have b5:∀j,(xs.filter λy=>decide (y.sl=j)).length<=200:=λj=>Co (Az _ _) bu
 have aq:∀(x:Itm) (v:V) (vs:List V) (H1:Hp),Same H H1->x.Ok->Xl xs x->(x.sl=0∨x.sl=1)->LIt K H1 x v->H1 (U x.sl)=some (.lst vs)->IR K v (upd H1 (U x.sl) (.lst (vs++[v]))) Q:=λx v vs H1 g ok fi hs a7 hv=>by
  obtain⟨a,us,rfl,hS,hA⟩:=Gg a7 ok hs;have kp:=QZ (N:=λb=>b≠U x.sl) (o:=.lst (vs++[.ref a])) hv λb h=>h
  refine⟨a,us,x.srt::x.ws,rfl,kp.sqT hS,UX kp hA,by have:=X0 (r:=.itm x) ok;show x.ws.length+1<=20;have:x.ws.length<=10:=this;omega,λH' g'=>q1 x _ vs H1 H' g ok fi (ZU a8 (by rcases hs with h|h<;>rw[h]<;>decide)) (λz r s e=>by subst e;simp[Itm.sl] at hs) hv a7 g'⟩
 have ae:∀(x:Itm) (v:V) (vs:List V) (H1 H2:Hp) (p1:Addr),Same H H1->x.Ok->Xl xs x->Zw (xs++[x])->(∀z r s,x=.cnt z r s->z∈ns)->(x.sl=2∨x.sl=3∨x.sl=4)->LIt K H1 x v->H1 (U x.sl)=some (.lst vs)->Same (upd H1 (U x.sl) (.lst (vs++[v]))) H2->H2 p1=some (.tup [.str x.srt])->VX K (.ref p1) v H2 λy H3=>IR K y H3 Q:=λx v vs H1 H2 p1 g ok fi b7 hc hs a7 hv g2 a9=>by
  obtain⟨a,us,rfl,hS,ne,hA⟩:=LM a7 ok hs;have kp:=(QZ (N:=λb=>b≠U x.sl) (o:=.lst (vs++[.ref a])) hv λb h=>h).trans (.of g2);have ck:x.ws.length<=10:=X0 (r:=.itm x) ok;have cg:=hA.1;refine⟨p1,a,_,us,rfl,rfl,AJ a9,kp.sqT hS,by simp,by rw[Cb];show 1+us.length<=_;omega,λe=>absurd e ne,λ_ p2 b2=>?_⟩;have g3:=Qc b2 (.tup ([.str x.srt]++us));exact⟨p2,_,x.srt::x.ws,rfl,AJ Qa,QB (KP (Q4 _ (Z4 (.itm x))).2.1) (UX (kp.trans (.of g3)) hA),by show x.ws.length+1<=20;omega,λH' g'=>q1 x _ vs H1 H' g ok fi b7 hc hv a7 (g2.trans (g3.trans g'))⟩
 generalize bt:W8 (JP (KY (uB (IS (sEq K) (Xj 3) (tC (V.int 7)))) _) _ _) _=R9;generalize bh:W8 (JP (KY (uB (IS (sEq K) (Xj 3) (tC (V.int 6)))) _) _ _) _=R8;generalize bb:W8 (JP (KY (uB (IS (sEq K) (Xj 3) (tC (V.int 5)))) _) _ _) _=R7;generalize bz:W8 (JP (KY (uB (IS (sEq K) (Xj 3) (tC (V.int 4)))) _) _ _) _=R5;generalize c0:W8 (VQ _ (XW 6)) _=R4;generalize ba:W8 (JP (KY (uB (IS (sEq K) (Xj 3) (tC (V.int 3)))) _) _ _) _=R3;generalize br:W8 (JP (KY (uB (IS (sEq K) (Xj 3) (tC (V.int 2)))) _) _ _) _=R2;have av:∀(D:QO) (x4 x5 x6 x7:Option V) (H1:Hp),D.rt=Q->Same H H1->R9 D [some (.ref p),some (.ref pl),some (.int c),some (.int (c % 8)),x4,x5,x6,x7] H1:=by
  subst bt;intro D x4 x5 x6 x7 H1 hD g;have hT:=AJ (K:=K) (g _ _ hK.hp);left;rw[hD];refine Qs (λ_=>?_) (λ_=>q0 _ g);obtain⟨v6,k6,a6⟩:=hK.hq 6 (by decide);refine Zq hT rfl ⟨by decide,λp1 a9=>?_⟩;have g1:=g.trans (Qc a9 (.lst []));refine Yd (AI (g1 _ _ k6)) (AI Qa) ?_;left;refine Qs (λe=>?_) (λ_=>q0 _ g1);have e6:v6=[]:=by simpa using e
  subst e6;generalize upd H1 p1 (.lst [])=H1' at *;refine⟨c,3,rfl,rfl,by omega,λm1 b4 az _ _=>?_⟩;left;refine⟨by unfold VJ;decide,by decide,λp5 b1=>⟨c,0,rfl,rfl,by omega,λm2 H2 g2 _ _=>?_⟩⟩;have b3:=g2 _ _ (Qa (H:=b4) (a:=p5) (o:=.lst [.int 60,.int (10 ^ Int.toNat 9)]));have aa:=g1.trans ((az.trans (Qc b1 _)).trans g2);left;obtain⟨v1,b0,ah⟩:=Wu (a:=.int 60) (b:=.int (10 ^ Int.toNat 9)) m2;obtain⟨w1,rfl,ak,bq⟩:∃w:Int,v1=.int w/\0<w/\w<=1000000000:=by rcases ah with rfl|rfl;exact⟨_,rfl,by decide,by decide⟩;exact⟨_,rfl,by decide,by decide⟩
  refine⟨trivial,QA (AI b3) b0 ?_⟩;left;have hu:1<=1+m1 % w1/\1+m1 % w1<=1000000000:=⟨by have:=Ci m1 (show w1≠0 by omega);omega,by have:=Cq m1 ak;omega⟩
  refine⟨ak,?_⟩;generalize 1+m1 % w1=u at *;refine Zq (AJ (aa _ _ hK.hp)) rfl ⟨.inl ⟨rfl,_,AI (aa _ _ k6)⟩,by decide,λp2 b2=>⟨c,1,rfl,rfl,by omega,λm H3 g3 _ _=>?_⟩⟩;have kw:=g3 _ _ (Qa (H:=H2) (a:=p2) (o:=.lst [.str "down",.str "up",.str "near"]));have bp:=(aa.trans (Qc b2 _)).trans g3;left;obtain⟨w1,bl,bo⟩:=Te (a:=.str "down") (b:=.str "up") (c:=.str "near") m;obtain⟨zw,rfl,hz⟩:∃z,w1=.str z/\Jn z=true:=by
   rcases bo with rfl|rfl|rfl
   ·exact⟨_,rfl,by decide +kernel⟩
   ·exact⟨_,rfl,by decide +kernel⟩
   ·exact⟨_,rfl,by decide +kernel⟩
  refine⟨trivial,QA (AI kw) bl ⟨by decide,λp3 bw=>?_⟩⟩;have g4:=bp.trans (Qc bw (.tup [.int u,.str zw]));have k3:=Qa (H:=H3) (a:=p3) (o:=.tup [.int u,.str zw]);generalize upd H3 p3 (.tup [.int u,.str zw])=H4 at *;have kq:=g4 _ _ k6;have lu:(nt u).length<=100:=len_num (by omega) (by omega);have lz:=(Ki hz).2.1;have lr:(Str.ofString "round ").length=6:=by decide +kernel
  have lb:(Str.ofString " ").length=1:=by decide +kernel
  refine⟨U 6,[],_,rfl,rfl,kq,by rw[Cb];decide,.inl ⟨u,rfl,Xf (by omega) (by omega),?_⟩⟩;left;have cc:(Str.ofString (toString u)).length<=100:=lu;have kp:=QZ (N:=λb=>b≠U 6) (o:=.lst ([]++[.ref p3])) kq λb h=>h
  refine⟨Qq (by omega),Qq (by rw[Qu];omega),Zq (kp.sqT (AJ (g4 _ _ hK.hp))) rfl (QA (AI Qa) (v:=.ref p3) rfl (Zq (kp.sqT (AJ k3)) rfl ?_))⟩;left;refine⟨by rw[Cb,Qu,Qu];omega,?_⟩;have fi:Xl xs (.rnd u zw):=XA (by simp[Itm.sl]) (by simp[Itm.sl]) (by
   have:=a6.1;show((xs.filter λy=>decide (y.sl=6)).length:Int)<1;rw[this];decide)
  have:=q1 (.rnd u zw) (.ref p3) [] H4 _ g4 ⟨hu,hz⟩ fi (ZU a8 (by simp[Itm.sl])) (λz r s e=>nomatch e) kq (.rnd u zw p3 (AJ k3)) (AK _);rw[Sq] at this;exact this
 have ax:∀(D:QO) (x4 x5 x6 x7:Option V) (H1:Hp),D.rt=Q->Same H H1->R8 D [some (.ref p),some (.ref pl),some (.int c),some (.int (c % 8)),x4,x5,x6,x7] H1:=by
  subst bh;intro D x4 x5 x6 x7 H1 hD g;have hT:=AJ (K:=K) (g _ _ hK.hp);left;refine Qs (λ_=>?_) (λ_=>av _ _ _ _ _ _ hD g);obtain⟨v5,k5,a5⟩:=hK.hq 5 (by decide);refine Zq hT rfl ⟨by decide,λp1 a9=>?_⟩;have g1:=g.trans (Qc a9 (.lst []));refine Yd (AI (g1 _ _ k5)) (AI Qa) ?_;left;refine Qs (λe=>?_) (λ_=>av _ _ _ _ _ _ hD g1);have e5:v5=[]:=by simpa using e
  subst e5;generalize upd H1 p1 (.lst [])=H1' at *;refine Zq (AJ (g1 _ _ hK.hp)) rfl ⟨.inl ⟨rfl,_,AI (g1 _ _ k5)⟩,c,3,rfl,rfl,by omega,λm1 b4 az _ _=>?_⟩;left;refine⟨by unfold VJ;decide,by decide,λp5 b1=>⟨c,0,rfl,rfl,by omega,λm2 H2 g2 _ _=>?_⟩⟩;have b3:=g2 _ _ (Qa (H:=b4) (a:=p5) (o:=.lst [.int 4,.int (10 ^ Int.toNat 9+1)]));have aa:=g1.trans ((az.trans (Qc b1 _)).trans g2);left;obtain⟨v1,b0,ah⟩:=Wu (a:=.int 4) (b:=.int (10 ^ Int.toNat 9+1)) m2;obtain⟨w1,rfl,ak,bq⟩:∃w:Int,v1=.int w/\0<w/\w<=1000000001:=by rcases ah with rfl|rfl;exact⟨_,rfl,by decide,by decide⟩;exact⟨_,rfl,by decide,by decide⟩
  refine⟨trivial,QA (AI b3) b0 ?_⟩;left;have hn:Zg (m1 % w1):=⟨Ci m1 (by omega),by have:=Cq m1 ak;omega⟩
  refine⟨ak,?_⟩;generalize m1 % w1=n at *;have kq:=aa _ _ k5;have kp:=QZ (N:=λb=>b≠U 5) (o:=.lst ([]++[.int n])) kq λb h=>h
  refine⟨U 5,[],_,rfl,rfl,kq,by rw[Cb];decide,Zq (kp.sqT (AJ (aa _ _ hK.hp))) rfl (QA (AI Qa) (v:=.int n) rfl (.inl ⟨n,rfl,Xf hn.1 (by have:=hn.2;omega),?_⟩))⟩;left;have lu:(Str.ofString (toString n)).length<=100:=len_num hn.1 (by have:=hn.2;omega);have lr:(Str.ofString "until ").length=6:=by decide +kernel
  have fi:Xl xs (.unt n):=XA (by simp[Itm.sl]) (by simp[Itm.sl]) (by
   have:=a5.1;show((xs.filter λy=>decide (y.sl=5)).length:Int)<1;rw[this];decide)
  have:=q1 (.unt n) (.int n) [] H2 _ aa hn fi (ZU a8 (by simp[Itm.sl])) (λz r s e=>nomatch e) kq (.unt n) (AK _);rw[MT] at this;rw[hD];exact⟨Qq (by omega),this⟩
 have ao:∀(D:QO) (x4 x5 x6 x7:Option V) (H1:Hp),D.rt=Q->Same H H1->R7 D [some (.ref p),some (.ref pl),some (.int c),some (.int (c % 8)),x4,x5,x6,x7] H1:=by
  subst bb;intro D x4 x5 x6 x7 H1 hD g;have hT:=AJ (K:=K) (g _ _ hK.hp);left;refine Qs (λ_=>?_) (λ_=>ax _ _ _ _ _ _ hD g);obtain⟨v4,k4,a4⟩:=hK.hq 4 (by decide);refine Zq hT rfl (Q0 (AI (g _ _ k4)) ?_);left;rw[hD];have c6:(BL xs 4).length=v4.length:=a4.1;refine Qs (λl6=>?_) (λ_=>ax _ _ _ _ _ _ hD g);refine Zq hT rfl ⟨.inl ⟨rfl,_,AI (g _ _ k4)⟩,Zq hT rfl ⟨U 4,c,_,v4,rfl,rfl,AI (g _ _ k4),Yk (N:=λ_=>True) (.of g) a4,λx hx=>C3 (C4.mp hx).2,λn H4 g4 hn=>?_⟩⟩;obtain⟨b7,c2,n0,n1⟩:=Yi (r:=0) (s:=0) a8 hn;have gb:=g.trans g4;left;refine⟨c,0,rfl,rfl,by omega,λp7 r s' H5 g5 ai aj=>⟨by decide,λp8 af=>?_⟩⟩;have g6:=Qc af (.tup [.int n,.ref p7]);have k8:=Qa (H:=H5) (a:=p8) (o:=.tup [.int n,.ref p7]);generalize upd H5 p8 (.tup [.int n,.ref p7])=H6 at *;have gc:=(gb.trans g5).trans g6;have kq:=gc _ _ k4;refine⟨U 4,_,_,rfl,rfl,kq,by rw[Cb];omega,by decide,λp9 ag=>?_⟩;have g9:=Qc ag (.tup [.str "off"]);have kp:=(QZ (N:=λb=>b≠U 4) (o:=.lst (v4++[.ref p8])) kq λb h=>h).trans (.of g9);refine Zq (kp.sqT (AJ (gc _ _ hK.hp))) rfl (QA (AI (g9 _ _ Qa)) (Q5 _ _) ?_);refine ae (.off n r s') (.ref p8) v4 H6 _ p9 gc ⟨⟨n0,by omega⟩,ai⟩ ⟨by show(BL xs 4).length<6;omega,λy hy l2 r2 s2 e2=>?_⟩ (Yi a8 hn).1 (λz r s e=>nomatch e) (.inr (.inr rfl)) (.off n r s' p8 p7 (AJ k8) (AJ (g6 _ _ aj))) kq g9 Qa;have:=c2 y (C4.mpr ⟨hy,by rw[e2];rfl⟩);rw[e2] at this;exact this
 have b6:∀(D:QO) (z:Str) (x4 x5 x7:Option V) (H1:Hp),D.rt=Q->Same H H1->z∈ns->R5 D [some (.ref p),some (.ref pl),some (.int c),some (.int (c % 8)),x4,x5,some (.str z),x7] H1:=by
  subst bz;intro D z x4 x5 x7 H1 hD g hz;have hT:=AJ (K:=K) (g _ _ hK.hp);left;rw[hD];refine Qs (λ_=>?_) (λ_=>ao _ _ _ _ _ _ hD g);obtain⟨v3,k3,a3⟩:=hK.hq 3 (by decide);have c9:=a3.1;have c7:=b5 3;simp only[ZL];left;refine⟨U 3,rfl,⟨_,AI (g _ _ k3)⟩,Y2 (xs:=v3) (pC (xs.filter λx=>decide (x.sl=3)) H1) ⟨none,rfl,AK _,rfl⟩ (λi acc σ' H' _ h=>by obtain⟨_,_,g',_⟩:=h;exact(g.trans g').seq (AI k3)) (by omega) ?_ ?_⟩
  ·rintro i v acc _ H2 hv c3 ⟨x0,rfl,g',rfl⟩;obtain⟨y,hy,bj⟩:=a3.getV hv;obtain⟨_,J⟩:=Ju hy;obtain⟨z2,r2,s2,rfl⟩:=K2 J;obtain⟨p5,p6,rfl,bc,_⟩:=RQ bj;have cj:=(g.trans g').sqT bc;simp only[ZS];left;exact CN.mk (Z0 hv) (by rw[D0,D6];omega) ⟨_,rfl,g',by rw[CS,hy,D9,D9];rfl⟩
  ·rintro acc _ H2 ⟨x0,rfl,g',rfl⟩ p1 a9;rw[CH (by omega)] at *;have ga:=(g.trans g').trans (Qc a9 (.lst (((xs.filter λx=>decide (x.sl=3)).map lR).map V.str)));refine Zx (AI Qa) ?_;generalize upd H2 p1 (.lst (((xs.filter λx=>decide (x.sl=3)).map lR).map V.str))=H4 at *;left;refine Qs (λhm=>?_) (λ_=>ao _ _ _ _ _ _ hD ga);refine Zq (AJ (ga _ _ hK.hp)) rfl ⟨.inl ⟨rfl,_,AI (ga _ _ k3)⟩,c,2,rfl,rfl,by omega,λp7 r s' H5 g5 ai aj=>⟨by decide,λp8 af=>?_⟩⟩;have g6:=Qc af (.tup [.str z,.ref p7]);have k8:=Qa (H:=H5) (a:=p8) (o:=.tup [.str z,.ref p7]);generalize upd H5 p8 (.tup [.str z,.ref p7])=H6 at *;have gc:=(ga.trans g5).trans g6;have kq:=gc _ _ k3;refine⟨U 3,_,_,rfl,rfl,kq,by rw[Cb];omega,by decide,λp9 ag=>?_⟩;have g9:=Qc ag (.tup [.str "counts"]);have kp:=(QZ (N:=λb=>b≠U 3) (o:=.lst (v3++[.ref p8])) kq λb h=>h).trans (.of g9);refine Zq (kp.sqT (AJ (gc _ _ hK.hp))) rfl (QA (AI (g9 _ _ Qa)) (Q5 _ _) ?_);refine ae (.cnt z r s') (.ref p8) v3 H6 _ p9 gc ⟨b9 z hz,ai⟩ (λy hy z2 r2 s2 e2 e3=>hm (C8.mpr ⟨y,C4.mpr ⟨hy,by rw[e2];rfl⟩,by rw[e2];exact e3⟩)) (ZU a8 (by simp[Itm.sl])) (λz2 r2 s2 e=>by cases e;exact hz) (.inr (.inl rfl)) (.cnt z r s' p8 p7 (AJ k8) (AJ (g6 _ _ aj))) kq g9 Qa
 have au:∀(D:QO) (x4 x5 x6 x7:Option V) (H1:Hp),D.rt=Q->Same H H1->R4 D [some (.ref p),some (.ref pl),some (.int c),some (.int (c % 8)),x4,x5,x6,x7] H1:=by
  subst c0;intro D x4 x5 x6 x7 H1 hD g;left;refine⟨c,0,rfl,rfl,by omega,λm H2 g2 m0 _=>?_⟩;have bf:=(g.trans g2).seq hP;left;rw[D1];have d0:=Ci m (show(ns.length:Int)≠0 by omega);have d1:=Cq m (show(0:Int)<ns.length by omega);obtain⟨k,hk⟩:=CT d0;rw[hk];have b8:k<ns.length:=by omega
  refine⟨by omega,QA bf (v:=.str ns[k]) (QV (by rw[Ct,D4 b8];rfl)) ?_⟩;exact b6 _ _ _ _ _ _ hD (g.trans g2) (List.getElem_mem b8)
 have aw:∀(D:QO) (x4 x5 x6 x7:Option V) (H1:Hp),D.rt=Q->Same H H1->R3 D [some (.ref p),some (.ref pl),some (.int c),some (.int (c % 8)),x4,x5,x6,x7] H1:=by
  subst ba;intro D x4 x5 x6 x7 H1 hD g;have hT:=AJ (K:=K) (g _ _ hK.hp);left;refine Qs (λ_=>?_) (λ_=>au _ _ _ _ _ _ hD g);obtain⟨v2,k2,a2⟩:=hK.hq 2 (by decide);have bx:=a2.1;refine Zq hT rfl (Q0 (AI (g _ _ k2)) ?_);left;rw[hD];refine Qs (λl4=>?_) (λ_=>au _ _ _ _ _ _ hD g);refine⟨c,rfl,λpa l h' H2 g2 bg c1=>?_⟩;have cf:=AJ (K:=K) c1;have ga:=g.trans g2;have c8:=AJ (K:=K) (ga _ _ hK.hp);left;refine⟨.inl ⟨rfl,_,AI (ga _ _ k2)⟩,c,1,rfl,rfl,by omega,λp7 r s' H5 g5 ai aj=>?_⟩;left;refine⟨by decide,λp8 af=>?_⟩;have g6:=Qc af (.tup [.ref p7,.int l,.int h']);have k8:=Qa (H:=H5) (a:=p8) (o:=.tup [.ref p7,.int l,.int h']);generalize upd H5 p8 (.tup [.ref p7,.int l,.int h'])=H6 at *;have gc:=(ga.trans g5).trans g6;have kq:=gc _ _ k2;refine⟨U 2,_,_,rfl,rfl,kq,by rw[Cb];omega,by decide,λp9 ag=>?_⟩;have g9:=Qc ag (.tup [.str "pay"]);have kp:=(QZ (N:=λb=>b≠U 2) (o:=.lst (v2++[.ref p8])) kq λb h=>h).trans (.of g9);refine Zq (kp.sqT (AJ (gc _ _ hK.hp))) rfl (QA (AI (g9 _ _ Qa)) (Q5 _ _) ?_);refine ae (.pay r s' l h') (.ref p8) v2 H6 _ p9 gc ⟨ai,bg⟩ (XA (by simp[Itm.sl]) (by simp[Itm.sl]) (by show((xs.filter λy=>decide (y.sl=2)).length:Int)<4;rw[bx];exact l4)) (ZU a8 (by simp[Itm.sl])) (λz2 r2 s2 e=>nomatch e) (.inl rfl) (.pay r s' l h' p8 p7 (AJ k8) (AJ (g6 _ _ aj))) kq g9 Qa
 have ar:∀(D:QO) (x4 x5 x6 x7:Option V) (H1:Hp),D.rt=Q->Same H H1->R2 D [some (.ref p),some (.ref pl),some (.int c),some (.int (c % 8)),x4,x5,x6,x7] H1:=by
  subst br;intro D x4 x5 x6 x7 H1 hD g;have hT:=AJ (K:=K) (g _ _ hK.hp);left;refine Qs (λ_=>?_) (λ_=>aw _ _ _ _ _ _ hD g);obtain⟨v1,k1,a1⟩:=hK.hq 1 (by decide);have ay:=a1.1;refine Zq hT rfl (Q0 (AI (g _ _ k1)) ?_);left;rw[hD];refine Qs (λl6=>?_) (λ_=>aw _ _ _ _ _ _ hD g);refine Zq hT rfl ⟨.inl ⟨rfl,_,AI (g _ _ k1)⟩,c,rfl,λx v H2 g2 ok J a7=>?_⟩;have gc:=g.trans g2;have kq:H2 (U x.sl)=some (.lst v1):=by rw[J];exact gc _ _ k1
  refine ⟨U 1,_,_,rfl,rfl,gc _ _ k1,by rw [Cb];omega,?_⟩;rw [<-J];have kp:=QZ (N:=fun b=>b≠U x.sl) (o:=.lst (v1++[v])) kq fun b h=>h
  refine Zq (kp.sqT (AJ (gc _ _ hK.hp))) (v:=.ref (U x.sl)) (by rw[J];rfl) (QA (AI Qa) (Q5 _ _) ?_);exact aq x v v1 H2 gc ok (XA (by rw[J];decide) (by rw[J];decide) (by rw[J,ay];exact l6)) (.inr J) a7 kq
 have hT:=AJ (K:=K) hK.hp;left;refine⟨trivial,Qs (λ_=>?_) (λ_=>ar _ _ _ _ _ _ rfl (AK _))⟩;obtain⟨v1,k1,a1⟩:=hK.hq 0 (by decide);have ay:=a1.1;refine Zq hT rfl (Q0 (AI k1) ?_);left;refine Qs (λl6=>?_) (λ_=>ar _ _ _ _ _ _ rfl (AK _));refine Zq hT rfl ⟨.inl ⟨rfl,_,AI k1⟩,c,rfl,λx v H2 g2 ok J a7=>?_⟩;have kq:H2 (U x.sl)=some (.lst v1):=by rw[J];exact g2 _ _ k1
 refine ⟨U 0,_,_,rfl,rfl,g2 _ _ k1,by have:=b5 0;rw [Cb];omega,?_⟩;rw [<-J];have kp:=QZ (N:=fun b=>b≠U x.sl) (o:=.lst (v1++[v])) kq fun b h=>h
 refine Zq (kp.sqT (AJ (g2 _ _ hK.hp))) (v:=.ref (U x.sl)) (by rw[J];rfl) (QA (AI Qa) (Q5 _ _) ?_);exact aq x v v1 H2 g2 ok (XA (by rw[J];decide) (by rw[J];decide) (by rw[J,ay];exact l6)) (.inl J) a7 kq
def CL (K:W.Frag)(N:Addr->Prop)(H:Hp)(c:Cp)(v:V):Prop:=∃p l,v=.ref p/\H p=some (.tup [.int c.1,.int c.2.1,.ref l])/\H l=some (.lst (c.2.2.map V.str))/\N l
theorem CL.kp {c}(g:Kp N H H')(h:CL K N H c v):CL K N H' c v:=by
 obtain⟨p,l,e,h1,h2,n⟩:=h;exact⟨p,l,e,g _ _ h1 (.inr λvs e=>nomatch e),g _ _ h2 (.inl n),n⟩
theorem Jy (g:Kp N H H')(h:All2 (CL K N H) cs vs):All2 (CL K N H') cs vs:=⟨h.1,λi a b ha hb=>(h.2 i a b ha hb).kp g⟩
def ZO (cs:List Cp):List Str:=(cs.map (·.2.2)).flatten
inductive jU (K)(x y z:V)(H)(Q:VK):Prop
 | mk (cl pl:Addr) (c:Int) (cvs:List V) (cs:List Cp) (ns:List Str) (N:Addr->Prop) (h1:x=.ref cl) (h2:y=.ref pl) (h3:z=.int c) (h4:H cl=some (.lst cvs)) (h5:All2 (CL K N H) cs cvs) (h6:A6 K H pl (ns.map V.str)) (h7:∀z∈ns,Q7 z) (h8:ns.Nodup) (h8':ns.length<=8) (h9:cs.length<=4) (h10:∀c∈cs,c.2.2.length<=8) (h11:(ZO cs).Nodup)
   (q0:∀H',Same H H'->Q (.str (q_ "")) H')
   (q1:∀a b nms p l H1 H',Same H H1->(Row.cap a b nms).Ok->(∀z∈nms,z∈ns)->(nms++ZO cs).Nodup->cs.length<4->H l=none->H1 l=some (.lst (nms.map V.str))->H1 p=some (.tup [.int a,.int b,.ref l])->Same (upd H1 cl (.lst (cvs++[.ref p]))) H'->Q (.str (Row.cap a b nms).tx) H'):jU K x y z H Q
def ou (cl pl:Addr)(c:Int)(cs:List Cp)(H:Hp)(i:Nat)(σ':L2.St)(H':Hp):Prop:=∃gl x4,σ'=[some (.ref cl),some (.ref pl),some (.int c),some (.ref gl),x4,none,none,none,none]/\Same H H'/\H' gl=some (.lst ((ZO (cs.take i)).map V.str))
def n9 (ns gs:List Str)(gl:Addr)(H:Hp)(i:Nat)(acc:List V)(σ':L2.St)(H':Hp):Prop:=∃x0,σ'=[x0,some (.ref gl)]/\Same H H'/\acc=((ns.take i).filter λz=>decide (z∉gs)).map V.str
theorem N7 {c}(h:cs[i]?=some c):ZO (cs.take (i+1))=ZO (cs.take i)++c.2.2:=by
 unfold ZO;rw[CS,h,D9,Ap];simp
theorem Pg (i:Nat)(h:∀c∈cs,c.2.2.length<=8)(h4:cs.length<=4):(ZO (cs.take i)).length<=32:=by
 have:=Ui (cs:=cs.take i) λc J=>h c (List.mem_of_mem_take J)
 rw[CC] at this;unfold ZO;omega
theorem WZ {gs:List Str}(h:ns[i]?=some z):(ns.take (i+1)).filter (λz=>decide (z∉gs))=(ns.take i).filter (λz=>decide (z∉gs))++if z∈gs then[] else[z]:=by
 rw[CS,h,Av]
 congr 1
 by_cases e:z∈gs<;>simp[e]
theorem iN (T:Tx w K mg):GF P w K mg base 3 "_law_cap" ["_law_caps","_law_pool_here","_law_cell_here"] (Sp3M (jU K)):=by
 refine Zf T 84 ["_law_caps","_law_pool_here","_law_cell_here","_law_gone","_law_cap_here","_law_free","_law_at","_law_size","_law_names_here"] JU λH Q b3 hr h=>?_
 obtain⟨_,_,_,rfl,cl,pl,c,cvs,cs,ns,N,rfl,rfl,rfl,hc,hC,hP,aa,nd,b8,h4,h8,b5,q0,q1⟩:=h;refine⟨_,(Qb (A5 3 (Qn Qz)) (Qb (fh (Ie K rfl (pu 0)) (GE 4) (Qf (A5 3 (Qg Qh (pu 3) (BM K 4))))) (Qb (WV (i:=5) b3 rfl (Or.inl rfl) (N:=["_law_one","_law_gone"]) (caps:=[none,some 3]) rfl Gx (Ie K rfl (pu 1)) (λ_ _ _ _=>Yh (i:=0) (show(["_law_one","_law_gone"]:List Str).Nodup by decide +kernel) rfl (Or.inl rfl) (.inr rfl)) (λ_ _ _ _=>Va (ZA (Xe K rfl) (pu 0) (pu 1) (by with_unfolding_all rfl))) (λ_ _ _ _=>(pu 0))) (Qb (Qr (PW.pt (YO (A8 (JX K) (pu 5) (Qn Qz)) (Wg (A8 (QM K) (IC K T.aB (pu 0)) Qd)))) (Qf (Qk Qe)) Ql) (Qb (A5 6 (Qg Qo (A7 (aA T) (A3 (pu 2) Qd)) (IC K T.aB (pu 5)))) (Qb (A5 5 (Qg Qh (QJ (IT K rfl) (pu 5) (QL (pu 6)) Q8) (QJ (IT K rfl) (pu 5) Q8 (QL (pu 6))))) (Qb (A5 7 (BN K (Qn (A3 Qd (Qg Qh (Qg XM Qd Qd) Qd))) (Qg Qo (A7 (aA T) (A3 (pu 2) Qd)) Qd))) (Qb (A5 8 (QJ (IT K rfl) (pu 5) Q8 (QL (Qg Qh Qd (Qg Qo (A7 (aA T) (A3 (pu 2) Qd)) (IC K T.aB (pu 5))))))) (Qb (QH (QE K rfl CJ CM CO Qy (pu 0) (A1 (QY (IZ (Qg Qo (A7 (aA T) (A3 (pu 2) Qd)) (pu 7)) (Qg Qo (Qg Qx (A7 (aA T) (A3 (pu 2) Qd)) Qd) (pu 7)) (pu 8)))))) (Qf (Qk (QE K rfl AN PySem.F.slot_str_join PySem.F.type_str_join (Nb K rfl) Qe (A1 (Qg Qh (Qn (IZ Qe (Qv Zd (by rfl) T.aH boot_str (A1 (BN K (BN K (pu 0) Ia) Qd))) (Qv Zd (by rfl) T.aH boot_str (A1 (BN K (BN K (pu 0) Ia) Qd))))) (pu 8))))))))))))))),?_⟩;left;refine⟨by decide,λg0 au=>?_⟩;have g1:=Qc au (.lst []);have k0:=Qa (H:=H) (a:=g0) (o:=.lst []);generalize upd H g0 (.lst [])=H1 at *;have bg:=hC.1;refine⟨cl,rfl,⟨_,AI (g1 _ _ hc)⟩,Xh (xs:=cvs) (ou cl pl c cs H) ⟨g0,none,rfl,g1,k0⟩ (λi σ' H' _ h=>by obtain⟨_,_,_,g',_⟩:=h;exact AI (g' _ _ hc)) ?_ ?_⟩
 ·rintro i v _ H2 hv ⟨gl,x4,rfl,g,kg⟩;obtain⟨cp,ak,p,l,rfl,hp,hl,_⟩:=hC.getV hv;have hT:=AJ (K:=K) (g _ _ hp);left;have f1:=Pg i h8 h4;have f2:=h8 cp (C6 ak);refine⟨gl,l,_,_,rfl,rfl,kg,g _ _ hl,by rw[D1,D1,Cb];omega,λp2 b0=>⟨p2,_,rfl,g.trans (Qc b0 _),by rw[Qa,N7 ak,D9]⟩⟩
 ·rintro _ H2 ⟨gl,x4,rfl,g,kg⟩;rw[CH (by omega)] at kg;left;simp only[ZL];left;refine⟨pl,rfl,⟨_,g.seq hP⟩,Y2 (xs:=ns.map V.str) (n9 ns (ZO cs) gl H2) ⟨none,rfl,AK _,rfl⟩ (λi acc σ' H' _ h=>by obtain⟨_,_,g',_⟩:=h;exact(g.trans g').seq hP) (by rw[D1];omega) ?_ ?_⟩
  ·rintro i v acc _ H3 hv bc ⟨x0,rfl,g',rfl⟩;have ar:=Z0 hv;rw[Ct] at hv;obtain⟨z,J,rfl⟩:=Cv.mp hv;left;refine Zx (AI (g' _ _ kg)) ?_;left;refine Qs (λe=>?_) (λe=>?_)
   ·exact CN.mk ar (by rw[D0,D6];omega) ⟨_,rfl,g',by rw[WZ J,DY e,D9];rfl⟩
   ·exact CN.mk ar (by omega) ⟨_,rfl,g',by rw[WZ J,DZ (Classical.not_not.mp e),Cs]⟩
  ·rintro acc _ H3 ⟨x0,rfl,g',rfl⟩ pf hpf;rw[CH (by rw[D1];exact D2 _)] at *;have aw:(ns.filter λz=>decide (z∉ZO cs)).Nodup:=nd.filter _;have b7:∀z∈ns.filter λz=>decide (z∉ZO cs),z∈ns/\z∉ZO cs:=λz J=>by
    obtain⟨h1,h2⟩:=C4.mp J;exact⟨h1,C3 h2⟩
   have bl:(ns.filter λz=>decide (z∉ZO cs)).length<=8:=Co (Az _ _) b8;generalize (ns.filter λz=>decide (z∉ZO cs))=fr at *;have ga:=(g.trans g').trans (Qc hpf (.lst (fr.map V.str)));have kf:=Qa (H:=H3) (a:=pf) (o:=.lst (fr.map V.str));generalize upd H3 pf (.lst (fr.map V.str))=H4 at *;left;refine⟨by decide,λp1 aj=>?_⟩;have gb:=ga.trans (Qc aj (.lst []));have ag:=Qc aj (.lst []) _ _ kf;refine Yd (AI ag) (AI Qa) ?_;generalize upd H4 p1 (.lst [])=H5 at *;left;refine Qs (λ_=>q0 _ gb) (λne=>?_);have bf:0<fr.length:=by
    rcases Nat.eq_zero_or_pos fr.length with e|e
    ·rw[AO e] at ne;exact absurd rfl ne
    ·exact e
   refine Q0 (AI (gb _ _ hc)) ?_;left;refine Qs (λ_=>q0 _ gb) (λn4=>?_);refine⟨c,0,rfl,rfl,by omega,λm H6 g6 m0 _=>?_⟩;have gc:=gb.trans g6;have ao:=AI (K:=K) (g6 _ _ ag);left;rw[D1];have d0:=Ci m (show(fr.length:Int)≠0 by omega);have d1:=Cq m (show(0:Int)<fr.length by omega);obtain⟨k,hk⟩:=CT d0;rw[hk];refine⟨by omega,?_⟩;left;refine Zt ao λpa b9=>?_
   rw[XS];have gA:=Qc b9 (.lst ((fr.map V.str).drop k));have ka:=Qa (H:=H6) (a:=pa) (o:=.lst ((fr.map V.str).drop k));generalize upd H6 pa (.lst ((fr.map V.str).drop k))=H7 at *;refine Zt (gA.seq ao) λpb ax=>?_
   rw [Wo];have gB:=Qc ax (.lst ((fr.map V.str).take k));have kb:=Qa (H:=H7) (a:=pb) (o:=.lst ((fr.map V.str).take k));generalize upd H7 pb (.lst ((fr.map V.str).take k))=H8 at *;refine ⟨pa,pb,_,_,rfl,rfl,gB _ _ ka,kb,by rw [Ag,CC,D1,Cb];omega,fun pc ba=>?_⟩;rw [<-List.map_drop,<-List.map_take,<-D9];have rn:(fr.drop k++fr.take k).Nodup:=by
    have h:=aw;rw [<-Aj k fr] at h;obtain ⟨h1,h2,h3⟩:=C7.mp h;exact C7.mpr ⟨h2,h1,fun a ha b hb e=>h3 b hb a ha e.symm⟩
   have rm:∀z∈fr.drop k++fr.take k,z∈fr:=λz J=>by
    rcases Cr.mp J with h|h
    ·exact List.mem_of_mem_drop h
    ·exact List.mem_of_mem_take h
   have rl:(fr.drop k++fr.take k).length=fr.length:=by rw[D0,Ag,CC];omega
   generalize fr.drop k++fr.take k=rot at *;have gC:=Qc ba (.lst (rot.map V.str));have kc:=Qa (H:=H8) (a:=pc) (o:=.lst (rot.map V.str));generalize upd H8 pc (.lst (rot.map V.str))=H9 at *;have gd:=((gc.trans gA).trans gB).trans gC;left;refine⟨by unfold VJ;decide,by decide,λps ay=>⟨c,1,rfl,rfl,by omega,λms bj a9 _ _=>?_⟩⟩;have ks:=a9 _ _ (Qa (H:=H9) (a:=ps) (o:=.lst [.int 60,.int (10 ^ Int.toNat 9+1)]));have gs:=(Qc ay (.lst [.int 60,.int (10 ^ Int.toNat 9+1)])).trans a9;left;obtain⟨sv,av,ai⟩:=Wu (a:=.int 60) (b:=.int (10 ^ Int.toNat 9+1)) ms;obtain⟨sz,rfl,U,bh⟩:∃w:Int,sv=.int w/\0<w/\w<=1000000001:=by rcases ai with rfl|rfl;exact⟨_,rfl,by decide,by decide⟩;exact⟨_,rfl,by decide,by decide⟩
   refine⟨trivial,QA (AI ks) av ?_⟩
   replace gd:=gd.trans gs
   replace kc:=gs _ _ kc
   clear ks gs a9;left;refine⟨c,2,rfl,rfl,by omega,λm2 ae a7 _ _=>?_⟩;have ah:=AI (K:=K) (a7 _ _ kc);left;rw[D1];have e0:=Ci m2 (show(rot.length:Int)≠0 by omega);have e1:=Cq m2 (show(0:Int)<rot.length by omega);obtain⟨k2,b1⟩:=CT e0;rw[b1];refine⟨by omega,?_⟩;left;refine Zt ah λpn aq=>?_
   rw[show(1+(k2:Int))=((k2+1:Nat):Int) by omega,Wo,<-List.map_take];have nn:(rot.take (k2+1)).Nodup:=rn.sublist (List.take_sublist _ _);have nm:∀z∈rot.take (k2+1),z∈ns/\z∉ZO cs:=λz J=>b7 z (rm z (List.mem_of_mem_take J))
   have nl:1<=(rot.take (k2+1)).length/\(rot.take (k2+1)).length<=8:=by rw[CC];omega
   generalize rot.take (k2+1)=nms at *;have gN:=Qc aq (.lst (nms.map V.str));have kn:=Qa (H:=ae) (a:=pn) (o:=.lst (nms.map V.str));generalize upd ae pn (.lst (nms.map V.str))=H11 at *;have ge:=(gd.trans a7).trans gN;have a8:=(gd.trans a7).free aq;left;refine⟨.inl ⟨rfl,_,AI (ge _ _ hc)⟩,c,3,rfl,rfl,by omega,λma bo bb _ _=>?_⟩;left;have ha:Zg (ma % sz):=⟨Ci ma (by omega),by have:=Cq ma U;omega⟩
   refine⟨U,c,1,rfl,rfl,by omega,λmb af b4 _ _=>?_⟩;generalize ma % sz=a at *;left;have hb:Zg (mb.fdiv 2 % sz):=⟨Ci _ (by omega),by have:=Cq (mb.fdiv 2) U;omega⟩
   refine⟨⟨by decide,(IB (m:=60) (by decide) (by decide)).mono (by decide)⟩,U,?_⟩;generalize mb.fdiv 2 % sz=b at *;refine⟨by decide,λpt b6=>?_⟩;have gT:=Qc b6 (.tup [.int a,.int b,.ref pn]);have kt:=Qa (H:=af) (a:=pt) (o:=.tup [.int a,.int b,.ref pn]);generalize upd af pt (.tup [.int a,.int b,.ref pn])=H14 at *;have gt:=bb.trans (b4.trans gT);have gf:=ge.trans gt;have a6:=gt _ _ kn;have a4:=gf _ _ hc;have kp:=QZ (N:=λb=>b≠cl) (o:=.lst (cvs++[.ref pt])) a4 λb h=>h
   have nc:pn≠cl:=λe=>by rw[e,hc] at a8;cases a8
   have a5:=AJ (K:=K) (kp _ _ kt (.inr λvs e=>nomatch e));have la:(nt a).length<=100:=len_num ha.1 (by have:=ha.2;omega);have lb:(nt b).length<=100:=len_num hb.1 (by have:=hb.2;omega);refine⟨cl,_,_,rfl,rfl,a4,by rw[Cb];omega,by trivial,?_⟩;refine QA (AI Qa) (Q5 _ _) (Zq a5 rfl (.inl ⟨a,rfl,Xf ha.1 (by have:=ha.2;omega),QA (AI Qa) (Q5 _ _) (Zq a5 rfl (.inl ⟨b,rfl,Xf hb.1 (by have:=hb.2;omega),by decide,λpj b2=>?_⟩))⟩));have gJ:=Qc b2 (.lst [.str "cap",.str (Str.ofString (toString a)),.str (Str.ofString (toString b))]);refine⟨pj,pn,_,_,rfl,rfl,Qa,gJ _ _ (kp _ _ a6 (.inl nc)),by rw[D1,Cb];show 3+nms.length<=_;omega,λpk az=>?_⟩;rw[ZG];refine⟨blank,pk,q_ "cap" :: nt a::nt b::nms,rfl,rfl,AI Qa,?_,?_⟩
   ·have hs:(nms.map (·.length)).sum<=nms.length*1000:=by
     have:∀l:List Str,(∀z∈l,z.length<=1000)->(l.map (·.length)).sum<=l.length*1000:=by
      intro l
      induction l with
      | nil=>simp
      | cons x l ih=>
       intro h;have h1:=h x Cw;have h2:=ih λy hy=>h y (Cu _ hy)
       simp only[CQ,List.sum_cons,Cm];omega
     exact this _ λz J=>(ZM (aa z (nm z J).1)).2.1
    have h3:(q_ "cap").length=3:=by decide +kernel
    have h2:blank.length=1:=rfl;simp only[CQ,List.sum_cons,Cm,h2,h3];omega
   ·refine q1 a b nms pt pn H14 _ gf ⟨ha,hb,λz J=>aa z (nm z J).1,nl.1,nl.2⟩ (λz J=>(nm z J).1) (C7.mpr ⟨nn,b5,λa ha b hb e=>(nm a ha).2 (by rw[e];exact hb)⟩) (by omega) a8 a6 kt (gJ.trans (Qc az _))
def nT (K:W.Frag)(H:Hp)(z:Str)(v:V):Prop:=∃p r,v=.ref p/\A9 K H p (.str z::r)
inductive Oj (K)(x y z:V)(H)(Q:VK):Prop
 | mk (a pl:Addr) (c:Int) (vs:List V) (ts ns:List Str) (h1:x=.ref a) (h2:y=.ref pl) (h3:z=.int c) (h4:H a=some (.lst vs)) (h5:All2 (nT K H) ts vs) (h6:A6 K H pl (ns.map V.str)) (h7:∀z∈ns,Q7 z) (h8':ns.length<=8) (h9:ts.length<=100)
   (q0:(∀z∈ns,z∈ts)->∀H',Same H H'->Q (.str (q_ "")) H')
   (q1:∀z p (q:Nat->Addr) H1 H',Same H H1->z∈ns->z∉ts->H1 p=some (.tup [.str z,.ref (q 0),.ref (q 1),.ref (q 2),.ref (q 3),.ref (q 4),.ref (q 5),.ref (q 6)])->(∀j<7,H (q j)=none/\H1 (q j)=some (.lst []))->(∀i<7,∀j<7,q i=q j->i=j)->Same (upd H1 a (.lst (vs++[.ref p]))) H'->Q (.str (Row.kind z).tx) H'):Oj K x y z H Q
def oV (ts:List Str)(H:Hp)(i:Nat)(acc:List V)(σ':L2.St)(H':Hp):Prop:=∃x0,σ'=[x0]/\Same H H'/\acc=(ts.take i).map V.str
theorem iO (T:Tx w K mg):GF P w K mg base 2 "_law_kind" ["_law_kinds","_law_pool_here","_law_cell_here"] (Sp3M (Oj K)):=by
 refine Zf T 85 ["_law_kinds","_law_pool_here","_law_cell_here","_law_there","_law_free","_law_title"] JU λH Q af hr h=>?_
 obtain⟨_,_,_,rfl,a,pl,c,vs,ts,ns,rfl,rfl,rfl,ha,hA,hP,a9,ba,ay,q0,q1⟩:=h;refine⟨_,(Qb (A5 3 (Ij ["_law_one"] [none] (Ie K rfl (pu 0)) (GE 0) QU (BM K 0))) (Qb (WV (i:=4) af rfl (Or.inl rfl) (N:=["_law_one","_law_there"]) (caps:=[none,some 3]) rfl Gx (Ie K rfl (pu 1)) (λ_ _ _ _=>Yh (i:=0) (show(["_law_one","_law_there"]:List Str).Nodup by decide +kernel) rfl (Or.inl rfl) (.inr rfl)) (λ_ _ _ _=>Va (ZA (Xe K rfl) (pu 0) (pu 1) (by with_unfolding_all rfl))) (λ_ _ _ _=>(pu 0))) (Qb (Qr (A8 (JX K) (pu 4) (Qn Qz)) (Qf (Qk Qe)) Ql) (Qb (A5 5 (BN K (pu 4) (Qg Qo (A7 (aA T) (A3 (pu 2) Qd)) (IC K T.aB (pu 4))))) (Qb (QH (QE K rfl CJ CM CO Qy (pu 0) (A1 (QY (Qp (pu 5) (Qp (Qn Qz) (Qp (Qn Qz) (Ig (Qn Qz) (Qn Qz) (Qn Qz) (Qn Qz) (Qn Qz))))))))) (Qf (Qk (Qg Qh Qe (pu 5))))))))),?_⟩;have ak:=hA.1;left;simp only[ZL];left;refine⟨a,rfl,⟨_,AI ha⟩,Y2 (xs:=vs) (oV ts H) ⟨none,rfl,AK _,rfl⟩ (λi acc σ' H' _ h=>by obtain⟨_,_,g',_⟩:=h;exact AI (g' _ _ ha)) (by omega) ?_ ?_⟩
 ·rintro i v acc _ H3 hv a4 ⟨x0,rfl,g',rfl⟩;obtain⟨z,hz,p,r,rfl,hT⟩:=hA.getV hv;have ae:=g'.sqT hT;simp only[ZS];left;refine Zq ae (QV (j:=0) rfl) ?_;exact CN.mk (Z0 hv) (by rw[D0,D6];omega) ⟨_,rfl,g',by rw[CS,hz,D9];rfl⟩
 ·rintro acc _ H2 ⟨x0,rfl,g,rfl⟩ pt hpt;rw[CH (by omega)] at *;have ga:=g.trans (Qc hpt (.lst (ts.map V.str)));have kt:=Qa (H:=H2) (a:=pt) (o:=.lst (ts.map V.str));generalize upd H2 pt (.lst (ts.map V.str))=H3 at *;left;refine⟨pl,rfl,⟨_,ga.seq hP⟩,Y2 (xs:=ns.map V.str) (n9 ns ts pt H3) ⟨none,rfl,AK _,rfl⟩ (λi acc σ' H' _ h=>by obtain⟨_,_,g',_⟩:=h;exact(ga.trans g').seq hP) (by rw[D1];omega) ?_ ?_⟩
  ·rintro i v acc _ H3 hv a4 ⟨x0,rfl,g',rfl⟩;have a8:=Z0 hv;rw[Ct] at hv;obtain⟨z,hz,rfl⟩:=Cv.mp hv;left;refine Zx (AI (g' _ _ kt)) ?_;left;refine Qs (λe=>?_) (λe=>?_)
   ·exact CN.mk a8 (by rw[D0,D6];omega) ⟨_,rfl,g',by rw[WZ hz,DY e,D9];rfl⟩
   ·exact CN.mk a8 (by omega) ⟨_,rfl,g',by rw[WZ hz,DZ (Classical.not_not.mp e),Cs]⟩
  ·rintro acc _ H4 ⟨x0,rfl,g',rfl⟩ pf hpf;rw[CH (by rw[D1];exact D2 _)] at *;have ag:∀z∈ns.filter λz=>decide (z∉ts),z∈ns/\z∉ts:=λz hz=>by
    obtain⟨h1,h2⟩:=C4.mp hz;exact⟨h1,C3 h2⟩
   have ah:(ns.filter λz=>decide (z∉ts))=[]->∀z∈ns,z∈ts:=λe z hz=>by
    by_cases h:z∈ts
    ·exact h
    ·have:z∈ns.filter λz=>decide (z∉ts):=C4.mpr ⟨hz,Ck h⟩
     rw[e] at this;cases this
   generalize (ns.filter λz=>decide (z∉ts))=fr at *;have gb:=(ga.trans g').trans (Qc hpf (.lst (fr.map V.str)));have kf:=Qa (H:=H4) (a:=pf) (o:=.lst (fr.map V.str));generalize upd H4 pf (.lst (fr.map V.str))=H5 at *;left;refine⟨by decide,λp1 a6=>?_⟩;have gc:=gb.trans (Qc a6 (.lst []));have a5:=Qc a6 (.lst []) _ _ kf;refine Yd (AI a5) (AI Qa) ?_;generalize upd H5 p1 (.lst [])=H6 at *;left;refine Qs (λe=>q0 (ah (by simpa using e)) _ gc) (λne=>?_);have ai:0<fr.length:=by
    rcases Nat.eq_zero_or_pos fr.length with e|e
    ·rw[AO e] at ne;exact absurd rfl ne
    ·exact e
   refine⟨c,0,rfl,rfl,by omega,λm H7 g7 m0 _=>?_⟩;have gd:=gc.trans g7;have aa:=AI (K:=K) (g7 _ _ a5);left;rw[D1];have d0:=Ci m (show(fr.length:Int)≠0 by omega);have d1:=Cq m (show(0:Int)<fr.length by omega);obtain⟨k,hk⟩:=CT d0;rw[hk];have a7:k<fr.length:=by omega
   refine⟨by omega,QA aa (v:=.str fr[k]) (QV (by rw[Ct,D4 a7];rfl)) ?_⟩;obtain⟨z1,z2⟩:=ag _ (List.getElem_mem a7);generalize fr[k]=z at *;left;refine⟨.inl ⟨rfl,_,AI (gd _ _ ha)⟩,by decide,λp0 h0=>?_⟩;have s0:=Qc h0 (.lst []);have k0:=Qa (H:=H7) (a:=p0) (o:=.lst []);generalize upd H7 p0 (.lst [])=J0 at *;refine⟨by decide,λp1 h1=>?_⟩;have s1:=Qc h1 (.lst []);have k1:=Qa (H:=J0) (a:=p1) (o:=.lst []);generalize upd J0 p1 (.lst [])=J1 at *;refine⟨by decide,λp2 h2=>?_⟩;have U:=Qc h2 (.lst []);have k2:=Qa (H:=J1) (a:=p2) (o:=.lst []);generalize upd J1 p2 (.lst [])=J2 at *;refine⟨by decide,λp3 h3=>?_⟩;have J:=Qc h3 (.lst []);have k3:=Qa (H:=J2) (a:=p3) (o:=.lst []);generalize upd J2 p3 (.lst [])=J3 at *;refine⟨by decide,λp4 h4=>?_⟩;have s4:=Qc h4 (.lst []);have k4:=Qa (H:=J3) (a:=p4) (o:=.lst []);generalize upd J3 p4 (.lst [])=J4 at *;refine⟨by decide,λp5 h5=>?_⟩;have s5:=Qc h5 (.lst []);have k5:=Qa (H:=J4) (a:=p5) (o:=.lst []);generalize upd J4 p5 (.lst [])=J5 at *;refine⟨by decide,λp6 h6=>?_⟩;have s6:=Qc h6 (.lst []);have k6:=Qa (H:=J5) (a:=p6) (o:=.lst []);generalize upd J5 p6 (.lst [])=J6 at *;refine⟨by decide,λp7 h7=>?_⟩;have s7:=Qc h7 (.tup [.str z,.ref p0,.ref p1,.ref p2,.ref p3,.ref p4,.ref p5,.ref p6]);have k7:=Qa (H:=J6) (a:=p7) (o:=.tup [.str z,.ref p0,.ref p1,.ref p2,.ref p3,.ref p4,.ref p5,.ref p6]);generalize upd J6 p7 (.tup [.str z,.ref p0,.ref p1,.ref p2,.ref p3,.ref p4,.ref p5,.ref p6])=J7 at *;have c0:J7 p0=some (.lst []):=(((((((s1).trans U).trans J).trans s4).trans s5).trans s6).trans s7) _ _ k0;have c1:J7 p1=some (.lst []):=((((((U).trans J).trans s4).trans s5).trans s6).trans s7) _ _ k1;have c2:J7 p2=some (.lst []):=(((((J).trans s4).trans s5).trans s6).trans s7) _ _ k2;have c3:J7 p3=some (.lst []):=((((s4).trans s5).trans s6).trans s7) _ _ k3;have c4:J7 p4=some (.lst []):=(((s5).trans s6).trans s7) _ _ k4;have c5:J7 p5=some (.lst []):=((s6).trans s7) _ _ k5;have c6:J7 p6=some (.lst []):=(s7) _ _ k6;have gz:Same H7 J7:=((((((s0.trans s1).trans U).trans J).trans s4).trans s5).trans s6).trans s7;have f0:H p0=none:=gd.free h0;have f1:H p1=none:=(gd.trans s0).free h1;have f2:H p2=none:=((gd.trans s0).trans s1).free h2;have f3:H p3=none:=(((gd.trans s0).trans s1).trans U).free h3;have f4:H p4=none:=((((gd.trans s0).trans s1).trans U).trans J).free h4;have f5:H p5=none:=(((((gd.trans s0).trans s1).trans U).trans J).trans s4).free h5;have f6:H p6=none:=((((((gd.trans s0).trans s1).trans U).trans J).trans s4).trans s5).free h6;have au:p0≠p1:=Qi k0 h1;have b3:p0≠p2:=Qi ((s1) _ _ k0) h2;have ao:p0≠p3:=Qi (((s1).trans U) _ _ k0) h3;have aq:p0≠p4:=Qi ((((s1).trans U).trans J) _ _ k0) h4;have b4:p0≠p5:=Qi (((((s1).trans U).trans J).trans s4) _ _ k0) h5;have bc:p0≠p6:=Qi ((((((s1).trans U).trans J).trans s4).trans s5) _ _ k0) h6;have ax:p1≠p2:=Qi k1 h2;have b2:p1≠p3:=Qi ((U) _ _ k1) h3;have b7:p1≠p4:=Qi (((U).trans J) _ _ k1) h4;have ar:p1≠p5:=Qi ((((U).trans J).trans s4) _ _ k1) h5;have bb:p1≠p6:=Qi (((((U).trans J).trans s4).trans s5) _ _ k1) h6;have aj:p2≠p3:=Qi k2 h3;have b1:p2≠p4:=Qi ((J) _ _ k2) h4;have av:p2≠p5:=Qi (((J).trans s4) _ _ k2) h5;have aw:p2≠p6:=Qi ((((J).trans s4).trans s5) _ _ k2) h6;have b6:p3≠p4:=Qi k3 h4;have b5:p3≠p5:=Qi ((s4) _ _ k3) h5;have az:p3≠p6:=Qi (((s4).trans s5) _ _ k3) h6;have b9:p4≠p5:=Qi k4 h5;have b0:p4≠p6:=Qi ((s5) _ _ k4) h6;have b8:p5≠p6:=Qi k5 h6;have ge:=gd.trans gz;have lz:=(ZM (a9 z z1)).2.1;have lk:(Str.ofString "kind ").length=5:=by decide +kernel
   refine⟨a,_,_,rfl,rfl,ge _ _ ha,by rw[Cb];omega,by rw[Cb];omega,?_⟩;have e:(Row.kind z).tx=Str.ofString "kind "++z:=by
    show Txt.join blank [q_ "kind",z]=_;rw[mH,show Str.ofString "kind "=q_ "kind"++blank by decide +kernel]
   rw [<-e];refine q1 z p7 (fun j=>match j with | 0=>p0 | 1=>p1 | 2=>p2 | 3=>p3 | 4=>p4 | 5=>p5 | _=>p6) J7 _ ge z1 z2 k7 (fun j hj=>?_) (fun i hi j hj e=>?_) (AK _)
   ·rcases(show j=0∨j=1∨j=2∨j=3∨j=4∨j=5∨j=6 by omega) with rfl|rfl|rfl|rfl|rfl|rfl|rfl
    ·exact⟨f0,c0⟩
    ·exact⟨f1,c1⟩
    ·exact⟨f2,c2⟩
    ·exact⟨f3,c3⟩
    ·exact⟨f4,c4⟩
    ·exact⟨f5,c5⟩
    ·exact⟨f6,c6⟩
   ·rcases(show i=0∨i=1∨i=2∨i=3∨i=4∨i=5∨i=6 by omega) with rfl|rfl|rfl|rfl|rfl|rfl|rfl<;>rcases(show j=0∨j=1∨j=2∨j=3∨j=4∨j=5∨j=6 by omega) with rfl|rfl|rfl|rfl|rfl|rfl|rfl<;>first|rfl|exact absurd e (by assumption)|exact absurd e.symm (by assumption)
theorem YW {α}[DecidableEq α]:∀{l m:List α},l.Nodup->(∀x∈l,x∈m)->l.length<=m.length
 | [],_,_,_=>CF _
 | x::l,m,h,s=>by
  have U:=s x Cw;have h2:=CZ.mp h;have ih:=YW (l:=l) (m:=m.erase x) h2.2 fun y J=>(List.mem_erase_of_ne (fun e:y=x=>h2.1 (by rw [<-e];exact J))).mpr (s y (Cu _ J))
  rw[List.length_erase_of_mem U] at ih;have:=List.length_pos_of_mem U;rw[Cm];omega
theorem YM:∀{rs} {ks} {cs} {as} {row},run ks cs as (rs++[row])=(kS (run ks cs as rs).1 row,cS (run ks cs as rs).2.1 row,aS (run ks cs as rs).2.2 row)
 | [],_,_,_,_=>rfl
 | r::rs,ks,cs,as,row=>by
  show run (kS ks r) (cS cs r) (aS as r) (rs++[row])=_;rw[YM];rfl
theorem Y8:∀{rs} {ks} {cs} {row} (as),IM ks cs rs->row.Ok->UH (run ks cs as rs).1 (run ks cs as rs).2.1 row->IM ks cs (rs++[row])
 | [],_,_,_,_,_,ok,fi=>⟨ok,fi,trivial⟩
 | r::rs,ks,cs,row,as,h,ok,fi=>⟨h.1,h.2.1,Y8 (aS as r) h.2.2 ok fi⟩
structure RI (ns:List Str)(rs:List Row)(ks:List (Str×List Itm))(cs:List Cp)(as:List Str):Prop where
 acc:IM [] [] rs
 run:run [] [] [] rs=(ks,cs,as)
 ain:∀z∈as,z∈ns
 sml:Sml rs.length ks cs as
 tin:∀k∈ks,k.1∈ns
 tnd:(ks.map (·.1)).Nodup
 of:∀k∈ks,Zw k.2
 fnd:(ZO cs).Nodup
 c4:cs.length<=4
theorem RI.start (ns):RI ns [] [] [] []:=⟨trivial,rfl,(λz h=>by cases h),⟨D2 _,D2 _,D2 _,(λk h=>by cases h),λk h=>by cases h⟩,(λz h=>by cases h),AG,(λz h=>by cases h),AG,by decide⟩
theorem UC:∀{ks} {x},(WH ks x).map (·.1)=ks.map (·.1)
 | [],_=>rfl
 | [_],_=>rfl
 | k::k2::r,x=>by show k.1::(WH (k2::r) x).map (·.1)=_;rw[UC];rfl
theorem RI.kind (h:RI ns rs ks cs as){z}(hn:ns.length<=8)(hok:Q7 z)(hz:z∈ns)(hz':z∉ks.map (·.1)):RI ns (rs++[.kind z]) (ks++[(z,[])]) cs as:=by
 have nd:(ks.map (·.1)++[z]).Nodup:=C7.mpr ⟨h.tnd,by simp,fun a ha b hb e=>hz' (by rw [D7.mp hb] at e;rw [<-e];exact ha)⟩;have sub:∀ x∈ks.map (·.1)++[z],x∈ns:=fun x U=>by
  rcases Cr.mp U with U|U
  ·obtain⟨k,J,rfl⟩:=C8.mp U;exact h.tin k J
  ·rw[D7.mp U];exact hz
 have le:=YW nd sub;rw[D0,D1,D6] at le;have e:=h.run;have fi:UH ks cs (.kind z):=⟨by omega,hz'⟩
 refine⟨Y8 [] h.acc hok (by rw[e];exact fi),by rw[YM,e];rfl,h.ain,?_,λk J=>?_,by rw[D9];exact nd,λk J=>?_,h.fnd,h.c4⟩
 ·rw[D0];exact h.sml.step (row:=.kind z) hok
 ·rcases Cr.mp J with J|J
  ·exact h.tin k J
  ·rw[D7.mp J];exact hz
 ·rcases Cr.mp J with J|J
  ·exact h.of k J
  ·rw[D7.mp J];exact Kk
theorem RI.cap (h:RI ns rs ks cs as){a b:Int}{nms}(hok:(Row.cap a b nms).Ok)(hin:∀z∈nms,z∈ns)(nd:(nms++ZO cs).Nodup)(h4:cs.length<4):RI ns (rs++[.cap a b nms]) ks (cs++[(a,b,nms)]) (as++nms):=by
 have e:=h.run;have fi:UH ks cs (.cap a b nms):=⟨h4,nd⟩
 refine⟨Y8 [] h.acc hok (by rw[e];exact fi),by rw[YM,e];rfl,λz J=>?_,?_,h.tin,h.tnd,h.of,?_,by rw[D0,D6];omega⟩
 ·rcases Cr.mp J with J|J
  ·exact h.ain z J
  ·exact hin z J
 ·rw[D0];exact h.sml.step (row:=.cap a b nms) hok
 ·have:ZO (cs++[(a,b,nms)])=ZO cs++nms:=by unfold ZO;rw[D9,Ap];simp
  rw[this];obtain⟨h1,h2,h3⟩:=C7.mp nd;exact C7.mpr ⟨h2,h1,λa ha b U e=>h3 b U a ha e.symm⟩
theorem RI.itm (h:RI ns rs (ks0++[(z,xs)]) cs as){x}(hok:x.Ok)(fi:Xl xs x)(ho:Zw (xs++[x]))(hin:∀z r s,x=.cnt z r s->z∈ns):RI ns (rs++[.itm x]) (ks0++[(z,xs++[x])]) cs (aS as (.itm x)):=by
 have e:=h.run;have a4:UH (ks0++[(z,xs)]) cs (.itm x):=⟨ks0,z,xs,rfl,fi⟩
 have ek:kS (ks0++[(z,xs)]) (.itm x)=ks0++[(z,xs++[x])]:=Yp;refine⟨Y8 [] h.acc hok (by rw[e];exact a4),by rw[YM,e];show(kS (ks0++[(z,xs)]) (.itm x),cs,aS as (.itm x))=_;rw[ek],λy U=>?_,?_,λk J=>?_,?_,λk J=>?_,h.fnd,h.c4⟩
 ·cases x with
  | cnt z2 r s=>
   rcases Cr.mp (show y∈as++[z2] from U) with U|U
   ·exact h.ain y U
   ·rw[D7.mp U];exact hin z2 r s rfl
  | _=>exact h.ain y U
 ·have:=h.sml.step (row:=.itm x) hok;rw[ek] at this;rw[D0];exact this
 ·rcases Cr.mp J with J|J
  ·exact h.tin k (C0 _ J)
  ·rw[D7.mp J];exact h.tin (z,xs) (by simp)
 ·have:=h.tnd;rw[D9] at this ⊢;exact this
 ·rcases Cr.mp J with J|J
  ·exact h.of k (C0 _ J)
  ·rw[D7.mp J];exact ho
structure LwS (K:W.Frag)(N:Addr->Prop)(ow:Addr->Nat)(H:Hp)(a c:Addr)(ps:List Addr)(qs:Nat->Nat->Addr)(cvs:List V)(bs:List (Nat×Addr×List V))(ks:List (Str×List Itm))(cs:List Cp):Prop where
 ha:H a=some (.lst (ps.map V.ref))
 hc:H c=some (.lst cvs)
 na:N a
 nc:N c
 dl:ps.length=ks.length
 dr:∀(i:Nat) p k,ps[i]?=some p->ks[i]?=some k->KL K H p k.1 k.2 (qs i)
 nq:∀i<ks.length,∀j<7,N (qs i j)
 cr:All2 (CL K (λl=>ow l=3) H) cs cvs
 oa:ow a=0
 oc:ow c=1
 oq:∀i<ks.length,∀j<7,ow (qs i j)=10+7*i+j
 hb:∀e∈bs,H e.2.1=some (.lst e.2.2)/\ow e.2.1=e.1/\4<=e.1/\e.1<10
theorem LwS.mono {c}{ps}{bs}(g:Same H H')(S:LwS K N ow H a c ps qs cvs bs ks cs):LwS K N ow H' a c ps qs cvs bs ks cs:=
 ⟨g _ _ S.ha,g _ _ S.hc,S.na,S.nc,S.dl,λi p k hp J=>(S.dr i p k hp J).mono g,S.nq,Jy (.of g) S.cr,S.oa,S.oc,S.oq,λe he=>⟨g _ _ (S.hb e he).1,(S.hb e he).2⟩⟩
theorem LwS.lst_q {c}{ps}{bs}(S:LwS K N ow H a c ps qs cvs bs ks cs){i j:Nat}(hi:i<ks.length)(hj:j<7):∃vs,H (qs i j)=some (.lst vs):=by
 obtain⟨vs,h,_⟩:=(S.dr i ps[i]! ks[i] (by rw[List.getElem!_eq_getElem?_getD,D4 (by rw[S.dl];exact hi)];rfl) (D4 hi)).hq j hj;exact⟨vs,h⟩
theorem Pp (h:All2 (CL K N H) cs vs)(hn:∀l us,H l=some (.lst us)->N l->N' l):All2 (CL K N' H) cs vs:=⟨h.1,λi a b J U=>by
 obtain⟨p,l,e,h1,h2,n⟩:=h.2 i a b J U;exact⟨p,l,e,h1,h2,hn _ _ h2 n⟩⟩
theorem LwS.reown {c}{ps}{bs}{ow'}(S:LwS K N ow H a c ps qs cvs bs ks cs)(h:∀b vs,H b=some (.lst vs)->ow' b=ow b):LwS K N ow' H a c ps qs cvs bs ks cs:=
 ⟨S.ha,S.hc,S.na,S.nc,S.dl,S.dr,S.nq,Pp S.cr λl us e n=>by rw[h _ _ e];exact n,by rw[h _ _ S.ha];exact S.oa,by rw[h _ _ S.hc];exact S.oc,λi hi j J=>by
  obtain⟨vs,e⟩:=S.lst_q hi J;rw[h _ _ e];exact S.oq i hi j J,λe he=>⟨(S.hb e he).1,by rw[h _ _ (S.hb e he).1];exact(S.hb e he).2.1,(S.hb e he).2.2⟩⟩
theorem LwS.upK {c}{ps}{bs}(S:LwS K N ow H a c ps qs cvs bs ks cs){p}{z}{q}(hD:KL K H p z [] q)(hq:∀j<7,N (q j)/\ow (q j)=10+7*ks.length+j):LwS K N ow (upd H a (.lst (ps.map V.ref++[.ref p]))) a c (ps++[p]) (λi=>if i=ks.length then q else qs i) cvs bs (ks++[(z,[])]) cs:=by
 have a4:=S.dl;have oa:=S.oa;have oc:=S.oc;have kc:Kp (λl=>ow l=3) H (upd H a (.lst (ps.map V.ref++[.ref p]))):=QZ S.ha λb hb=>QP ow (by rw[hb,oa];decide)
 refine⟨by rw[Qa,D9];rfl,by rw[Qj (QP ow (by rw[oa,oc];decide))];exact S.hc,S.na,S.nc,by rw[D0,D0,a4];rfl,λi p' k U hk=>?_,λi hi j J=>?_,Jy kc S.cr,oa,oc,λi hi j J=>?_,λe he=>?_⟩
 ·have hi:i<(ks++[(z,([]:List Itm))]).length:=(Cg.mp hk).1;rw[D0,D6] at hi;by_cases e:i=ks.length
  ·subst e;rw [<-a4,CG (D2 _),CK] at U;rw [CG (D2 _),CK] at hk;cases U;cases hk;simp only [if_true];exact hD.upd S.ha fun j J=>QP ow (by rw [(hq j J).2,oa];omega)
  ·rw[CI (by omega)] at U hk;simp only[DY e];exact(S.dr i p' k U hk).upd S.ha λj J=>QP ow (by rw[S.oq i (by omega) j J,oa];omega)
 ·rw[D0,D6] at hi;by_cases e:i=ks.length
  ·subst e;simp only[if_true];exact(hq j J).1
  ·simp only[DY e];exact S.nq i (by omega) j J
 ·rw[D0,D6] at hi;by_cases e:i=ks.length
  ·subst e;simp only[if_true];exact(hq j J).2
  ·simp only[DY e];exact S.oq i (by omega) j J
 ·obtain⟨h1,h2,h3,h4⟩:=S.hb e he;exact⟨by rw[Qj (QP ow (by rw[h2,oa];omega))];exact h1,h2,h3,h4⟩
theorem LwS.upC {c}{ps}{bs}(S:LwS K N ow H a c ps qs cvs bs ks cs){cp}{v}(hc:CL K (λl=>ow l=3) H cp v):LwS K N ow (upd H c (.lst (cvs++[v]))) a c ps qs (cvs++[v]) bs ks (cs++[cp]):=by
 have oa:=S.oa;have oc:=S.oc;have kc:Kp (λl=>ow l=3) H (upd H c (.lst (cvs++[v]))):=QZ S.hc λb hb=>QP ow (by rw[hb,oc];decide)
 refine⟨by rw[Qj (QP ow (by rw[oa,oc];decide))];exact S.ha,Qa,S.na,S.nc,S.dl,λi p k hp U=>(S.dr i p k hp U).upd S.hc λj hj=>QP ow (by rw[S.oq i (Cg.mp U).1 j hj,oc];omega),S.nq,?_,oa,oc,S.oq,λe he=>?_⟩
 ·have h:=Jy kc S.cr;have hl:=h.1;refine⟨by rw[D0,D0,hl];rfl,λi a b ha hb=>?_⟩;by_cases hi:i<cvs.length
  ·rw[CI (by omega)] at ha;rw[CI hi] at hb;exact h.2 i a b ha hb
  ·have J:i<(cvs++[v]).length:=(Cg.mp hb).1;rw[D0,D6] at J;have:i=cvs.length:=by omega
   subst this;rw[CG (by omega),hl,CK] at ha;rw[CG (D2 _),CK] at hb;cases ha;cases hb;exact hc.kp kc
 ·obtain⟨h1,h2,h3,h4⟩:=S.hb e he;exact⟨by rw[Qj (QP ow (by rw[h2,oc];omega))];exact h1,h2,h3,h4⟩
theorem LwS.upX {c}{ps}{bs}(S:LwS K N ow H a c ps qs cvs bs (ks0++[(z,xs)]) cs){x}{v}{vs}(hv:H (qs ks0.length x.sl)=some (.lst vs))(hx:LIt K H x v):LwS K N ow (upd H (qs ks0.length x.sl) (.lst (vs++[v]))) a c ps qs cvs bs (ks0++[(z,xs++[x])]) cs:=by
 have oa:=S.oa;have oc:=S.oc;have J:∀y:List Itm,(ks0++[(z,y)]).length=ks0.length+1:=λy=>by rw[D0];rfl
 have oq:ow (qs ks0.length x.sl)=10+7*ks0.length+x.sl:=S.oq _ (by rw[J];omega) _ (Xb x);have kc:Kp (λl=>ow l=3) H (upd H (qs ks0.length x.sl) (.lst (vs++[v]))):=QZ hv λb hb=>QP ow (by rw[hb,oq];omega)
 refine⟨by rw[Qj (QP ow (by rw[oa,oq];omega))];exact S.ha,by rw[Qj (QP ow (by rw[oc,oq];omega))];exact S.hc,S.na,S.nc,by rw[S.dl,J,J],λi p k hp hk=>?_,λi hi j U=>S.nq i (by rw[J] at *;exact hi) j U,Jy kc S.cr,oa,oc,λi hi j U=>S.oq i (by rw[J] at *;exact hi) j U,λe he=>?_⟩
 ·have hi:=(Cg.mp hk).1;rw[J] at hi;by_cases e:i=ks0.length
  ·subst e;have hD:=S.dr ks0.length p (z,xs) hp (by simp);have ek:k=(z,xs++[x]):=by simpa using hk.symm
   subst ek;exact hD.add hv (Gq λj U=>S.oq _ (by rw[J];omega) j U) hx
  ·rw[CI (by omega)] at hk;refine(S.dr i p k hp (by rw[CI (by omega)];exact hk)).upd hv λj U=>QP ow ?_
   rw[S.oq i (by rw[J];omega) j U,oq];have:=Xb x;omega
 ·obtain⟨h1,h2,h3,h4⟩:=S.hb e he;exact⟨by rw[Qj (QP ow (by rw[h2,oq];omega))];exact h1,h2,h3,h4⟩
theorem LwS.upB {c}{ps}{bs}{ws}(S:LwS K N ow H a c ps qs cvs ((n,r,vs)::bs) ks cs)(hn:∀e∈bs,e.1≠n):LwS K N ow (upd H r (.lst ws)) a c ps qs cvs ((n,r,ws)::bs) ks cs:=by
 have oa:=S.oa;have oc:=S.oc;obtain⟨U,o,n4,J⟩:=S.hb _ Cw;have U:H r=some (.lst vs):=U;have o:ow r=n:=o;have n4:4<=n:=n4;have J:n<10:=J;have kc:Kp (λl=>ow l=3) H (upd H r (.lst ws)):=QZ U λb hb=>QP ow (by rw[hb,o];omega)
 refine⟨by rw[Qj (QP ow (by rw[oa,o];omega))];exact S.ha,by rw[Qj (QP ow (by rw[oc,o];omega))];exact S.hc,S.na,S.nc,S.dl,λi p k hp hk=>(S.dr i p k hp hk).upd U λj hj=>QP ow (by rw[S.oq i (Cg.mp hk).1 j hj,o];omega),S.nq,Jy kc S.cr,oa,oc,S.oq,λe he=>?_⟩;rcases Ca.mp he with rfl|he
 ·exact⟨Qa,o,n4,J⟩
 ·obtain⟨h1,h2,h3,h4⟩:=S.hb e (Cu _ he);exact⟨by rw[Qj (QP ow (by rw[h2,o];exact hn e he))];exact h1,h2,h3,h4⟩
theorem LwS.addB {c}{ps}{bs}(S:LwS K N ow H a c ps qs cvs bs ks cs)(h0:H r=none)(g:Same H H')(hr:H' r=some (.lst vs))(n4:4<=n)(n10:n<10):LwS K N (λb=>if b=r then n else ow b) H' a c ps qs cvs ((n,r,vs)::bs) ks cs:=by
 have J:=(S.reown (ow':=λb=>if b=r then n else ow b) λb us hb=>DY (Qi hb h0)).mono g;refine⟨J.ha,J.hc,J.na,J.nc,J.dl,J.dr,J.nq,J.cr,J.oa,J.oc,J.oq,λe he=>?_⟩;rcases Ca.mp he with rfl|he
 ·exact⟨hr,DZ rfl,n4,n10⟩
 ·exact J.hb e he
def lV (K:W.Frag)(N:Addr->Prop)(H:Hp)(a c:Addr)(bs:List (Nat×Addr×List V))(ks:List (Str×List Itm))(cs:List Cp):Prop:=∃ow ps qs cvs,LwS K N ow H a c ps qs cvs bs ks cs
theorem LwS.ti {c}{ps}{bs}(S:LwS K N ow H a c ps qs cvs bs ks cs):All2 (nT K H) (ks.map (·.1)) (ps.map V.ref):=⟨by rw[D1,D1,S.dl],λi z v J U=>by
 rw[Ct] at J U;obtain⟨k,hk,rfl⟩:=Cv.mp J;obtain⟨p,hp,rfl⟩:=Cv.mp U;exact⟨p,_,rfl,AJ (S.dr i p k hp hk).hp⟩⟩
theorem F4 (ok:row.Ok):row.tx≠q_ "":=λe=>by
 have h:=W7 ok;rw[e] at h;have h2:Txt.split (q_ "") blank=[q_ ""]:=by decide +kernel
 rw[h2] at h;have:row.ws≠[]:=by
  cases row with
  | kind z=>simp[Row.ws]
  | cap a b ns=>simp[Row.ws]
  | itm x=>cases x<;>simp[Row.ws,Itm.ws]
 exact this (List.cons.inj h).2.symm
abbrev A2 (rs:List Row):List V:=rs.map λr=>.str r.tx
inductive Ik (K)(x y z u:V)(H)(Q:VK):Prop
 | mk (N:Addr->Prop) (d pl a c:Addr) (cl:List Int) (ns:List Str) (h1:x=.ref d) (h2:y=.ref pl) (h3:z=.ref a) (h4:u=.ref c) (h5:lV K N H a c [(5,d,cl.map V.int),(4,pl,ns.map V.str)] [] []) (hN:∀b,H b=none->N b) (h6:cl.length<=60) (h7:∀z∈ns,Q7 z) (h8:ns.Nodup) (h9:1<=ns.length/\ns.length<=8)
   (q:∀r rs ks cs as H',Sn N H H'->(∀b,H' b=none->N b)->lV K N H' a c [(6,r,A2 rs),(5,d,cl.map V.int),(4,pl,ns.map V.str)] ks cs->RI ns rs ks cs as->rs.length<=60->N r->Q (.ref r) H'):Ik K x y z u H Q
def lq (K:W.Frag)(N:Addr->Prop)(d pl a c r:Addr)(cl:List Int)(ns:List Str)(H:Hp)(i:Nat)(σ':L2.St)(H':Hp):Prop:=∃x5 x6 rs ks cs as,σ'=[some (.ref d),some (.ref pl),some (.ref a),some (.ref c),some (.ref r),x5,x6]/\Sn N H H'/\(∀b,H' b=none->N b)/\lV K N H' a c [(6,r,A2 rs),(5,d,cl.map V.int),(4,pl,ns.map V.str)] ks cs/\RI ns rs ks cs as/\rs.length<=i
theorem none_of (h:∀b,H b=none->N b)(g:Same H H'):∀b,H' b=none->N b:=λb hb=>h b (g.free hb)
theorem YV {c}{o}(h:∀b,H b=none->N b):∀b,upd H c o b=none->N b:=λb hb=>by
 by_cases e:b=c
 ·rw[e,Qa] at hb;cases hb
 ·rw[Qj e] at hb;exact h b hb
theorem bW (T:Tx w K mg):GF P w K mg base 6 "_law_rows" ["_law_cells","_law_pool_here","_law_kinds","_law_caps"] (Sp4M (Ik K)):=by
 refine Zf T 86 ["_law_cells","_law_pool_here","_law_kinds","_law_caps","_law_rows_here","_law_cell_here","_law_row"] By λH Q b6 hr h=>?_
 obtain⟨_,_,_,_,rfl,N,d,pl,a,c,cl,ns,rfl,rfl,rfl,rfl,⟨ow,ps,qs,cvs,S⟩,hN,b5,a4,nd,af,q⟩:=h;refine⟨_,(Qb (A5 4 (Qn Qz)) (Qb (fh (Ie K rfl (pu 0)) (GE 5) (Qb (Qr (A8 (QM K) (Qg Qo (pu 5) Qd) Qd) (Qf (A5 6 (A7 (iN T) (IZ (pu 3) (pu 1) (Qg Qx (pu 5) Qd))))) (Qf (Qr (PW.pt (YO (A8 (JX K) (pu 2) (Qn Qz)) (Wg (A8 (QM K) (Qg Qo (pu 5) Qd) Qd)))) (Qf (A5 6 (A7 (iO T) (IZ (pu 2) (pu 1) (Qg Qx (pu 5) Qd))))) (Qf (A5 6 (A7 (iM T) (IZ (BN K (pu 2) Ia) (pu 1) (Qg Qx (pu 5) Qd)))))))) (Qf (Qr (A8 (VM K) (pu 6) Qe) (Qf (QH (QE K rfl CJ CM CO Qy (pu 4) (A1 (pu 6))))) Ql)))) (Qf (Qk (pu 4))))),?_⟩;left;refine⟨by decide,λr hr=>?_⟩;have g1:=Qc hr (.lst []);have k1:=Qa (H:=H) (a:=r) (o:=.lst []);have S1:=S.addB (n:=6) hr g1 k1 (by decide) (by decide);generalize upd H r (.lst [])=H1 at *;have hd:∀{H':Hp} {rs:List Row} {ks:List (Str×List Itm)} {cs:List Cp},lV K N H' a c [(6,r,A2 rs),(5,d,cl.map V.int),(4,pl,ns.map V.str)] ks cs->A6 K H' d (cl.map V.int):=λ⟨_,_,_,_,T⟩=>AI (T.hb (5,d,cl.map V.int) (by simp)).1
 refine⟨d,rfl,⟨_,AI (S1.hb (5,d,cl.map V.int) (by simp)).1⟩,Xh (xs:=cl.map V.int) (lq K N d pl a c r cl ns H) ⟨none,none,[],[],[],[],rfl,.of g1,none_of hN g1,⟨_,_,_,_,S1⟩,RI.start ns,D2 _⟩ (λi σ' H' _ h=>by obtain⟨_,_,_,_,_,_,_,_,_,T,_⟩:=h;exact hd T) ?_ ?_⟩
 ·rintro i v _ H2 hv ⟨x5,x6,rs,ks,cs,as,rfl,sn,hN2,T,ri,len⟩;rw[Ct] at hv;obtain⟨m,hm,rfl⟩:=Cv.mp hv;have hi:i<60:=by have:=(Cg.mp hm).1;omega
  generalize hR:JP (uB (IS (sNe K) (Xj 6) _)) _ _=R;have a6:∀(D:QO) (H3:Hp),D.nx=lq K N d pl a c r cl ns H (i+1)->Same H2 H3->R D [some (.ref d),some (.ref pl),some (.ref a),some (.ref c),some (.ref r),some (.int m),some (.str (q_ ""))] H3:=by
   subst hR;intro D H3 hD g;left;rw[hD];obtain⟨U,ao,ak,a7,J⟩:=T;exact⟨_,_,rs,ks,cs,as,rfl,sn.trans (.of g),none_of hN2 g,⟨_,_,_,_,J.mono g⟩,ri,by omega⟩
  have a5:∀(D:QO) (row:Row) (ah:List (Str×List Itm)) (aa:List Cp) (ai:List Str) (H3:Hp),D.nx=lq K N d pl a c r cl ns H (i+1)->row.Ok->Sn N H H3->(∀b,H3 b=none->N b)->lV K N H3 a c [(6,r,A2 rs),(5,d,cl.map V.int),(4,pl,ns.map V.str)] ah aa->RI ns (rs++[row]) ah aa ai->R D [some (.ref d),some (.ref pl),some (.ref a),some (.ref c),some (.ref r),some (.int m),some (.str row.tx)] H3:=by
   subst hR;intro D row ah aa ai H3 hD ok az a9 ⟨U,ao,ak,a7,J⟩ ri2;left;refine Qs (λ_=>?_) (λe=>absurd (Classical.not_not.mp e) (F4 ok));have av:H3 r=some (.lst (A2 rs)):=(J.hb (6,r,A2 rs) (by simp)).1;have nr:N r:=hN r hr;refine⟨.inl ⟨rfl,_,AI av⟩,r,_,_,rfl,rfl,av,by rw[D1,Cb];omega,?_⟩;rw[hD];have S3:=J.upB (ws:=A2 rs++[.str row.tx]) (by simp);rw[show A2 rs++[.str row.tx]=A2 (rs++[row]) by simp[A2]] at *;exact⟨_,_,rs++[row],ah,aa,ai,rfl,az.trans (Sn.put nr),YV a9,⟨_,_,_,_,S3⟩,ri2,by rw[D0,D6];omega⟩
  obtain⟨U,ao,ak,a7,J⟩:=id T;have aj:H2 pl=some (.lst (ns.map V.str)):=(J.hb (4,pl,ns.map V.str) (by simp)).1;have b0:U pl=4:=(J.hb (4,pl,ns.map V.str) (by simp)).2.1;have ag:=J.dl;have a8:UV 7:=⟨by decide,(IB (m:=60) (by decide) (by decide)).mono (by decide)⟩
  have aw:∀(D:QO) (H3:Hp),D.nx=lq K N d pl a c r cl ns H (i+1)->Same H2 H3->Oj K (.ref a) (.ref pl) (.int (m.fdiv 7)) H3 λx H1=>R D [some (.ref d),some (.ref pl),some (.ref a),some (.ref c),some (.ref r),some (.int m),some x] H1:=λD H3 hD g=>by
   have S3:=J.mono g;have a9:=none_of hN2 g;refine ⟨a,pl,_,_,ks.map (·.1),ns,rfl,rfl,rfl,S3.ha,S3.ti,AI (g _ _ aj),a4,af.2,by rw [D1];have:=ri.sml.k;omega,fun _ H4 g4=>a6 _ _ hD (g.trans g4),fun z p q' H4 H5 g4 z1 z2 hp hq ar g5=>?_⟩;obtain ⟨ow',w1,w2⟩:=LH U q' (10+7*ks.length) ar;have S4:=(((S3.reown (ow':=ow') fun b vs hb=>w2 b fun j hj e=>by rw [<-e,(hq j hj).1] at hb;cases hb).mono g4).upK ⟨hp,fun j hj=>⟨[],(hq j hj).2,Z1⟩⟩ fun j hj=>⟨a9 _ (hq j hj).1,w1 j hj⟩).mono g5;exact a5 _ (.kind z) (ks++[(z,[])]) cs as H5 hD (a4 z z1) (sn.trans ((Sn.of (g.trans g4)).trans ((Sn.put J.na).trans (.of g5)))) (none_of (YV (none_of a9 g4)) g5) ⟨_,_,_,_,S4⟩ (ri.kind af.2 (a4 z z1) z1 z2)
  left;refine⟨trivial,Qs (λ_=>?_) (λ_=>?_)⟩
  ·refine⟨a8,c,pl,_,a7,cs,ns,λl=>U l=3,rfl,rfl,rfl,J.hc,J.cr,AI aj,a4,nd,af.2,ri.c4,ri.sml.m,ri.fnd,λH3 g=>a6 _ _ rfl g,λx y ae p l H3 H4 g ok aq b3 lt l0 hl hp g4=>?_⟩;have S4:=(((J.reown (ow':=λb=>if b=l then 3 else U b) λb vs hb=>DY (Qi hb l0)).mono g).upC (cp:=(x,y,ae)) (v:=.ref p) ⟨p,l,rfl,hp,hl,DZ rfl⟩).mono g4;exact a5 _ (.cap x y ae) ks (cs++[(x,y,ae)]) (as++ae) H4 rfl ok (sn.trans ((Sn.of g).trans ((Sn.put J.nc).trans (.of g4)))) (none_of (YV (none_of hN2 g)) g4) ⟨_,_,_,_,S4⟩ (ri.cap ok aq b3 lt)
  ·refine⟨by decide,λp1 ay=>?_⟩;have gE:=Qc ay (.lst []);refine Yd (AI (gE _ _ J.ha)) (AI Qa) ?_;generalize upd H2 p1 (.lst [])=H3 at *;left;refine Qs (λ_=>⟨a8,aw _ _ rfl gE⟩) (λne=>⟨trivial,Qs (λ_=>⟨a8,aw _ _ rfl gE⟩) (λ_=>?_)⟩);rcases List.eq_nil_or_concat ks with e|⟨ks0,⟨z,xs⟩,e⟩
   ·rw[e] at ag;rw[AO ag] at ne;exact absurd rfl ne
   rw[List.concat_eq_append] at e;subst e;rcases List.eq_nil_or_concat ao with e|⟨ps0,p,e⟩
   ·subst e;simp at ag
   rw[List.concat_eq_append] at e;subst e;rw[D0,D0,D6,D6] at ag;have b1:ps0.length=ks0.length:=by omega
   have S3:=J.mono gE;have hK:=S3.dr ks0.length p (z,xs) (by rw [<-b1];simp) (by simp);have au:=AI (K:=K) S3.ha;rw [D9] at au;have ax:ks0.length<(ks0++[(z,xs)]).length:=by rw [D0];exact Ao _
   have oq:=J.oq ks0.length ax;refine QA au (Q5 _ _) ⟨a8,p,pl,_,z,xs,ak ks0.length,ns,rfl,rfl,rfl,hK,Gq oq,AI (gE _ _ aj),λj hj=>QP U (by rw[oq j hj,b0];omega),a4,af,ri.of (z,xs) (by simp),?_,λH4 g4=>a6 _ _ rfl (gE.trans g4),λx v vs H4 H5 g4 ok fi b2 aq hv b4 g5=>?_⟩
   ·have:xs.length<=rs.length:=ri.sml.x (z,xs) (by simp);omega
   ·have S4:=((S3.mono g4).upX hv b4).mono g5;exact a5 _ (.itm x) (ks0++[(z,xs++[x])]) cs (aS as (.itm x)) H5 rfl ok (sn.trans ((Sn.of (gE.trans g4)).trans ((Sn.put (J.nq ks0.length ax x.sl (Xb x))).trans (.of g5)))) (none_of (YV (none_of hN2 (gE.trans g4))) g5) ⟨_,_,_,_,S4⟩ (ri.itm ok fi b2 aq)
 ·rintro _ H2 ⟨x5,x6,rs,ks,cs,as,rfl,sn,hN2,T,ri,len⟩;left;rw[D1] at len;exact q r rs ks cs as _ sn hN2 T ri (by omega) (hN r hr)
theorem K3:∀{r1 r2} {ks} {cs} {as},run ks cs as (r1++r2)=run (run ks cs as r1).1 (run ks cs as r1).2.1 (run ks cs as r1).2.2 r2
 | [],_,_,_,_=>rfl
 | r::r1,r2,ks,cs,as=>K3 (r1:=r1) (r2:=r2) (ks:=kS ks r) (cs:=cS cs r) (as:=aS as r)
theorem VE:∀{r1 r2} {ks} {cs} (as),IM ks cs (r1++r2)↔IM ks cs r1/\IM (run ks cs as r1).1 (run ks cs as r1).2.1 r2
 | [],_,_,_,_=>⟨λh=>⟨trivial,h⟩,λh=>h.2⟩
 | r::r1,r2,ks,cs,as=>by
  have J:=VE (r1:=r1) (r2:=r2) (ks:=kS ks r) (cs:=cS cs r) (aS as r);exact⟨λh=>⟨⟨h.1,h.2.1,(J.mp h.2.2).1⟩,(J.mp h.2.2).2⟩,λh=>⟨h.1.1,h.1.2.1,J.mpr ⟨h.1.2.2,h.2⟩⟩⟩
def kn:List Row->List Str
 | []=>[]
 | .kind z::r=>z::kn r
 | .itm _::r=>kn r
 | .cap .. :: r=>kn r
theorem Xc:∀{rs} {ks} {cs} {as},(run ks cs as rs).1.map (·.1)=ks.map (·.1)++kn rs
 | [],_,_,_=>(Cs _).symm
 | .kind z::r,ks,cs,as=>by
  show(run (ks++[(z,[])]) cs as r).1.map (·.1)=_;rw[Xc,D9,List.append_assoc];rfl
 | .itm x::r,ks,cs,as=>by
  show(run (WH ks x) cs (aS as (.itm x)) r).1.map (·.1)=_;rw[Xc,UC];rfl
 | .cap a b ns::r,ks,cs,as=>by
  show(run ks (cs++[(a,b,ns)]) (as++ns) r).1.map (·.1)=_;rw[Xc];rfl
theorem SD (h:RI ns rs ks cs as)(k:Nat):IM [] [] (rs.take k)/\(∀z∈(run [] [] [] (rs.take k)).1.map (·.1),z∈ns)/\(run [] [] [] (rs.take k)).1.length<=ns.length:=by
 have e:ks.map (·.1)=(run [] [] [] (rs.take k)).1.map (·.1)++kn (rs.drop k):=by
  have:=Xc (rs:=rs.drop k) (ks:=(run [] [] [] (rs.take k)).1) (cs:=(run [] [] [] (rs.take k)).2.1) (as:=(run [] [] [] (rs.take k)).2.2);rw [<-K3,Aj,h.run] at this;exact this
 have sub:∀z∈ks.map (·.1),z∈ns:=λz J=>by
  obtain⟨k,U,rfl⟩:=C8.mp J;exact h.tin k U
 have le:=YW h.tnd sub;refine⟨?_,λz J=>sub z (by rw[e];exact C0 _ J),?_⟩
 ·have:=h.acc;rw [<-Aj k rs] at this;exact ((VE []).mp this).1
 ·rw[e,D0,D1] at le;omega
def YH:List Itm->List Itm->Prop
 | _,[]=>True
 | xs,y::ys=>y.Ok/\Xl xs y/\YH (xs++[y]) ys
theorem slf_mem {y}:y∈BL xs j↔y∈xs/\y.sl=j:=by
 unfold BL;rw[C4];exact⟨λh=>⟨h.1,C3 h.2⟩,λh=>⟨h.1,Ck h.2⟩⟩
theorem Kv {xs'}{x}(h:BL xs x.sl=BL xs' x.sl)(f:Xl xs x):Xl xs' x:=by
 cases x with
 | cnt z r s=>exact λy J z' U s' e=>f y (slf_mem.mp (by rw[show BL xs 3=BL xs' 3 from h];exact slf_mem.mpr ⟨J,by rw[e];rfl⟩)).1 z' U s' e
 | off l r s=>exact⟨by have:=f.1;rw[show xs.filter (λy=>decide (y.sl=4))=xs'.filter (λy=>decide (y.sl=4)) from h] at this;exact this,λy J l' U s' e=>f.2 y (slf_mem.mp (by rw[show BL xs 4=BL xs' 4 from h];exact slf_mem.mpr ⟨J,by rw[e];rfl⟩)).1 l' U s' e⟩
 | base=>exact (show ((BL xs' 0).length:Int)<_ by rw [<-show BL xs 0=BL xs' 0 from h];exact f)
 | each=>exact (show ((BL xs' 0).length:Int)<_ by rw [<-show BL xs 0=BL xs' 0 from h];exact f)
 | rent=>exact (show ((BL xs' 0).length:Int)<_ by rw [<-show BL xs 0=BL xs' 0 from h];exact f)
 | term=>exact (show ((BL xs' 1).length:Int)<_ by rw [<-show BL xs 1=BL xs' 1 from h];exact f)
 | pay=>exact (show ((BL xs' 2).length:Int)<_ by rw [<-show BL xs 2=BL xs' 2 from h];exact f)
 | unt=>exact (show ((BL xs' 5).length:Int)<_ by rw [<-show BL xs 5=BL xs' 5 from h];exact f)
 | rnd=>exact (show ((BL xs' 6).length:Int)<_ by rw [<-show BL xs 6=BL xs' 6 from h];exact f)
theorem Uj {xs'}{x}(h:BL xs x.sl=BL xs' x.sl):XB xs x=XB xs' x:=by
 cases x with
 | cnt z r s=>unfold XB;rw[show BL xs 3=BL xs' 3 from h]
 | off l r s=>unfold XB;rw[show BL xs 4=BL xs' 4 from h]
 | _=>exact congrArg (λl:List Itm=>!decide ((l.length:Int)=mo _)) h
theorem KM:∀{ys xs xs'},YH xs ys->(∀u∈ys,BL xs u.sl=BL xs' u.sl)->YH xs' ys
 | [],_,_,_,_=>trivial
 | y::ys,xs,xs',h,e=>⟨h.1,Kv (e y Cw) h.2.1,KM h.2.2 λu J=>by rw[XJ,XJ,e u (Cu _ J)]⟩
theorem JH {y}(ok:y.Ok){ys2}(hs:∀u∈ys2,u.sl≠y.sl):∀{ys1 xs},Xl (xs++ys1) y->YH xs (ys1++ys2)->YH xs (ys1++y::ys2)
 | [],xs,f,h=>⟨ok,by rw[Cs] at f;exact f,KM h λu J=>by rw[XJ,DY (CP (hs u J)),Cs]⟩
 | y1::ys1,xs,f,h=>⟨h.1,h.2.1,JH ok hs (by rw[List.append_assoc];exact f) h.2.2⟩
theorem He:∀j<7,((0:Nat):Int)<mo j:=by decide
theorem Gv {x}(h:∀u∈xs,u.sl≠x.sl):Xl xs x:=by
 have e:BL [] x.sl=BL xs x.sl:=by
  unfold BL;rw[List.filter_nil,eq_comm,List.filter_eq_nil_iff];exact λu U c=>h u U (C3 c)
 refine Kv e ?_;cases x with
 | cnt=>exact λy J=>by cases J
 | off=>exact⟨by decide,λy J=>by cases J⟩
 | _=>exact He _ (Xb _)
theorem KJ:∀{ys xs} {ks0} {z} {cs} (as),YH xs ys->IM (ks0++[(z,xs)]) cs (ys.map .itm)/\(run (ks0++[(z,xs)]) cs as (ys.map .itm)).1=ks0++[(z,xs++ys)]/\(run (ks0++[(z,xs)]) cs as (ys.map .itm)).2.1=cs
 | [],xs,ks0,z,cs,as,_=>⟨trivial,by rw[Cs];rfl,rfl⟩
 | y::ys,xs,ks0,z,cs,as,h=>by
  have e:kS (ks0++[(z,xs)]) (.itm y)=ks0++[(z,xs++[y])]:=Yp;obtain⟨a,b,c⟩:=KJ (ks0:=ks0) (z:=z) (cs:=cs) (aS as (.itm y)) h.2.2;refine⟨⟨h.1,⟨ks0,z,xs,rfl,h.2.1⟩,by rw[e];exact a⟩,?_,?_⟩
  ·show(run (kS (ks0++[(z,xs)]) (.itm y)) cs (aS as (.itm y)) (ys.map .itm)).1=_;rw[e,b,List.append_assoc];rfl
  ·show(run (kS (ks0++[(z,xs)]) (.itm y)) cs (aS as (.itm y)) (ys.map .itm)).2.1=_;rw[e,c]
theorem UD (h:IM [] [] rs)(hz:Q7 z)(h8:(run [] [] [] rs).1.length<8)(hn:z∉(run [] [] [] rs).1.map (·.1))(hy:YH [] ys):IM [] [] (rs++.kind z::ys.map .itm)/\∃ks0 cs as,run [] [] [] (rs++.kind z::ys.map .itm)=(ks0++[(z,ys)],cs,as):=by
 obtain⟨a,b,c⟩:=KJ (ks0:=(run [] [] [] rs).1) (z:=z) (cs:=(run [] [] [] rs).2.1) (run [] [] [] rs).2.2 hy;refine⟨(VE []).mpr ⟨h,hz,⟨h8,hn⟩,a⟩,(run [] [] [] rs).1,(run [] [] [] rs).2.1,(run [] [] [] (rs++.kind z::ys.map .itm)).2.2,?_⟩;rw[K3];show(run ((run [] [] [] rs).1++[(z,[])]) (run [] [] [] rs).2.1 (run [] [] [] rs).2.2 (ys.map .itm))=_;exact Prod.ext b (Prod.ext c rfl)
inductive Iu (K:W.Frag)(x:V)(H)(Q:VK):Prop
 | mk (c:Int) (h1:x=.int c) (h4:∀a (ns:List Str) H',Same H H'->H a=none->H' a=some (.lst (ns.map V.str))->ns.Nodup->(∀z∈ns,Q7 z)->ns.length=9->Q (.ref a) H'):Iu K x H Q
def nine:List Str:=[q_ "a",q_ "b",q_ "c",q_ "d",q_ "e",q_ "f",q_ "g",q_ "h",q_ "i"]
theorem RP:nine.Nodup:=by decide +kernel
theorem RO:∀z∈nine,Q7 z:=by
 have:∀z∈nine,JS (.str z)=true:=by decide +kernel
 exact this
def o7 (c:Int)(l:Addr)(H:Hp)(i:Nat)(σ':L2.St)(H':Hp):Prop:=∃(x2 x3:Option V) (ns:List Str),σ'=[some (.int c),some (.ref l),x2,x3]/\Same H H'/\H l=none/\H' l=some (.lst (ns.map V.str))/\ns.Nodup/\(∀z∈ns,Q7 z)/\ns.length<=9
def oZ (c:Int)(l:Addr)(H:Hp)(i:Nat)(σ':L2.St)(H':Hp):Prop:=∃(x2 x3:Option V) (ns:List Str),σ'=[some (.int c),some (.ref l),x2,x3]/\Same H H'/\H l=none/\H' l=some (.lst (ns.map V.str))/\ns.Nodup/\(∀z∈ns,Q7 z)/\ns.length<=9/\(ns.length=9∨∀z∈nine.take i,z∈ns)
theorem YX (nd:ns.Nodup)(hm:z ∉ ns):(ns++[z]).Nodup:=C7.mpr ⟨nd,by simp,fun a ha b hb e=>hm (by rw [D7.mp hb] at e;rw [<-e];exact ha)⟩
theorem G8 {P:Str->Prop}(h:∀y∈ns,P y)(hz:P z):∀y∈ns++[z],P y:=λy hy=>by
 rcases Cr.mp hy with hy|hy
 ·exact h y hy
 ·rw[D7.mp hy];exact hz
theorem iP (T:Tx w K mg):GF P w K mg base 2 "_law_names" ["_law_cell_here"] (Sp1M (Iu K)):=by
 refine Zf T 87 ["_law_cell_here","_law_names_here","_law_k","_law_title"] Xk λH Q aa hr h=>?_
 obtain⟨_,rfl,c,rfl,q⟩:=h;refine⟨_,(Qb (A5 1 (Qn Qz)) (Qb (fh (Zc rfl T.aG (A1 Qd)) (GE 2) (Qb (A5 3 (A7 (iK T) (A1 (A7 (aA T) (A3 (Qg Qh (pu 0) (Qg V5 (pu 2) (pu 2))) (pu 2)))))) (Qf (Qr (PW.pt (Zz (ZA (Xe K rfl) (pu 3) (pu 1) (by with_unfolding_all rfl)) (Zh (A8 Zr (IC K T.aB (pu 1)) Qd)))) (Qf (QH (QE K rfl CJ CM CO Qy (pu 1) (A1 (pu 3))))) Ql)))) (Qb (fh (Ie K rfl (Qn (Qp Qe (Qp Qe (Qp Qe (Qp Qe (Ig Qe Qe Qe Qe Qe))))))) (GE 3) (Qf (Qr (PW.pt (Zz (ZA (Xe K rfl) (pu 3) (pu 1) (by with_unfolding_all rfl)) (Zh (A8 Zr (IC K T.aB (pu 1)) Qd)))) (Qf (QH (QE K rfl CJ CM CO Qy (pu 1) (A1 (pu 3))))) Ql))) (Qf (Qk (pu 1)))))),?_⟩;left;refine⟨by decide,λl U=>?_⟩;have g1:=Qc U (.lst []);have a6:=Qa (H:=H) (a:=l) (o:=.lst []);generalize upd H l (.lst [])=H1 at *;left;refine⟨by decide,by decide,Hz (o7 c l H) ⟨none,none,[],rfl,g1,U,a6,AG,(λz hz=>by cases hz),by decide⟩ ?_ ?_⟩
 ·rintro i _ H2 hi ⟨x3,x4,ns,rfl,g,_,hl2,nd,ok,len⟩;have a8:i<30:=hi;have sq:(0:Int)<=(0+(i:Int))*(0+(i:Int))/\(0+(i:Int))*(0+(i:Int))<=1000:=by
   rw[Int.zero_add];exact⟨Int.mul_nonneg (by omega) (by omega),Int.le_trans (Int.mul_le_mul (show(i:Int)<=30 by omega) (show(i:Int)<=30 by omega) (by omega) (by decide)) (by decide)⟩
  left;refine⟨⟨IB (by omega) (by omega),IB (by omega) (by omega)⟩,?_⟩;left;refine⟨_,_,rfl,rfl,by omega,λn H3 g3 n0 n1=>⟨n,rfl,⟨n0,n1⟩,λz hz=>?_⟩⟩;have J:=g3 _ _ hl2;have gg:=g.trans g3;left;refine Zx (AI J) ?_;left;refine Qs (λhm=>Q0 (AI J) ?_) (λhm=>⟨_,_,ns,rfl,gg,U,J,nd,ok,len⟩);left;rw[D1];refine Qs (λh9=>?_) (λ_=>⟨_,_,ns,rfl,gg,U,J,nd,ok,len⟩);refine⟨.inl ⟨rfl,_,AI J⟩,l,_,_,rfl,rfl,J,by rw[D1,Cb];omega,?_⟩;exact⟨_,_,ns++[z],rfl,λb o h=>by rw[Qj (Qi h U)];exact gg _ _ h,U,by rw[Qa,D9];rfl,YX nd hm,G8 ok hz,by rw[D0,D6];omega⟩
 ·rintro _ H2 ⟨x3,x4,ns,rfl,g,_,hl2,nd,ok,len⟩;left;refine⟨by decide,λp hp=>?_⟩;have g2:=g.trans (Qc hp (.lst (nine.map V.str)));have J:=Qc hp (.lst (nine.map V.str)) _ _ hl2;have a4:=Qa (H:=H2) (a:=p) (o:=.lst (nine.map V.str));have a9:=g.free hp
  change ∃a,V.ref p=V.ref a/\(∃xs,A6 K (upd H2 p (.lst (nine.map V.str))) a xs)/\KN (O2 K a) _ _ _ _ (upd H2 p (.lst (nine.map V.str)))
  generalize upd H2 p (.lst (nine.map V.str))=H3 at *;have a7:p≠l:=(Qi hl2 hp).symm;refine⟨p,rfl,⟨_,AI a4⟩,Xh (xs:=nine.map V.str) (λi σ' H'=>oZ c l H i σ' H'/\H' p=some (.lst (nine.map V.str))) ⟨⟨_,_,ns,rfl,g2,U,J,nd,ok,len,.inr λz hz=>by cases hz⟩,a4⟩ (λi σ' H' _ h=>AI h.2) ?_ ?_⟩
  ·rintro i v _ H4 hv ⟨⟨x2,x5,ns,rfl,g,_,hl4,nd,ok,len,hin⟩,hp4⟩;rw[Ct] at hv;obtain⟨z,hz,rfl⟩:=Cv.mp hv;have a5:=RO z (C6 hz);have tk:∀y∈nine.take (i+1),y∈nine.take i∨y=z:=λy hy=>by
    rw[CS,hz] at hy;rcases Cr.mp hy with hy|hy
    ·exact .inl hy
    ·exact .inr (by simpa using hy)
   left;refine Zx (AI hl4) ?_;left;refine Qs (λhm=>Q0 (AI hl4) ?_) (λhm=>⟨⟨_,_,ns,rfl,g,U,hl4,nd,ok,len,?_⟩,hp4⟩)
   ·left;rw[D1];refine Qs (λh9=>?_) (λh9=>⟨⟨_,_,ns,rfl,g,U,hl4,nd,ok,len,.inl (by omega)⟩,hp4⟩);refine⟨.inl ⟨rfl,_,AI hl4⟩,l,_,_,rfl,rfl,hl4,by rw[D1,Cb];omega,?_⟩;refine⟨⟨_,_,ns++[z],rfl,λb o h=>by rw[Qj (Qi h U)];exact g _ _ h,U,by rw[Qa,D9];rfl,YX nd hm,G8 ok a5,by rw[D0,D6];omega,?_⟩,by rw[Qj a7];exact hp4⟩;rcases hin with h|h
    ·omega
    ·exact .inr λy hy=>by
      rcases tk y hy with h'|h'
      ·exact C0 _ (h y h')
      ·rw[h'];simp
   ·rcases hin with h|h
    ·exact .inl h
    ·exact .inr λy hy=>by
      rcases tk y hy with h'|h'
      ·exact h y h'
      ·rw[h'];exact Classical.not_not.mp hm
  ·rintro _ H4 ⟨⟨x2,x5,ns,rfl,g,_,hl4,nd,ok,len,hin⟩,hp4⟩;left;refine q l ns _ g U hl4 nd ok ?_;rcases hin with h|h
   ·exact h
   ·have:nine.length<=ns.length:=YW RP λz hz=>h z (by rw[CH (by rw[D1];exact D2 _)];exact hz)
    have h9:nine.length=9:=rfl;omega
def oa1:List Str:=[q_ "base 1",q_ "each 1 0 9",q_ "rent 1 9",q_ "from 0 0 9",q_ "upto 9 0 9",q_ "pay 1 0 9",q_ "counts a 1",q_ "off 0 1"]
def oa2:List Str:=[q_ "until 7",q_ "round 1 up",q_ "cap 1 1 a ",q_ "kind a"]
def o4:List Str:=[q_ "",q_ "0",q_ "B",q_ "1/2"]
def od1:List Str:=[q_ "",q_ " ",q_ "kind",q_ "kind ",q_ "kind A",q_ "kind abcdefghi",q_ "kind a b",q_ " kind a",q_ "kind  a",q_ "kind a "]
def od2:List Str:=[q_ "base",q_ "base -1",q_ "base 01",q_ "base 1000000001",q_ "base 1 2",q_ "base  1",q_ "base 1/2",q_ "base +1"]
def nK:List Str:=[q_ "each 1 2",q_ "each 1 5 4",q_ "each 1 0 151",q_ "each 1 2 3 4",q_ "rent 1",q_ "rent 2/4 5",q_ "rent 1/1 5"]
def nJ:List Str:=[q_ "rent 5 1/2",q_ "rent 10000 5",q_ "from 1 2",q_ "from 61 0 1",q_ "from 1 9 8",q_ "upto 1 0 200",q_ "upto -1 0 5"]
def nI:List Str:=[q_ "pay 1 2",q_ "pay 1/0 0 9",q_ "pay 1 9 2",q_ "counts",q_ "counts a",q_ "counts A 1",q_ "counts a 2/6",q_ "off 5"]
def nH:List Str:=[q_ "off 1000000001 1",q_ "off 5 -1",q_ "until",q_ "until 1/2",q_ "until 1000000001",q_ "round 5",q_ "round 0 up"]
def nG:List Str:=[q_ "round 5 UP",q_ "round 5 side",q_ "round 1000000001 near",q_ "cap 1 1",q_ "cap 1 a",q_ "cap 1 1 A"]
def nF:List Str:=[q_ "cap 1 1 a a",q_ "cap -1 1 a",q_ "cap 1 1000000001 a",q_ "Kind a",q_ "part 5"]
def nE:List Str:=[q_ "each 1000000001 0 9",q_ "rent 1 1000000001",q_ "cap 1000000001 1 a",q_ "upto 61 0 1",q_ "upto 1 9 8"]
def EL:List Str:=[q_ "from 1 0 151",q_ "pay 1 0 151",q_ "from 01 0 9",q_ "upto 1 00 9",q_ "pay 01 0 9",q_ "off 05 1",q_ "until 07"]
def EK:List Str:=[q_ "round 05 up",q_ "cap 01 1 a",q_ "cap 1 01 a",q_ "rent 01 9",q_ "rent 1 09",q_ "each 01 0 9",q_ "off 5 10000"]
def EJ:List Str:=[q_ "off 5 2/4",q_ "pay 10000 0 9",q_ "counts a 10000",q_ "pay 2/4 0 9",q_ "cap 1 1 abcdefghi",q_ "each 1 0 09"]
def EI:List Str:=[q_ "counts abcdefghi 1"]
def o84:List Str:=((((((((((((od1++od2)++nK)++nJ)++nI)++nH)++nG)++nF)++nE)++EL)++EK)++EJ)++EI)
def RM (z:Str):Bool:=match Txt.split z blank with
 | []=>false
 | s::ws=>(Z9 (s::ws)).isNone&&ws.all (λy=>y.cps.all (λx=>decide (x<128))&&decide (y.length<=1000))&&decide (ws.length<=20)&&decide (z.length<=1000)
theorem Bv (h:RM z=true)(ks)(cs):jw ks cs z:=by
 unfold RM at h;split at h
 ·cases h
 ·rename_i s ws e;simp only[CV,Ai,Option.isNone_iff_eq_none,C1] at h;exact .word z s ws e h.1.1.1 (λy J=>h.1.1.2 y J) h.1.2 h.2
theorem EH:∀y∈oa1++oa2,∀u∈o4,RM (y++q_ " "++u)=true/\y.length<=100/\u.length<=100:=by decide +kernel
def Tu:Str:=q_ "cap 1 1 a a"
theorem EG:∀z∈o84,RM z=true∨z=Tu:=by decide +kernel
theorem Bq:Tu=(Row.cap 1 1 [q_ "a",q_ "a"]).tx:=by decide +kernel
theorem Br:(Row.cap 1 1 [q_ "a",q_ "a"]).Ok:=⟨⟨by decide,by decide⟩,⟨by decide,by decide⟩,λz J=>by
 have:z=q_ "a":=by simpa using J
 subst this;show JS _=true
 decide +kernel,by decide,by decide⟩
theorem RL (h:z∈o84)(ks)(cs):jw ks cs z:=by
 rcases EG z h with h|rfl
 ·exact Bv h ks cs
 ·rw[Bq];refine .fit _ Br ?_;show(decide _&&decide _)=false;rw[show decide (([q_ "a",q_ "a"]:List Str)++(cs.map (·.2.2)).flatten).Nodup=false from Ce λJ=>(CZ.mp J).1 Cw,Aa]
inductive jM (x:V)(H)(Q:VK):Prop
 | mk (c:Int) (h1:x=.int c) (h2:∀z H',Same H H'->(∀ks cs,jw ks cs z)->Q (.str z) H'):jM x H Q
theorem Xr {L M:List Str}(h:H p=some (.lst (L.map V.str)))(hl:L.length+M.length<=1000)(q:∀J H3,Same H H3->H3 J=some (.lst ((L++M).map V.str))->Q (.ref J) H3):∀p2,H p2=none->sAdd (.ref p) (.ref p2) (upd H p2 (.lst (M.map V.str))) Q:=λp2 U=>by
 have g:=Qc U (.lst (M.map V.str));refine Z8 ⟨p,p2,_,_,rfl,rfl,g _ _ h,Qa,Qq (by rw[D1,D1];exact hl),λJ a4=>?_⟩;refine q J _ (g.trans (Qc a4 _)) ?_;rw[Qa,D9]
theorem G3 {L:List Str}(h:L.length=n)(h0:0<n)(i:Int):∃z∈L,IL (L.map V.str) (i % n)=some (.str z):=by
 have d0:=Ci i (show(n:Int)≠0 by omega);have d1:=Cq i (show(0:Int)<n by omega);obtain⟨k,U⟩:=CT d0;rw[U];have J:k<L.length:=by omega
 exact⟨L[k],List.getElem_mem J,QV (by rw[Ct,D4 J];rfl)⟩
theorem bX (T:Tx w K mg):GF P w K mg base 1 "_law_odd" ["_law_cell_here"] (Sp1M jM):=by
 refine Zf T 88 ["_law_cell_here","_law_rows_here"] Xk λH Q a8 hr h=>?_
 obtain⟨_,rfl,c,rfl,q⟩:=h;refine⟨_,(Qb (Qr (A8 (QM K) (Qg Qo (pu 0) Qd) Qd) (Qb (A5 1 (Qn (Qp Qe (Qp Qe (Qp Qe (Ig Qe Qe Qe Qe Qe)))))) (Qb (A5 1 (Qg Qh (pu 1) (Qn (gu Qe Qe Qe Qe)))) (Qf (Qk (Qg Qh (Qg Qh (BN K (pu 1) (Qg Qo (Qg Qx (pu 0) Qd) Qd)) Qe) (BN K (Qn (gu Qe Qe Qe Qe)) (Qg Qo (Qg Qx (pu 0) Qd) Qd))))))) Ql) (Qb (A5 1 (Qn (Qp Qe (Qp Qe (Qp Qe (Qp Qe (Qp Qe (Ig Qe Qe Qe Qe Qe)))))))) (Qb (A5 1 (Qg Qh (pu 1) (Qn (Qp Qe (Qp Qe (Qp Qe (Ig Qe Qe Qe Qe Qe))))))) (Qb (A5 1 (Qg Qh (pu 1) (Qn (Qp Qe (Qp Qe (Ig Qe Qe Qe Qe Qe)))))) (Qb (A5 1 (Qg Qh (pu 1) (Qn (Qp Qe (Qp Qe (Ig Qe Qe Qe Qe Qe)))))) (Qb (A5 1 (Qg Qh (pu 1) (Qn (Qp Qe (Qp Qe (Qp Qe (Ig Qe Qe Qe Qe Qe))))))) (Qb (A5 1 (Qg Qh (pu 1) (Qn (Qp Qe (Qp Qe (Ig Qe Qe Qe Qe Qe)))))) (Qb (A5 1 (Qg Qh (pu 1) (Qn (Qp Qe (Ig Qe Qe Qe Qe Qe))))) (Qb (A5 1 (Qg Qh (pu 1) (Qn (Ig Qe Qe Qe Qe Qe)))) (Qb (A5 1 (Qg Qh (pu 1) (Qn (Ig Qe Qe Qe Qe Qe)))) (Qb (A5 1 (Qg Qh (pu 1) (Qn (Qp Qe (Qp Qe (Ig Qe Qe Qe Qe Qe)))))) (Qb (A5 1 (Qg Qh (pu 1) (Qn (Qp Qe (Qp Qe (Ig Qe Qe Qe Qe Qe)))))) (Qb (A5 1 (Qg Qh (pu 1) (Qn (Qp Qe (Ig Qe Qe Qe Qe Qe))))) (Qb (A5 1 (Qg Qh (pu 1) (Qn (A1 Qe)))) (Qf (Qk (BN K (pu 1) (Qg Qo (Qg Qx (pu 0) Qd) (IC K T.aB (pu 1)))))))))))))))))))),?_⟩;left;refine⟨trivial,Qs (λ_=>?_) (λ_=>?_)⟩
 ·refine⟨by decide,λp hp=>?_⟩;have g1:=Qc hp (.lst (oa1.map V.str));have k1:=Qa (H:=H) (a:=p) (o:=.lst (oa1.map V.str))
  change 4<=sizeLine/\∀p2,(upd H p (.lst (oa1.map V.str))) p2=none->sAdd (.ref p) (.ref p2) (upd (upd H p (.lst (oa1.map V.str))) p2 (.lst (oa2.map V.str))) _
  generalize upd H p (.lst (oa1.map V.str))=H1 at *;refine⟨by decide,Xr k1 (by decide) λp3 H3 g3 k3=>⟨⟨by decide,(IB (m:=60) (by decide) (by decide)).mono (by decide)⟩,trivial,?_⟩⟩;obtain⟨y,J,ey⟩:=G3 (L:=oa1++oa2) (n:=12) rfl (by decide) (c.fdiv 3);obtain⟨u,hu,eu⟩:=G3 (L:=o4) (n:=4) rfl (by decide) (c.fdiv 36);obtain⟨ob,l1,l2⟩:=EH y J u hu;refine QA (AI k3) ey ?_;left;have lb:(Str.ofString " ").length=1:=by decide +kernel
  refine⟨Qq (by omega),by decide,λU a4=>⟨⟨by decide,(IB (m:=60) (by decide) (by decide)).mono (by decide)⟩,trivial,?_⟩⟩
  change O3 K (.ref U) _ (upd H3 U (.lst (o4.map V.str))) _
  refine QA (AI Qa) eu ?_;left;exact⟨Qq (by rw[Qu];omega),q _ _ ((g1.trans g3).trans (Qc a4 _)) (Bv ob)⟩
 ·refine⟨by decide,λp hp=>?_⟩;have g1:=Qc hp (.lst (od1.map V.str));have k1:=Qa (H:=H) (a:=p) (o:=.lst (od1.map V.str))
  change 8<=sizeLine/\∀p2,(upd H p (.lst (od1.map V.str))) p2=none->sAdd (.ref p) (.ref p2) (upd (upd H p (.lst (od1.map V.str))) p2 (.lst (od2.map V.str))) _
  generalize upd H p (.lst (od1.map V.str))=H1 at *;refine⟨by decide,Xr (M:=od2) k1 (AL rfl) λp2 H2 g k2=>?_⟩
  replace g1:=g1.trans g
  replace k1:=k2
  clear k2 g;left;refine⟨by decide,Xr (M:=nK) k1 (AL rfl) λp3 H3 g k2=>?_⟩
  replace g1:=g1.trans g
  replace k1:=k2
  clear k2 g;left;refine⟨by decide,Xr (M:=nJ) k1 (AL rfl) λU H4 g k2=>?_⟩
  replace g1:=g1.trans g
  replace k1:=k2
  clear k2 g;left;refine⟨by decide,Xr (M:=nI) k1 (AL rfl) λp5 H5 g k2=>?_⟩
  replace g1:=g1.trans g
  replace k1:=k2
  clear k2 g;left;refine⟨by decide,Xr (M:=nH) k1 (AL rfl) λp6 H6 g k2=>?_⟩
  replace g1:=g1.trans g
  replace k1:=k2
  clear k2 g;left;refine⟨by decide,Xr (M:=nG) k1 (AL rfl) λp7 H7 g k2=>?_⟩
  replace g1:=g1.trans g
  replace k1:=k2
  clear k2 g;left;refine⟨by decide,Xr (M:=nF) k1 (AL rfl) λp8 H8 g k2=>?_⟩
  replace g1:=g1.trans g
  replace k1:=k2
  clear k2 g;left;refine⟨by decide,Xr (M:=nE) k1 (AL rfl) λp9 H9 g k2=>?_⟩
  replace g1:=g1.trans g
  replace k1:=k2
  clear k2 g;left;refine⟨by decide,Xr (M:=EL) k1 (AL rfl) λah a6 g k2=>?_⟩
  replace g1:=g1.trans g
  replace k1:=k2
  clear k2 g;left;refine⟨by decide,Xr (M:=EK) k1 (AL rfl) λag a9 g k2=>?_⟩
  replace g1:=g1.trans g
  replace k1:=k2
  clear k2 g;left;refine⟨by decide,Xr (M:=EJ) k1 (AL rfl) λaa ae g k2=>?_⟩
  replace g1:=g1.trans g
  replace k1:=k2
  clear k2 g;left;refine⟨by decide,Xr (M:=EI) k1 (AL rfl) λa7 af g k2=>?_⟩
  replace g1:=g1.trans g
  replace k1:=k2
  clear k2 g;left;refine⟨⟨by decide,(IB (m:=60) (by decide) (by decide)).mono (by decide)⟩,Q0 (AI k1) ?_⟩;rw[D1];obtain⟨y,J,ey⟩:=G3 (L:=o84) (n:=84) rfl (by decide) (c.fdiv 3);have a5:o84.length=84:=rfl
  change sI (λx j=>0<j) (λi j=>V.int (i % j)) (.int (c.fdiv 3)) (.int ((o84.length:Nat):Int)) _ _
  rw[a5];left;exact⟨by decide,QA (AI k1) ey (q _ _ g1 (RL J))⟩
theorem YL (h:∀x∈xs,x.sl=j):BL xs j=xs:=List.filter_eq_self.mpr λx hx=>Ck (h x hx)
inductive Of (K)(x y:V)(H)(Q:VK):Prop
 | mk (c n:Int) (h1:x=.int c) (h2:y=.int n) (h3:0<=n/\n<=7) (q:∀a xs vs H',Same H H'->H a=none->H' a=some (.lst vs)->All2 (LIt K H') xs vs->(∀x∈xs,x.sl=4/\x.Ok)->Zw xs->(xs.length:Int)=n->Q (.ref a) H'):Of K x y H Q
def oY (K:W.Frag)(c n:Int)(l:Addr)(H:Hp)(i:Nat)(σ':L2.St)(H':Hp):Prop:=∃(x3:Option V) (xs:List Itm) (vs:List V),σ'=[some (.int c),some (.int n),some (.ref l),x3]/\Same H H'/\H l=none/\H' l=some (.lst vs)/\All2 (LIt K H') xs vs/\(∀x∈xs,x.sl=4/\x.Ok)/\Zw xs/\xs.length=i
theorem PF {R:α->V->Prop}{l:List α}(h:All2 R l vs)(hv:R x v):All2 R (l++[x]) (vs++[v]):=by
 have hl:=h.1;refine⟨by rw[D0,D0,hl];rfl,λi a b J U=>?_⟩;by_cases hi:i<l.length
 ·rw[CI hi] at J;rw[CI (by omega)] at U;exact h.2 i a b J U
 ·have a4:=(Cg.mp J).1;rw[D0,D6] at a4;have:i=l.length:=by omega
  subst this;rw[CG (D2 _),CK] at J;rw[CG (by omega),hl,CK] at U;cases J;cases U;exact hv
theorem bY (T:Tx w K mg):GF P w K mg base 4 "_law_offs" ["_law_cell_here","_law_many"] (Sp2M (Of K)):=by
 refine Zf T 89 ["_law_cell_here","_law_many","_law_offs_here","_law_k"] Y6 λH Q a9 hr h=>?_
 obtain⟨_,_,rfl,c,n,rfl,rfl,hn,q⟩:=h;refine⟨_,(Qb (A5 2 (Qn Qz)) (Qb (fh (Zc rfl T.aG (A1 (pu 1))) (GE 3) (Qf (QH (QE K rfl CJ CM CO Qy (pu 2) (A1 (QY (A3 (A7 (bV T) (A3 (pu 2) (Qg Qh (pu 0) (Qg V5 (pu 3) (pu 3))))) (A7 (aO T) (A3 (Qg Qh (pu 0) (pu 3)) Qd))))))))) (Qf (Qk (pu 2))))),?_⟩;left;refine⟨by decide,λl U=>?_⟩;have g1:=Qc U (.lst []);have a5:=Qa (H:=H) (a:=l) (o:=.lst []);generalize upd H l (.lst [])=H1 at *;left;obtain⟨m,rfl⟩:=CT hn.1;refine⟨by omega,by omega,Hz (oY K c m l H) ⟨none,[],[],rfl,g1,U,a5,Z1,(λz hz=>by cases hz),Kk,rfl⟩ ?_ ?_⟩
 ·rintro i _ H2 hi ⟨x3,xs,vs,rfl,g,_,hl2,hA,hx,ho,rfl⟩;have ae:xs.length<7:=by omega
  have sq:(0:Int)<=(0+(xs.length:Int))*(0+(xs.length:Int))/\(0+(xs.length:Int))*(0+(xs.length:Int))<=100:=by
   rcases(show xs.length=0∨xs.length=1∨xs.length=2∨xs.length=3∨xs.length=4∨xs.length=5∨xs.length=6 by omega) with e|e|e|e|e|e|e<;>rw[e]<;>decide
  left;refine⟨.inl ⟨rfl,_,AI hl2⟩,⟨IB (by omega) (by omega),IB (by omega) (by omega)⟩,?_⟩;left;refine⟨l,_,xs,vs,rfl,rfl,AI hl2,hA,λx h=>(hx x h).1,λn H3 g3 J=>?_⟩;have es:=YL λx h=>(hx x h).1
  rw [<-es] at J;obtain ⟨_,_,n0,n1⟩:=Yi (r:=0) (s:=0) ho J;rw [es] at n1;left;refine ⟨_,0,rfl,rfl,by omega,fun p7 r s' H5 g5 a4 a7=>⟨by decide,fun p8 a8=>?_⟩⟩;have g6:=Qc a8 (.tup [.int n,.ref p7]);have k8:=Qa (H:=H5) (a:=p8) (o:=.tup [.int n,.ref p7]);generalize upd H5 p8 (.tup [.int n,.ref p7])=H6 at *;have gc:=(g3.trans g5).trans g6;have kl:=gc _ _ hl2;have aa:=hA.1;refine ⟨l,_,_,rfl,rfl,kl,by rw [Cb];omega,?_⟩;have kp:=QZ (N:=fun b=>b≠l) (o:=.lst (vs++[.ref p8])) kl fun b h=>h
  refine⟨_,xs++[.off n r s'],vs++[.ref p8],rfl,λb o h=>by rw[Qj (Qi h U)];exact(g.trans gc) _ _ h,U,Qa,PF (Yk ((Kp.of gc).trans kp) hA) (.off n r s' p8 p7 (kp.sqT (AJ k8)) (kp.sqT (g6.sqT (AJ a7)))),λx a6=>?_,(Yi ho J).1,by rw[D0];rfl⟩;rcases Cr.mp a6 with h|h
  ·exact hx x h
  ·rw[D7.mp h];exact⟨rfl,⟨n0,by omega⟩,a4⟩
 ·rintro _ H2 ⟨x3,xs,vs,rfl,g,_,hl2,hA,hx,ho,e⟩;left;exact q l xs vs _ g U hl2 hA hx ho (by rw[e];rfl)
structure Und (w:Int)(ys:List Itm)(b:Itm):Prop where
 sl:∃j,(∀y∈ys++[b],y.sl=j/\y.Ok)/\(w=0↔j=0)/\(w≠7->j≠3)
 acc:YH [] ys
 bad:XB ys b=false
 len:ys.length<=6/\1<=ys.length
theorem UF {j:Nat}(h3:j≠3)(h4:j≠4):∀{ys xs},(∀y∈ys,y.sl=j/\y.Ok)->((BL xs j).length:Int)+ys.length<=mo j->YH xs ys
 | [],_,_,_=>trivial
 | y::ys,xs,h,hl=>by
  obtain⟨e,ok⟩:=h y Cw;rw[Cm] at hl;refine⟨ok,XA (by rw[e];exact h3) (by rw[e];exact h4) (by rw[e];show((BL xs j).length:Int)<mo j;omega),UF h3 h4 (λu J=>h u (Cu _ J)) ?_⟩;rw[XJ,DZ e,D0,D6];omega
theorem GJ {w:Int}{zs}(J:j≠3)(U:j≠4)(hz:∀y∈zs,y.sl=j/\y.Ok)(hl:(zs.length:Int)=mo j+1)(hw:w=0↔j=0)(hj:j<7):∃ys b,zs=ys++[b]/\Und w ys b:=by
 have m6:∀j<7,1<=mo j/\mo j<=6:=by decide
 obtain⟨m1,m2⟩:=m6 j hj;rcases List.eq_nil_or_concat zs with rfl|⟨ys,b,rfl⟩
 ·simp at hl;omega
 rw[List.concat_eq_append] at *;rw[D0,D6] at hl;have hy:∀y∈ys,y.sl=j/\y.Ok:=λy h=>hz y (C0 _ h)
 have eb:=(hz b (by simp)).1;have es:BL ys j=ys:=YL λy h=>(hy y h).1
 refine⟨ys,b,rfl,⟨j,hz,hw,λ_=>J⟩,UF J U hy (by show((0:Nat):Int)+_<=_;omega),?_,by omega⟩;have fb:∀x:Itm,x.sl≠3->x.sl≠4->XB ys x=!decide (((BL ys x.sl).length:Int)=mo x.sl):=λx J U=>by
  cases x with
  | cnt=>exact absurd rfl J
  | off=>exact absurd rfl U
  | _=>rfl
 rw[fb b (by rw[eb];exact J) (by rw[eb];exact U),eb,es,Ck (by omega)];rfl
theorem UE:∀{ys xs},(∀y∈xs++ys,y.sl=4)->(∀y∈ys,y.Ok)->(xs++ys).Pairwise (λa b=>IV a<IV b)->(xs++ys).length<=6->YH xs ys
 | [],_,_,_,_,_=>trivial
 | y::ys,xs,h,ok,pw,hl=>by
  have e:xs++y::ys=(xs++[y])++ys:=by rw[List.append_assoc];rfl
  have J:=hl;rw [D0,Cm] at J;obtain ⟨l,r,s,rfl⟩:=YA (h y (by simp));refine ⟨ok _ Cw,⟨?_,fun u U l' r' s' e'=>?_⟩,UE (by rw [<-e];exact h) (fun u U=>ok u (Cu _ U)) (by rw [<-e];exact pw) (by rw [<-e];exact hl)⟩
  ·exact Aq (Az _ _) (by omega)
  ·have:=(List.pairwise_append.mp pw).2.2 u U (.off l r s) Cw;rw[e'] at this;exact this
theorem V6 (hx:∀x∈ys,x.sl=4/\x.Ok)(ho:Zw ys)(hl:ys.length<=6):YH [] ys:=by
 refine UE (λy h=>(hx y h).1) (λy h=>(hx y h).2) ?_ hl;have:=ho.1;rw[YL λy h=>(hx y h).1] at this;exact this
theorem NT {b}(ho:Zw (ys++[b]))(hb:b.sl=4):Zw ys:=by
 unfold Zw at *;rw[XJ,DZ hb] at ho;refine⟨(List.pairwise_append.mp ho.1).1,λi y J=>ho.2 i y (by rw[CI (Cg.mp J).1];exact J)⟩
theorem MQ {zs}(hx:∀x∈zs,x.sl=4/\x.Ok)(ho:Zw zs)(hl:zs.length=7):∃ys b,zs=ys++[b]/\Und 3 ys b:=by
 rcases List.eq_nil_or_concat zs with rfl|⟨ys,b,rfl⟩
 ·cases hl
 rw[List.concat_eq_append] at *;rw[D0,D6] at hl;have J:∀y∈ys,y.sl=4/\y.Ok:=λy h=>hx y (C0 _ h)
 have U:=(hx b (by simp)).1;refine⟨ys,b,rfl,⟨4,hx,by decide,by decide⟩,V6 J (NT ho U) (by omega),?_,by omega⟩;obtain⟨l,r,s,rfl⟩:=YA U;unfold XB;rw[YL λy h=>(J y h).1,Ck (by omega)];rfl
theorem MR {y}{n:Int}(hx:∀x∈ys,x.sl=4/\x.Ok)(ho:Zw ys)(hl:ys.length<=5)(hy:ys.getLast?=some y)(hn:Zg n)(hle:n<=IV y):Und 6 ys (.off n 1 1):=by
 have U:1<=ys.length:=by
  cases ys with
  | nil=>cases hy
  | cons=>simp
 refine⟨⟨4,λu J=>?_,by decide,by decide⟩,V6 hx ho (by omega),?_,by omega⟩
 ·rcases Cr.mp J with h|h
  ·exact hx u h
  ·rw[D7.mp h];exact⟨rfl,hn,by decide,by decide,by decide,by decide,by decide⟩
 ·unfold XB;rw[YL λy h=>(hx y h).1,hy];show(_&&decide (IV y<n))=false;rw[Ce (show¬IV y<n by omega),Aa]
theorem MS {a b c}(ha:Q7 a)(hb:Q7 b)(hab:a≠b)(hc:c=a∨c=b):Und 7 [.cnt a 1 1,.cnt b 1 2] (.cnt c 1 2):=by
 have r1:ZH 1 1:=⟨by decide,by decide,by decide,by decide,by decide⟩
 have r2:ZH 1 2:=⟨by decide,by decide,by decide,by decide,by decide⟩
 have U:Q7 c:=by rcases hc with rfl|rfl<;>assumption
 refine⟨⟨3,λu hu=>?_,by decide,λh=>absurd rfl h⟩,⟨⟨ha,r1⟩,(λy J=>by cases J),⟨hb,r2⟩,λy J z' r' s' e=>?_,trivial⟩,?_,⟨AL rfl,AL rfl⟩⟩
 ·have hu:u=.cnt a 1 1∨u=.cnt b 1 2∨u=.cnt c 1 2:=by simpa using hu
  rcases hu with rfl|rfl|rfl
  ·exact⟨rfl,ha,r1⟩
  ·exact⟨rfl,hb,r2⟩
  ·exact⟨rfl,U,r2⟩
 ·have J:y=.cnt a 1 1:=by simpa using J
  rw[J] at e;cases e;exact hab
 ·show(!decide (c∈[a,b]))=false;rw[Ck (by rcases hc with rfl|rfl<;>simp)];rfl
inductive jH (K)(x y z:V)(H)(Q:VK):Prop
 | mk (w c:Int) (a:Addr) (ns:List Str) (h1:x=.int w) (h2:y=.ref a) (h3:z=.int c) (h4:0<=w/\w<=7) (h5:A6 K H a (ns.map V.str)) (h6:ns.length=9) (h7:ns.Nodup) (h8:∀z∈ns,Q7 z) (q:∀l ys b H',Same H H'->H' l=some (.lst (A2 ((ys++[b]).map Row.itm)))->Und w ys b->Q (.ref l) H'):jH K x y z H Q
def lT (j:Nat)(x1:Option V)(H:Hp)(i:Nat)(acc:List V)(σ':L2.St)(H':Hp):Prop:=∃(x0:Option V) (xs:List Itm),σ'=[x0,x1]/\Same H H'/\acc=A2 (xs.map Row.itm)/\(∀y∈xs,y.sl=j/\y.Ok)/\xs.length=i
def oR (xs:List Itm)(H:Hp)(i:Nat)(acc:List V)(σ':L2.St)(H':Hp):Prop:=∃(x0:Option V),σ'=[x0]/\Same H H'/\acc=A2 ((xs.take i).map Row.itm)
theorem txs_snoc:A2 ((xs++[x]).map Row.itm)=A2 (xs.map Row.itm)++[.str (Row.itm x).tx]:=by simp[A2]
theorem WQ {x}(h:∀y∈xs,y.sl=j/\y.Ok)(hx:x.sl=j/\x.Ok):∀y∈xs++[x],y.sl=j/\y.Ok:=λy J=>by
 rcases Cr.mp J with J|J
 ·exact h y J
 ·rw[D7.mp J];exact hx
theorem KR (z)(r s:Int):(Row.itm (.cnt z r s)).tx=q_ "counts "++z++(blank++Zb r s):=by
 show Txt.join blank [q_ "counts",z,Zb r s]=_;rw[mG,show q_ "counts "=q_ "counts"++blank by decide +kernel];simp only[Ye]
theorem Sr (n r s:Int):(Row.itm (.off n r s)).tx=q_ "off "++nt n++(blank++Zb r s):=by
 show Txt.join blank [q_ "off",nt n,Zb r s]=_;rw[mG,show q_ "off "=q_ "off"++blank by decide +kernel];simp only[Ye]
theorem Ec:q_ " 1"=blank++Zb 1 1:=by decide +kernel
theorem Dx:q_ " 1/2"=blank++Zb 1 2:=by decide +kernel
theorem Dw:q_ " 1/3"=blank++Zb 1 3:=by decide +kernel
theorem G9 {k:Nat}(h:k<ns.length):IL (ns.map V.str) (k:Int)=some (.str ns[k]):=QV (by rw[Ct,D4 h];rfl)
theorem NV {x}{p1}{R}(lit:LIt K H x v)(ok:x.Ok)(hs:x.sl=2∨x.sl=3∨x.sl=4)(hp1:A9 K H p1 [.str x.srt])(q:∀H',Same H H'->R (.str (Row.itm x).tx) H'):VX K (.ref p1) v H λy H3=>IR K y H3 R:=by
 obtain⟨a,us,rfl,hS,ne,U⟩:=LM lit ok hs;have a4:x.ws.length<=10:=X0 (r:=.itm x) ok;have a5:=U.1;refine⟨p1,a,_,us,rfl,rfl,hp1,hS,by simp,by rw[Cb];show 1+us.length<=_;omega,λe=>absurd e ne,λ_ p2 J=>?_⟩;have g3:=Qc J (.tup ([.str x.srt]++us));exact⟨p2,_,x.srt::x.ws,rfl,AJ Qa,QB (KP (Q4 _ (Z4 (.itm x))).2.1) (UX (N:=λ_=>True) (.of g3) U),by show x.ws.length+1<=20;omega,λH' g'=>q _ (g3.trans g')⟩
theorem iQ (T:Tx w K mg):GF P w K mg base 5 "_law_under" ["_law_way","_law_names_here","_law_cell_here"] (Sp3M (jH K)):=by
 refine Zf T 90 ["_law_way","_law_names_here","_law_cell_here","_law_rows_here","_law_limit_here"] JU λH Q ba hr h=>?_
 obtain⟨_,_,_,rfl,w,c,a,ns,rfl,rfl,rfl,hw,hP,hl,nd,ok,q⟩:=h;refine⟨_,(Qb (Qr (A8 (QM K) (pu 0) Qd) (Qf (Qk (Ij ["_law_k","_law_cell_here"] [none,some 2] (Zc rfl T.aG (A1 Qd)) (GE 0) QU (A7 (aK T) (A1 (A7 (bT T) (A1 (Qg Qh (pu 1) (pu 0))))))))) Ql) (Qb (Qr (A8 (QM K) (pu 0) Qd) (Qf (Qk (Ij ["_law_k","_law_cell_here"] [none,some 2] (Zc rfl T.aG (A1 Qd)) (GE 0) QU (A7 (aK T) (A1 (A7 (bU T) (A1 (Qg Qh (pu 1) (pu 0))))))))) Ql) (Qb (Qr (A8 (QM K) (pu 0) Qd) (Qf (Qk (Ij ["_law_k","_law_cell_here"] [none,some 2] (Zc rfl T.aG (A1 Qd)) (GE 0) QU (A7 (aK T) (A1 (QY (gu Qe (A7 (aO T) (A3 (Qg Qh (pu 1) (pu 0)) Qd)) (pu 0) (Qg Z6 Qd (pu 0))))))))) Ql) (Qb (Qr (A8 (QM K) (pu 0) Qd) (Qf (Qk (Ij ["_law_one"] [none] (Ie K rfl (A7 (bY T) (A3 (pu 2) Qd))) (GE 0) QU (A7 (aK T) (A1 (Qg (Ut K rfl) (QY (A1 Qe)) (pu 0))))))) Ql) (Qb (Qr (A8 (QM K) (pu 0) Qd) (Qf (Qk (Ij ["_law_k","_law_cell_here"] [none,some 2] (Zc rfl T.aG (A1 Qd)) (GE 0) QU (Qg Qh Qe (Qv Zd (by rfl) T.aH boot_str (A1 (Qg Qo (A7 (aA T) (A3 (pu 1) (pu 0))) (BN K (Qn (A3 Qd (Qg XM Qd Qd))) (pu 0))))))))) Ql) (Qb (Qr (A8 (QM K) (pu 0) Qd) (Qf (Qk (Qn (A3 Qe (BN K (Qn (A3 Qe Qe)) (Qg Qo (pu 2) Qd)))))) Ql) (Qb (Qr (A8 (QM K) (pu 0) Qd) (Qb (A5 3 (A7 (bY T) (A3 (pu 2) (Qg Qh Qd (Qg Qo (pu 2) Qd))))) (Qb (A5 4 (Qw (Ml rfl) (by rfl) T.cA boot_max (A3 Qd (Qg Z6 (BN K (BN K (pu 3) Ia) Qd) (Qg Qo (Qg Qx (pu 2) Qd) Qd))))) (Qf (Qk (Qg Qh (Ij ["_law_one"] [none] (Ie K rfl (pu 3)) (GE 0) QU (A7 (aK T) (A1 (Qg (Ut K rfl) (QY (A1 Qe)) (pu 0))))) (Qn (A1 (Qg Qh (Qg Qh Qe (Qv Zd (by rfl) T.aH boot_str (A1 (pu 4)))) Qe)))))))) Ql) (Qf (Qk (Qn (IZ (Qg Qh (Qg Qh Qe (BM K 1)) Qe) (Qg Qh (Qg Qh Qe (BM K 1)) Qe) (Qg Qh (Qg Qh Qe (BN K (pu 1) (Qg Qh Qd (Qg Qo (pu 2) Qd)))) Qe)))))))))))),?_⟩;left;simp only[ZL];left;have fin:∀(j:Nat) (n:Nat) (acc:List V) (σ':L2.St) (H2:Hp) (p:Addr),j≠3->j≠4->j<7->(n:Int)=mo j+1->(w=0↔j=0)->lT j (some (.int c)) H n acc σ' H2->H2 p=none->Q (.ref p) (upd H2 p (.lst acc)):=λj n acc σ' H2 p h3 h4 h7 hn hj ⟨x0,xs,_,g,ea,hx,el⟩ hp=>by
  obtain⟨ys,b,e,u⟩:=GJ h3 h4 hx (by rw[el];exact hn) hj h7;subst ea e;exact q p ys b _ (g.trans (Qc hp _)) Qa u
 have a7:∀(a':Addr) (xs:List Itm) (vs:List V) (H1:Hp) (σ0:L2.St) (R:VK),σ0=[none]->H1 a'=some (.lst vs)->All2 (LIt K H1) xs vs->(∀x∈xs,x.sl=4/\x.Ok)->xs.length<=7->(∀p H2,Same H1 H2->H2 p=none->R (.ref p) (upd H2 p (.lst (A2 (xs.map Row.itm)))))->Y9 (O2 K a') (XW 0) MY (Kb (Sp1M (IR K)) [] E0 (GR (IS (VX K) (BY (GR (tC (V.str "off")) JO)) (Xj 0)) JO)) σ0 H1 R:=λa' xs vs H1 σ0 R e0 ka hA hx a8 q=>by
  subst e0;have b8:=hA.1;refine Y2 (xs:=vs) (oR xs H1) ⟨none,rfl,AK _,rfl⟩ (λi acc σ' H' _ h=>by obtain⟨_,_,g',_⟩:=h;exact AI (g' _ _ ka)) (by omega) ?_ ?_
  ·rintro i v acc _ H2 hv a4 ⟨x0,rfl,g,rfl⟩;obtain⟨x,ai,a5⟩:=hA.getV hv;obtain⟨J,aa⟩:=hx x (C6 ai);simp only[ZS];left;refine⟨by decide,λp1 b4=>?_⟩;have g1:=Qc b4 (.tup [.str "off"]);obtain⟨l,r,s',rfl⟩:=YA J;refine NV (x:=.off l r s') (a5.kp (N:=λ_=>True) (.of (g.trans g1))) aa (.inr (.inr rfl)) (AJ Qa) λH3 g3=>?_
   exact CN.mk (Z0 hv) (by rw[D0,D6];omega) ⟨_,rfl,(g.trans g1).trans g3,by rw[CS,ai];exact txs_snoc.symm⟩
  ·rintro acc _ H2 ⟨x0,rfl,g,rfl⟩ p hp;rw[CH (by omega)];exact q p H2 g hp
 by_cases e0:w=0
 ·subst e0;rw[DZ rfl];refine⟨by decide,by decide,Jx (lT 0 (some (.int c)) H) ⟨none,[],rfl,AK _,rfl,(λz hz=>by cases hz),rfl⟩ (by decide) ?_ λacc σ' H2 h p hp=>fin 0 7 acc σ' H2 p (by decide) (by decide) (by decide) (by decide) (by decide) h hp⟩;rintro i acc _ H2 hi a4 ⟨x0,xs,rfl,g,rfl,hx,rfl⟩;simp only[ZS];left;refine⟨_,rfl,λx v H3 g3 U J a5=>?_⟩;obtain⟨a',us,rfl,hS,hA⟩:=Gg a5 U (.inl J);have b5:x.ws.length<=10:=X0 (r:=.itm x) U;exact⟨a',us,x.srt::x.ws,rfl,hS,hA,by show x.ws.length+1<=20;omega,λH4 g4=>CN.mk hi (by rw[D0,D6];omega) ⟨_,xs++[x],rfl,(g.trans g3).trans g4,txs_snoc.symm,WQ hx ⟨J,U⟩,by rw[D0];rfl⟩⟩
 rw[DY e0];by_cases e1:w=1
 ·subst e1;rw[DZ rfl];refine⟨by decide,by decide,Jx (lT 1 (some (.int c)) H) ⟨none,[],rfl,AK _,rfl,(λz hz=>by cases hz),rfl⟩ (by decide) ?_ λacc σ' H2 h p hp=>fin 1 7 acc σ' H2 p (by decide) (by decide) (by decide) (by decide) (by decide) h hp⟩;rintro i acc _ H2 hi a4 ⟨x0,xs,rfl,g,rfl,hx,rfl⟩;simp only[ZS];left;refine⟨_,rfl,λx v H3 g3 U J a5=>?_⟩;obtain⟨a',us,rfl,hS,hA⟩:=Gg a5 U (.inr J);have b5:x.ws.length<=10:=X0 (r:=.itm x) U;exact⟨a',us,x.srt::x.ws,rfl,hS,hA,by show x.ws.length+1<=20;omega,λH4 g4=>CN.mk hi (by rw[D0,D6];omega) ⟨_,xs++[x],rfl,(g.trans g3).trans g4,txs_snoc.symm,WQ hx ⟨J,U⟩,by rw[D0];rfl⟩⟩
 rw[DY e1];by_cases e2:w=2
 ·subst e2;rw[DZ rfl];refine⟨by decide,by decide,Jx (lT 2 (some (.int c)) H) ⟨none,[],rfl,AK _,rfl,(λz hz=>by cases hz),rfl⟩ (by decide) ?_ λacc σ' H2 h p hp=>fin 2 5 acc σ' H2 p (by decide) (by decide) (by decide) (by decide) (by decide) h hp⟩;rintro i acc _ H2 hi a4 ⟨x0,xs,rfl,g,rfl,hx,rfl⟩;have b7:xs.length<5:=hi;simp only[ZS];left;refine⟨_,1,rfl,rfl,by omega,λp7 r s' H3 g3 af b0=>?_⟩;left;refine⟨by decide,λp8 aq=>?_⟩;have g4:=Qc aq (.tup [.str "pay",.ref p7,.int (0+(xs.length:Int)),.int (150-(0+(xs.length:Int)))]);have ag:WC (0+(xs.length:Int)) (150-(0+(xs.length:Int))):=⟨by omega,by omega,by omega⟩
  have U:(Itm.pay r s' (0+(xs.length:Int)) (150-(0+(xs.length:Int)))).Ok:=⟨af,ag⟩
  exact⟨p8,_,(Itm.pay r s' (0+(xs.length:Int)) (150-(0+(xs.length:Int)))).srt::(Itm.pay r s' (0+(xs.length:Int)) (150-(0+(xs.length:Int)))).ws,rfl,AJ Qa,QB (KP (Q4 _ (Z4 (.itm (.pay r s' 0 0)))).2.1) (QB (MP af (g4.sqT (AJ b0))) (QB (Yr (ZR ag).1) (QB (Yr (ZR ag).2) Z1))),by show 4<=20;decide,λH4 g5=>CN.mk hi (by rw[D0,D6];omega) ⟨_,xs++[.pay r s' (0+(xs.length:Int)) (150-(0+(xs.length:Int)))],rfl,((g.trans g3).trans g4).trans g5,txs_snoc.symm,WQ hx ⟨rfl,U⟩,by rw[D0];rfl⟩⟩
 rw[DY e2];by_cases e3:w=3
 ·subst e3;rw[DZ rfl];refine⟨c,7,rfl,rfl,by decide,λa' xs vs H1 g1 _ ka hA hx ho a8=>⟨a',rfl,⟨_,AI ka⟩,a7 a' xs vs H1 _ _ rfl ka hA hx (by omega) λp H2 g2 hp=>?_⟩⟩;obtain⟨ys,b,rfl,u⟩:=MQ hx ho (by omega);exact q p ys b _ ((g1.trans g2).trans (Qc hp _)) Qa u
 rw[DY e3];by_cases e4:w=4
 ·subst e4;rw[DZ rfl];refine⟨by decide,by decide,Jx (lT 5 (some (.int c)) H) ⟨none,[],rfl,AK _,rfl,(λz hz=>by cases hz),rfl⟩ (by decide) ?_ λacc σ' H2 h p hp=>fin 5 2 acc σ' H2 p (by decide) (by decide) (by decide) (by decide) (by decide) h hp⟩;rintro i acc _ H2 hi a4 ⟨x0,xs,rfl,g,rfl,hx,rfl⟩;have b9:xs.length<2:=hi;simp only[ZS];left;refine⟨c,_,rfl,rfl,by omega,λm1 H3 g3 _ _=>?_⟩;left;refine⟨by unfold VJ;decide,by decide,λp5 a9=>?_⟩;obtain⟨w1,ay,ak,bb⟩:∃w:Int,IL [V.int 9,.int (10 ^ Int.toNat 9)] (0+(xs.length:Int))=some (.int w)/\0<w/\w<=1000000000:=by
   rcases(show xs.length=0∨xs.length=1 by omega) with e|e<;>rw[e]
   ·exact⟨_,rfl,by decide,by decide⟩
   ·exact⟨_,rfl,by decide,by decide⟩
  refine QA (AI Qa) ay ?_;left;have hn:Zg (m1 % w1):=⟨Ci m1 (by omega),by have:=Cq m1 ak;omega⟩
  generalize m1 % w1=n at *;refine⟨ak,.inl ⟨n,rfl,Xf hn.1 (by have:=hn.2;omega),?_⟩⟩;left;have lu:(Str.ofString (toString n)).length<=100:=len_num hn.1 (by have:=hn.2;omega);have lr:(Str.ofString "until ").length=6:=by decide +kernel
  refine⟨Qq (by omega),CN.mk hi (by rw[D0,D6];omega) ⟨_,xs++[.unt n],rfl,(g.trans g3).trans (Qc a9 _),?_,WQ (x:=.unt n) hx ⟨rfl,hn⟩,by rw[D0];rfl⟩⟩;rw[txs_snoc,MT]
 rw[DY e4];by_cases e5:w=5
 ·subst e5;rw[DZ rfl];refine⟨by decide,λp hp=>⟨trivial,?_⟩⟩;obtain⟨v1,ar,ae⟩:=Wu (a:=.str "round 5 near") (b:=.str "round 1 up") c;refine QA (AI Qa) ar ⟨by decide,λp2 az=>?_⟩;have o1:(Itm.rnd 5 (q_ "near")).Ok:=⟨⟨by decide,by decide⟩,by decide +kernel⟩
  have o2:(Itm.rnd 1 (q_ "up")).Ok:=⟨⟨by decide,by decide⟩,by decide +kernel⟩
  have t1:Str.ofString "round 5 near"=(Row.itm (.rnd 5 (q_ "near"))).tx:=by decide +kernel
  have t2:Str.ofString "round 1 up"=(Row.itm (.rnd 1 (q_ "up"))).tx:=by decide +kernel
  have a6:∀b:Itm,b.sl=6/\b.Ok->v1=.str (Row.itm b).tx->Q (.ref p2) (upd (upd H p (.lst [V.str "round 5 near",V.str "round 1 up"])) p2 (.lst [V.str "round 5 near",v1])):=λb hb e=>by
   have g1:=(Qc hp (.lst [V.str "round 5 near",V.str "round 1 up"])).trans (Qc az (.lst [V.str "round 5 near",v1]));obtain⟨ys,b',e2,u⟩:=GJ (w:=5) (j:=6) (zs:=[.rnd 5 (q_ "near"),b]) (by decide) (by decide) (λy hy=>by
    have hy:y=.rnd 5 (q_ "near")∨y=b:=by simpa using hy
    rcases hy with rfl|rfl
    ·exact⟨rfl,o1⟩
    ·exact hb) rfl (by decide) (by decide)
   refine q p2 ys b' _ g1 ?_ u;rw [<-e2,Qa,e,t1];rfl
  rcases ae with e|e
  ·exact a6 (.rnd 5 (q_ "near")) ⟨rfl,o1⟩ (by rw[e,t1])
  ·exact a6 (.rnd 1 (q_ "up")) ⟨rfl,o2⟩ (by rw[e,t2])
 rw[DY e5];by_cases e6:w=6
 ·subst e6;rw[DZ rfl];have m0:=Ci c (show(5:Int)≠0 by decide);have m1:=Cq c (show(0:Int)<5 by decide);refine⟨trivial,c,1+c % 5,rfl,rfl,by omega,λa' xs vs H1 g1 _ ka hA hx ho a8=>?_⟩;rcases List.eq_nil_or_concat vs with rfl|⟨w0,v,rfl⟩
  ·have:=hA.1;simp at this;subst this;simp at a8;omega
  rw[List.concat_eq_append] at *;obtain⟨y,hy,ax⟩:=hA.getV (i:=w0.length) (v:=v) (by rw[CG (D2 _),CK];rfl);obtain⟨J,aa⟩:=hx y (C6 hy);obtain⟨l2,r2,s2,rfl⟩:=YA J;obtain⟨p,p3,rfl,hT,_⟩:=Nc ax;have el:xs.getLast?=some (.off l2 r2 s2):=by
   have au:xs.length=w0.length+1:=by rw[hA.1,D0];rfl
   rw[List.getLast?_eq_getElem?,au];exact hy
  have d0:=Ci (c.fdiv 5) (show(3:Int)≠0 by decide);refine QA (AI ka) (Q5 _ _) (Zq hT rfl ⟨⟨by decide,(IB (m:=60) (by decide) (by decide)).mono (by decide)⟩,trivial,?_⟩);left;have ah:Zg l2:=aa.1;have hn:Zg (if l2-c.fdiv 5 % 3 > 0 then l2-c.fdiv 5 % 3 else 0)/\(if l2-c.fdiv 5 % 3 > 0 then l2-c.fdiv 5 % 3 else 0)<=l2:=by
   have h1:=ah.1;have h2:=ah.2;unfold Zg;split<;>omega
  generalize (if l2-c.fdiv 5 % 3 > 0 then l2-c.fdiv 5 % 3 else 0)=n at *;refine⟨a',rfl,⟨_,AI ka⟩,a7 a' xs _ H1 _ _ rfl ka hA hx (by omega) λp4 H2 g2 aw=>.inl ⟨n,rfl,Xf hn.1.1 (by have:=hn.1.2;omega),?_⟩⟩;left;have lu:(Str.ofString (toString n)).length<=100:=len_num hn.1.1 (by have:=hn.1.2;omega);have lr:(Str.ofString "off ").length=4:=by decide +kernel
  have l1:(Str.ofString " 1").length=2:=by decide +kernel
  have tn:Str.ofString "off "++Str.ofString (toString n)++Str.ofString " 1"=(Row.itm (.off n 1 1)).tx:=by rw[Sr,<-Ec]
  refine⟨Qq (by omega),Qq (by rw[Qu];omega),by decide,λp5 a9=>?_⟩;rw[tn];have g3:=Qc aw (.lst (A2 (xs.map Row.itm)));have k4:=Qa (H:=H2) (a:=p4) (o:=.lst (A2 (xs.map Row.itm)));generalize upd H2 p4 (.lst (A2 (xs.map Row.itm)))=H3 at *;have g4:=Qc a9 (.lst [V.str (Row.itm (.off n 1 1)).tx]);refine Z8 ⟨p4,p5,_,_,rfl,rfl,g4 _ _ k4,Qa,Qq (by rw[D1,D1];show _+1<=1000;omega),λp6 b6=>?_⟩;refine q p6 xs (.off n 1 1) _ ((((g1.trans g2).trans g3).trans g4).trans (Qc b6 _)) ?_ (MR hx ho (by omega) el hn.1 hn.2);rw[Qa,txs_snoc]
 rw[DY e6];have ew:w=7:=by omega
 subst ew;have a1:Q7 ns[1]:=ok _ (List.getElem_mem (by omega));have a2:Q7 ns[2]:=ok _ (List.getElem_mem (by omega));have lz:∀z:Str,Q7 z->z.length<=8:=λz h=>by
  have h:(decide (1<=z.length)&&decide (z.length<=8)&&z.cps.toList.all YY)=true:=h;simp only[CV,Ai] at h;exact h.1.2
 have lc:(Str.ofString "counts ").length=7:=by decide +kernel
 have l1:(Str.ofString " 1").length=2:=by decide +kernel
 have l2:(Str.ofString " 1/2").length=4:=by decide +kernel
 obtain⟨k,hk,av⟩:∃k:Nat,1+c % 2=(k:Int)/\(k=1∨k=2):=by
  rcases(show c % 2=0∨c % 2=1 by omega) with e|e
  ·exact⟨1,by omega,.inl rfl⟩
  ·exact⟨2,by omega,.inr rfl⟩
 have aj:k<ns.length:=by omega
 have a3:Q7 ns[k]:=ok _ (List.getElem_mem aj);have b1:=lz _ a1;have b2:=lz _ a2;have b3:=lz _ a3;refine QA hP (G9 (k:=1) (by omega)) ?_;left;refine⟨Qq (by omega),Qq (by rw[Qu];omega),?_⟩;refine QA hP (G9 (k:=2) (by omega)) ?_;left;refine⟨Qq (by omega),Qq (by rw[Qu];omega),trivial,?_⟩;rw[hk];refine QA hP (G9 aj) ?_;left;refine⟨Qq (by omega),Qq (by rw[Qu];omega),by decide,λp hp=>?_⟩;have ao:ns[1]≠ns[2]:=λe=>by
  have:=(List.getElem_inj nd (h₀:=by omega) (h₁:=by omega)).mp e;omega
 refine q p [.cnt ns[1] 1 1,.cnt ns[2] 1 2] (.cnt ns[k] 1 2) _ (Qc hp _) ?_ (MS a1 a2 ao (by rcases av with rfl|rfl;exact .inl rfl;exact .inr rfl));rw[Qa];show some (HO.lst [_,_,_])=some (HO.lst [V.str (Row.itm _).tx,V.str (Row.itm _).tx,V.str (Row.itm _).tx]);rw[KR,KR,KR,<-Ec,<-Dx]
def Mg (p:Int×Str):Row:=.cap 1 p.1 [p.2]
theorem LZ {c}:ZO (cs++[c])=ZO cs++c.2.2:=by unfold ZO;rw[D9,Ap];simp
theorem JG:∀{ps:List (Int×Str)} {ks} {cs} {as:List Str},(ps.map (·.2)++ZO cs).Nodup->(∀p∈ps,Zg p.1/\Q7 p.2)->cs.length+ps.length<=4->IM ks cs (ps.map Mg)/\(run ks cs as (ps.map Mg)).1=ks/\(run ks cs as (ps.map Mg)).2.1=cs++ps.map (λp=>(1,p.1,[p.2]))
 | [],ks,cs,as,_,_,_=>⟨trivial,rfl,(Cs _).symm⟩
 | p::ps,ks,cs,as,U,ok,hl=>by
  have U:(p.2::(ps.map (·.2)++ZO cs)).Nodup:=U;obtain⟨n1,n2⟩:=CZ.mp U;rw[Cm] at hl;obtain⟨o1,o2⟩:=ok p Cw;have J:(ps.map (·.2)++ZO (cs++[(1,p.1,[p.2])])).Nodup:=by
   rw[LZ,<-List.append_assoc];exact YX n2 n1
  obtain⟨a,b,c⟩:=JG (ks:=ks) (as:=as++[p.2]) J (λq hq=>ok q (Cu _ hq)) (by rw[D0,D6];omega);refine⟨⟨⟨⟨by decide,by decide⟩,o1,λz hz=>?_,by show 1<=1;decide,by show 1<=8;decide⟩,⟨by omega,?_⟩,a⟩,b,?_⟩
  ·rw[D7.mp hz];exact o2
  ·show(p.2::ZO cs).Nodup;exact CZ.mpr ⟨λh=>n1 (CU _ h),(C7.mp n2).2.1⟩
  ·show(run ks (cs++[(1,p.1,[p.2])]) (as++[p.2]) (ps.map Mg)).2.1=_;rw[c,List.append_assoc];rfl
theorem KI:∀{zs} {ks} {cs} {as},(ks.map (·.1)++zs).Nodup->(∀z∈zs,Q7 z)->ks.length+zs.length<=8->IM ks cs (zs.map .kind)/\(run ks cs as (zs.map .kind)).1.map (·.1)=ks.map (·.1)++zs
 | [],ks,cs,as,_,_,_=>⟨trivial,(Cs _).symm⟩
 | z::zs,ks,cs,as,nd,ok,hl=>by
  rw[Cm] at hl;have J:((ks++[(z,([]:List Itm))]).map (·.1)++zs).Nodup:=by
   rw[D9,List.append_assoc];exact nd
  obtain⟨a,b⟩:=KI (ks:=ks++[(z,[])]) (cs:=cs) (as:=as) J (λy U=>ok y (Cu _ U)) (by rw[D0,D6];omega);refine⟨⟨ok z Cw,⟨by omega,λh=>(C7.mp nd).2.2 z h z Cw rfl⟩,a⟩,?_⟩;show(run (ks++[(z,[])]) cs as (zs.map .kind)).1.map (·.1)=_;rw[b,D9,List.append_assoc];rfl
structure jv (rs:List Row)(r:Row):Prop where
 acc:IM [] [] rs
 ok:r.Ok
 bad:WE (run [] [] [] rs).1 (run [] [] [] rs).2.1 r=false
 len:rs.length<=10
inductive Ou (K)(x y z:V)(H)(Q:VK):Prop
 | mk (w c:Int) (a:Addr) (ns:List Str) (h1:x=.int w) (h2:y=.ref a) (h3:z=.int c) (h4:8<=w/\w<=12) (h5:A6 K H a (ns.map V.str)) (h6:ns.length=9) (h7:ns.Nodup) (h8:∀z∈ns,Q7 z) (q:∀l rs r H',Same H H'->H' l=some (.lst (A2 (rs++[r])))->jv rs r->Q (.ref l) H'):Ou K x y z H Q
def A0 (ns:List Str)(k:Nat):Str:=(ns[k]?).getD (q_ "")
theorem LF {k:Nat}(h:k<ns.length):IL (ns.map V.str) (k:Int)=some (.str (A0 ns k)):=by
 have e:A0 ns k=ns[k]:=by unfold A0;rw[D4 h];rfl
 rw[e];exact G9 h
theorem XN {k:Nat}(h:k<ns.length):A0 ns k∈ns:=by
 have e:A0 ns k=ns[k]:=by unfold A0;rw[D4 h];rfl
 rw[e];exact List.getElem_mem h
theorem Xv:∀{m:Nat},m<=ns.length->(List.range m).map (A0 ns)=ns.take m
 | 0,_=>by simp
 | m+1,h=>by
  rw[List.range_succ,D9,Xv (Nat.le_of_succ_le h),CS,D4 h];show _++[A0 ns m]=_;unfold A0;rw[D4 h];rfl
theorem LD {k:Nat}(h:k<m)(hm:m<=ns.length):A0 ns k∈ns.take m:=by
 rw [<-Xv hm];exact C8.mpr ⟨k,List.mem_range.mpr h,rfl⟩
theorem ZN (h:Q7 z):z.length<=8:=by
 have h:(decide (1<=z.length)&&decide (z.length<=8)&&z.cps.toList.all YY)=true:=h;simp only[CV,Ai] at h;exact h.1.2
theorem KQ (z):(Row.kind z).tx=q_ "kind "++z:=by
 show Txt.join blank [q_ "kind",z]=_;rw[mH,show q_ "kind "=q_ "kind"++blank by decide +kernel]
theorem KU {a b:Int}{p}(h:p=q_ "cap"++blank++(nt a++blank++(nt b++blank))):(Row.cap a b [z]).tx=p++z:=by
 show Txt.join blank [q_ "cap",nt a,nt b,z]=_;rw[show Txt.join blank [q_ "cap",nt a,nt b,z]=q_ "cap"++blank++(nt a++blank++(nt b++blank++z)) from StrLaws.glued_eq_join blank [_,_,_,_],h];simp only[Ye]
theorem KS {a b:Int}{p}(h:p=q_ "cap"++blank++(nt a++blank++(nt b++blank))):(Row.cap a b [z,y]).tx=p++z++blank++y:=by
 show Txt.join blank [q_ "cap",nt a,nt b,z,y]=_;rw[show Txt.join blank [q_ "cap",nt a,nt b,z,y]=q_ "cap"++blank++(nt a++blank++(nt b++blank++(z++blank++y))) from StrLaws.glued_eq_join blank [_,_,_,_,_],h];simp only[Ye]
theorem gr (z):Str.empty++z=z:=WR (by rw[Yy];rfl)
def mx (f:Nat->Row)(x1:Option V)(H:Hp)(i:Nat)(acc:List V)(σ':L2.St)(H':Hp):Prop:=∃(x0:Option V),σ'=[x0,x1]/\Same H H'/\acc=A2 ((List.range i).map f)
theorem Wc {f}:A2 ((List.range (i+1)).map f)=A2 ((List.range i).map f)++[.str (f i).tx]:=by rw[List.range_succ];simp[A2]
theorem DO (hl:ns.length=9)(nd:ns.Nodup)(ok:∀z∈ns,Q7 z):jv (.kind (A0 ns 5)::(List.range 4).map λk=>.cap 1 (k:Nat) [A0 ns k]) (.cap 1 4 [A0 ns 4]):=by
 have e:((List.range 4).map λk:Nat=>Row.cap 1 (k:Int) [A0 ns k])=((List.range 4).map λk:Nat=>((k:Int),A0 ns k)).map Mg:=by rw[Ah];rfl
 have e2:((List.range 4).map λk:Nat=>((k:Int),A0 ns k)).map (·.2)=ns.take 4:=by rw[Ah,<-Xv (by omega)];rfl
 obtain⟨a,b,c⟩:=JG (ps:=(List.range 4).map λk:Nat=>((k:Int),A0 ns k)) (ks:=[(A0 ns 5,[])]) (cs:=[]) (as:=[]) (by rw[e2];show(ns.take 4++[]).Nodup;rw[Cs];exact nd.sublist (List.take_sublist _ _)) (λp hp=>by
  obtain⟨k,J,rfl⟩:=C8.mp hp;have J:=List.mem_range.mp J;exact⟨⟨by show 0<=(k:Int);omega,by show(k:Int)<=_;omega⟩,ok _ (XN (by omega))⟩) (AL rfl)
 rw[e];refine⟨⟨ok _ (XN (by omega)),⟨by decide,by simp⟩,a⟩,⟨⟨by decide,by decide⟩,⟨by decide,by decide⟩,λz U=>?_,by show 1<=1;decide,by show 1<=8;decide⟩,?_,AL rfl⟩
 ·rw[D7.mp U];exact ok _ (XN (by omega))
 ·show WE (run [(A0 ns 5,[])] [] [] _).1 (run [(A0 ns 5,[])] [] [] _).2.1 _=false;rw[b,c];rfl
theorem E8 (hl:ns.length=9)(nd:ns.Nodup)(ok:∀z∈ns,Q7 z)(hz:Q7 z)(hy:Q7 y)(h:z∈ns.take 3∨y∈ns.take 3):jv [.cap 1 1 [A0 ns 0,A0 ns 1],.kind (A0 ns 5),.cap 5 0 [A0 ns 2]] (.cap 2 2 [z,y]):=by
 have e3:ns.take 3=[A0 ns 0,A0 ns 1,A0 ns 2]:=(Xv (m:=3) (by omega)).symm;have U:[A0 ns 0,A0 ns 1,A0 ns 2].Nodup:=by rw [<-e3];exact nd.sublist (List.take_sublist _ _)
 have o:∀k,k<9->Q7 (A0 ns k):=λk hk=>ok _ (XN (by omega))
 have a4:=(CZ.mp U).1;have a5:=(CZ.mp (CZ.mp U).2).1;refine⟨⟨⟨⟨by decide,by decide⟩,⟨by decide,by decide⟩,λx J=>?_,by show 1<=2;decide,by show 2<=8;decide⟩,⟨by decide,?_⟩,o 5 (by decide),⟨AL rfl,by simp[kS]⟩,⟨⟨by decide,by decide⟩,⟨by decide,by decide⟩,λx J=>?_,by show 1<=1;decide,by show 1<=8;decide⟩,⟨AL rfl,?_⟩,trivial⟩,⟨⟨by decide,by decide⟩,⟨by decide,by decide⟩,λx J=>?_,by show 1<=2;decide,by show 2<=8;decide⟩,?_,AL rfl⟩
 ·have J:x=A0 ns 0∨x=A0 ns 1:=by simpa using J
  rcases J with rfl|rfl<;>exact o _ (by decide)
 ·show([A0 ns 0,A0 ns 1]++[]).Nodup;rw[Cs];refine CZ.mpr ⟨λh=>a4 ?_,by simp⟩;rw[D7.mp h];simp
 ·rw[D7.mp J];exact o 2 (by decide)
 ·show(A0 ns 2::[A0 ns 0,A0 ns 1]).Nodup;have p:(A0 ns 2::[A0 ns 0,A0 ns 1]).Perm [A0 ns 0,A0 ns 1,A0 ns 2]:=(List.perm_append_comm (l₁:=[A0 ns 2]) (l₂:=[A0 ns 0,A0 ns 1]))
  exact p.nodup_iff.mpr U
 ·have J:x=z∨x=y:=by simpa using J
  rcases J with rfl|rfl
  ·exact hz
  ·exact hy
 ·have ef:WE (run [] [] [] [.cap 1 1 [A0 ns 0,A0 ns 1],.kind (A0 ns 5),.cap 5 0 [A0 ns 2]]).1 (run [] [] [] [.cap 1 1 [A0 ns 0,A0 ns 1],.kind (A0 ns 5),.cap 5 0 [A0 ns 2]]).2.1 (.cap 2 2 [z,y])=(true&&decide ([z,y]++[A0 ns 0,A0 ns 1,A0 ns 2]).Nodup):=rfl;rw[ef,<-e3,Bool.true_and];refine Ce λn=>?_
  rcases h with h|h
  ·exact(C7.mp n).2.2 z (by simp) z h rfl
  ·exact(C7.mp n).2.2 y (by simp) y h rfl
theorem Tv (hl:ns.length=9)(nd:ns.Nodup)(ok:∀z∈ns,Q7 z)(hm:m<=8)(hj:j<m∨m=8)(hj9:j<9):jv ((List.range m).map λk=>.kind (A0 ns k)) (.kind (A0 ns j)):=by
 have e:((List.range m).map fun k=>Row.kind (A0 ns k))=(ns.take m).map .kind:=by rw [<-Xv (by omega),Ah];rfl
 obtain⟨a,b⟩:=KI (zs:=ns.take m) (ks:=[]) (cs:=[]) (as:=[]) (nd.sublist (List.take_sublist _ _)) (λz U=>ok z (List.mem_of_mem_take U)) (by rw[CC];simp;omega);rw[e];refine⟨a,ok _ (XN (by omega)),?_,by rw[D1,CC];omega⟩;show(decide _&&!decide _)=false;have J:(run [] [] [] ((ns.take m).map .kind)).1.map (·.1)=ns.take m:=b;rw[J];rcases hj with hj|hj
 ·rw[Ck (LD hj (by omega))];simp
 ·have bl:=congrArg List.length J;rw[D1,CC] at bl;rw[Ce (show¬(run [] [] [] ((ns.take m).map .kind)).1.length<8 by omega)];rfl
theorem E9 {x}(hl:ns.length=9)(nd:ns.Nodup)(ok:∀z∈ns,Q7 z)(hm:m<=3)(hx:x.Ok):jv ((List.range m).map λk=>.cap 1 1 [A0 ns k]) (.itm x):=by
 have e:((List.range m).map fun k=>Row.cap 1 1 [A0 ns k])=((ns.take m).map fun z=>((1:Int),z)).map Mg:=by rw [<-Xv (by omega),Ah,Ah];rfl
 have e2:((ns.take m).map λz=>((1:Int),z)).map (·.2)=ns.take m:=by rw[Ah];exact List.map_id _
 obtain⟨a,b,c⟩:=JG (ps:=(ns.take m).map λz=>((1:Int),z)) (ks:=[]) (cs:=[]) (as:=[]) (by rw[e2];show(ns.take m++[]).Nodup;rw[Cs];exact nd.sublist (List.take_sublist _ _)) (λp hp=>by
  obtain⟨z,J,rfl⟩:=C8.mp hp;exact⟨⟨by show(0:Int)<=1;decide,by show(1:Int)<=1000000000;decide⟩,ok z (List.mem_of_mem_take J)⟩) (by rw[D1,CC];simp;omega)
 rw[e];refine⟨a,hx,?_,by rw[D1,D1,CC];omega⟩;show(match (run [] [] [] _).1.getLast? with|some k=>XB k.2 x|none=>false)=false;rw[b];rfl
def seven:List Itm:=[.base 1,.each 1 0 9,.rent 1 1 9,.term false 0 0 9,.off 0 1 1,.unt 7,.rnd 1 (q_ "up")]
def sevenT:List Str:=[q_ "base 1",q_ "each 1 0 9",q_ "rent 1 9",q_ "from 0 0 9",q_ "off 0 1",q_ "until 7",q_ "round 1 up"]
theorem M7:sevenT=seven.map λx=>(Row.itm x).tx:=by decide +kernel
theorem M8:∀x∈seven,x.Ok:=by
 have r1:ZH 1 1:=⟨by decide,by decide,by decide,by decide,by decide⟩
 have U:WC 0 9:=⟨by decide,by decide,by decide⟩
 intro x J;unfold seven at J;simp only[Ca,List.not_mem_nil,or_false] at J;rcases J with rfl|rfl|rfl|rfl|rfl|rfl|rfl
 ·exact⟨by decide,by decide⟩
 ·exact⟨⟨by decide,by decide⟩,U⟩
 ·exact⟨r1,by decide,by decide⟩
 ·exact⟨⟨by decide,by decide⟩,U⟩
 ·exact⟨⟨by decide,by decide⟩,r1⟩
 ·exact⟨by decide,by decide⟩
 ·exact⟨⟨by decide,by decide⟩,by decide +kernel⟩
theorem iR (T:Tx w K mg):GF P w K mg base 1 "_law_bare" ["_law_way","_law_names_here","_law_cell_here"] (Sp3M (Ou K)):=by
 refine Zf T 91 ["_law_way","_law_names_here","_law_cell_here","_law_some","_law_many","_law_rows_here"] JU λH Q ag hr h=>?_
 obtain⟨_,_,_,rfl,w,c,a,ns,rfl,rfl,rfl,hw,hP,hl,nd,ok,q⟩:=h;refine⟨_,(Qb (Qr (A8 (QM K) (pu 0) Qd) (Qf (Qk (Qg Qh (Qn (A1 (Qg Qh Qe (BM K 1)))) (Ij ["_law_k","_law_names_here"] [none,some 1] (Zc rfl T.aG (A1 Qd)) (GE 0) QU (Qg Qh (NQ (Ve Qe (Ve (SV (pu 0)) (Ve Qe SO)))) (BN K (pu 1) (pu 0))))))) Ql) (Qb (Qr (A8 (QM K) (pu 0) Qd) (Qb (A5 3 (Qn (IZ (Qg Qh (Qg Qh (Qg Qh Qe (BM K 1)) Qe) (BM K 1)) (Qg Qh Qe (BM K 1)) (Qg Qh Qe (BM K 1))))) (Qb (Qr (A8 (QM K) (Qg Qo (Qg Qx (pu 2) Qd) Qd) Qd) (Qf (Qk (Qg Qh (pu 3) (Qn (A1 (Qg Qh (Qg Qh (Qg Qh Qe (BN K (pu 1) (Qg Qo (pu 2) Qd))) Qe) (BM K 1))))))) Ql) (Qf (Qk (Qg Qh (pu 3) (Qn (A1 (Qg Qh (Qg Qh (Qg Qh Qe (BM K 1)) Qe) (BN K (pu 1) (Qg Qo (pu 2) Qd)))))))))) Ql) (Qb (Qr (A8 (QM K) (pu 0) Qd) (Qb (A5 4 (Qg Qh Qd (Qg Qo (pu 2) Qd))) (Qf (Qk (Qg Qh (Ij ["_law_k","_law_names_here"] [none,some 1] (Zc rfl T.aG (A1 (pu 4))) (GE 0) QU (Qg Qh Qe (BN K (pu 1) (pu 0)))) (Qn (A1 (Qg Qh Qe (BN K (pu 1) (Qg Qo (Qg Qx (pu 2) Qd) (pu 4)))))))))) Ql) (Qb (Qr (A8 (QM K) (pu 0) Qd) (Qf (Qk (Ij ["_law_k","_law_names_here"] [none,some 1] (Zc rfl T.aG (A1 Qd)) (GE 0) QU (Qg Qh Qe (BN K (pu 1) (pu 0)))))) Ql) (Qb (WV (i:=3) ag rfl (Or.inl rfl) (N:=["_law_k","_law_names_here"]) (caps:=[none,some 1]) rfl Gx (Zc rfl T.aG (A1 (Qg Qo (pu 2) Qd))) (λ_ _ _ _=>Yh (i:=0) (show(["_law_k","_law_names_here"]:List Str).Nodup by decide +kernel) rfl (Or.inl rfl) (.inr rfl)) (λ_ _ _ _=>QU) (λ_ _ _ _=>(Qg Qh Qe (BN K (pu 1) (pu 0))))) (Qb (A5 5 (Qn (Qp Qe (Qp Qe (Ig Qe Qe Qe Qe Qe))))) (Qf (Qk (Qg Qh (pu 3) (Qn (A1 (BN K (pu 5) (Qg Qo (Qg Qx (pu 2) Qd) Qd))))))))))))),?_⟩;left;simp only[ZL];left;have o:∀k,k<9->Q7 (A0 ns k):=λk hk=>ok _ (XN (by omega))
 have J:∀k:Nat,k<9->IL (ns.map V.str) (k:Int)=some (.str (A0 ns k)):=λk hk=>LF (by omega)
 have lk:(Str.ofString "kind ").length=5:=by decide +kernel
 have lb:(Str.ofString " ").length=1:=by decide +kernel
 have aq:blank.length=1:=rfl;have kk:∀z,Str.ofString "kind "++z=(Row.kind z).tx:=λz=>(KQ z).symm
 have a4:∀(rs:List Row) (r:Row) (H1:Hp) (p:Addr),Same H H1->H1 p=some (.lst (A2 rs))->jv rs r->1<=sizeLine/\∀p2,H1 p2=none->sAdd (.ref p) (.ref p2) (upd H1 p2 (.lst [.str r.tx])) Q:=λrs r H1 p g k b=>⟨by decide,λp2 U=>by
  have g4:=Qc U (.lst [V.str r.tx]);have:=b.len;refine Z8 ⟨p,p2,_,_,rfl,rfl,g4 _ _ k,Qa,Qq (by rw[D1];show _+1<=1000;omega),λp6 a9=>?_⟩;refine q p6 rs r _ ((g.trans g4).trans (Qc a9 _)) ?_ b;rw[Qa];simp[A2]⟩
 by_cases e8:w=8
 ·rw[DZ e8];refine QA hP (J 5 (by decide)) ?_;have:=ZN (o 5 (by decide));left;refine⟨Qq (by omega),by decide,λp hp=>⟨by decide,by decide,?_⟩⟩;rw[kk];have g1:=Qc hp (.lst [V.str (Row.kind (A0 ns 5)).tx]);have k1:=Qa (H:=H) (a:=p) (o:=.lst [V.str (Row.kind (A0 ns 5)).tx]);generalize upd H p (.lst [V.str (Row.kind (A0 ns 5)).tx])=H1 at *;refine Jx (mx (λk=>.cap 1 (k:Nat) [A0 ns k]) (some (.ref a)) H1) ⟨none,rfl,AK _,rfl⟩ (by decide) ?_ ?_
  ·rintro i acc _ H2 hi a7 ⟨x0,rfl,g,rfl⟩;have ao:i<5:=hi;have a8:=ZN (o i (by omega));simp only[ZS];simp only[FE,ML,BS,FV];left;rw[show(0:Int)+(i:Int)=(i:Int) by omega];have ll:(nt (i:Int)).length<=100:=len_num (by omega) (by omega);have lc:(Str.ofString "cap 1 ").length=6:=by decide +kernel
   simp only[Sg,Dn,T8,gr,ZG];refine⟨Qq (by omega),Xf (by omega) (by omega),Qq (by rw[Qu];have:(Str.ofString (toString (i:Int))).length<=100:=ll;omega),Qq (by rw[Qu,Qu];have:(Str.ofString (toString (i:Int))).length<=100:=ll;show _+_+1<=1000;omega),Qq (by rw[Qu,Qu];have:(Str.ofString (toString (i:Int))).length<=100:=ll;show _+_+1<=1000;omega),?_⟩;refine QA ((g1.trans g).seq hP) (J i (by omega)) ?_;left;refine⟨Qq (by rw[Qu,Qu];have:(Str.ofString (toString (i:Int))).length<=100:=ll;show _+_+1+_<=1000;omega),CN.mk hi (by rw[D0,D6];omega) ⟨_,rfl,g,?_⟩⟩;rw[Wc,KU (p:=Str.ofString "cap 1 "++Str.ofString (toString (i:Int))++blank)];rw[show Str.ofString "cap 1 "=q_ "cap"++blank++(nt 1++blank) by decide +kernel];simp only[Ye]
  ·rintro acc _ H2 ⟨x0,rfl,g,rfl⟩ p2 U;have g4:=Qc U (.lst (A2 ((List.range (Int.toNat 5)).map λk=>.cap 1 (k:Nat) [A0 ns k])));refine Z8 ⟨p,p2,_,_,rfl,rfl,g4 _ _ (g _ _ k1),Qa,Qq (by rw[D1,D1];exact AL rfl),λp6 a9=>?_⟩;refine q p6 _ _ _ (((g1.trans g).trans g4).trans (Qc a9 _)) ?_ (DO hl nd ok);rw[Qa];rfl
 rw[DY e8];by_cases e9:w=9
 ·rw[DZ e9];have l0:=ZN (o 0 (by decide));have l1:=ZN (o 1 (by decide));have l2:=ZN (o 2 (by decide));have l3:=ZN (o 3 (by decide));have l5:=ZN (o 5 (by decide));have ai:(Str.ofString "cap 1 1 ").length=8:=by decide +kernel
  have aj:(Str.ofString "cap 5 0 ").length=8:=by decide +kernel
  have ak:(Str.ofString "cap 2 2 ").length=8:=by decide +kernel
  have m0:=Ci c (show(3:Int)≠0 by decide);have m1:=Cq c (show(0:Int)<3 by decide);obtain⟨k,hk⟩:=CT m0;have ah:k<3:=by omega
  have ar:=ZN (o k (by omega));refine QA hP (J 0 (by decide)) ?_;left;refine⟨Qq (by omega),Qq (by rw[Qu];omega),?_⟩;refine QA hP (J 1 (by decide)) ?_;left;refine⟨Qq (by rw[Qu,Qu];omega),?_⟩;refine QA hP (J 5 (by decide)) ?_;left;refine⟨Qq (by omega),?_⟩;refine QA hP (J 2 (by decide)) ?_;left;refine⟨Qq (by omega),by decide,λp hp=>⟨⟨by decide,(IB (m:=60) (by decide) (by decide)).mono (by decide)⟩,trivial,?_⟩⟩;rw[ZG,kk,<-KS (a:=1) (b:=1) (p:=Str.ofString "cap 1 1 ") (by decide +kernel),<-KU (a:=5) (b:=0) (p:=Str.ofString "cap 5 0 ") (by decide +kernel)];have g1:=Qc hp (.lst (A2 [.cap 1 1 [A0 ns 0,A0 ns 1],.kind (A0 ns 5),.cap 5 0 [A0 ns 2]]));have k1:=Qa (H:=H) (a:=p) (o:=.lst (A2 [.cap 1 1 [A0 ns 0,A0 ns 1],.kind (A0 ns 5),.cap 5 0 [A0 ns 2]]))
  change if c.fdiv 3 % 2=1 then True/\O3 K (.ref a) (.int (c % 3)) (upd H p (.lst (A2 [.cap 1 1 [A0 ns 0,A0 ns 1],.kind (A0 ns 5),.cap 5 0 [A0 ns 2]]))) _ else O3 K (.ref a) (.int 3) (upd H p (.lst (A2 [.cap 1 1 [A0 ns 0,A0 ns 1],.kind (A0 ns 5),.cap 5 0 [A0 ns 2]]))) _
  generalize upd H p (.lst (A2 [.cap 1 1 [A0 ns 0,A0 ns 1],.kind (A0 ns 5),.cap 5 0 [A0 ns 2]]))=H1 at *;rw[hk];have a6:=g1.seq hP;have ae:=LD (ns:=ns) ah (by omega);refine Qs (λ_=>⟨trivial,?_⟩) (λ_=>?_)
  ·refine QA a6 (J k (by omega)) ?_;left;refine ⟨Qq (by omega),Qq (by rw [Qu];omega),?_⟩;refine QA a6 (J 3 (by decide)) ?_;left;refine ⟨Qq (by rw [Qu,Qu];show _+_+1+_<=1000;omega),?_⟩;rw [<-KS (a:=2) (b:=2) (p:=Str.ofString "cap 2 2 ") (by decide +kernel)];exact a4 _ _ H1 p g1 k1 (E8 hl nd ok (o k (by omega)) (o 3 (by decide)) (.inl ae))
  ·refine QA a6 (J 3 (by decide)) ?_;left;refine ⟨Qq (by omega),Qq (by rw [Qu];omega),trivial,?_⟩;refine QA a6 (J k (by omega)) ?_;left;refine ⟨Qq (by rw [Qu,Qu];show _+_+1+_<=1000;omega),?_⟩;rw [<-KS (a:=2) (b:=2) (p:=Str.ofString "cap 2 2 ") (by decide +kernel)];exact a4 _ _ H1 p g1 k1 (E8 hl nd ok (o 3 (by decide)) (o k (by omega)) (.inr ae))
 rw[DY e9];have a5:∀(m:Nat) (σ0:L2.St) (R:VK),m<=9->σ0=[none,some (.ref a)]->(∀p H2,Same H H2->H2 p=some (.lst (A2 ((List.range m).map λk=>.kind (A0 ns k))))->R (.ref p) H2)->Y9 (ie 0 m) (XW 0) MY (IS sAdd (tC (V.str "kind ")) (IS (O3 K) (Xj 1) (Xj 0))) σ0 H R:=λm σ0 R hm e0 q=>by
  subst e0;refine Jx (mx (λk=>.kind (A0 ns k)) (some (.ref a)) H) ⟨none,rfl,AK _,rfl⟩ (by omega) ?_ ?_
  ·rintro i acc _ H2 hi a7 ⟨x0,rfl,g,rfl⟩;have a8:=ZN (o i (by omega));simp only[ZS];left;rw[show(0:Int)+(i:Int)=(i:Int) by omega];refine QA (g.seq hP) (J i (by omega)) ?_;left;exact⟨Qq (by omega),CN.mk hi (by rw[D0,D6];omega) ⟨_,rfl,g,by rw[Wc,kk]⟩⟩
  ·rintro acc _ H2 ⟨x0,rfl,g,rfl⟩ p2 U;exact q p2 _ (g.trans (Qc U _)) Qa
 by_cases aa:w=10
 ·rw[DZ aa];have m0:=Ci c (show(7:Int)≠0 by decide);have m1:=Cq c (show(0:Int)<7 by decide);obtain⟨m,hm⟩:=CT (show 0<=1+c % 7 by omega);rw[hm];refine⟨trivial,by omega,by omega,a5 m _ _ (by omega) rfl λp H2 g k2=>⟨⟨by decide,(IB (m:=60) (by decide) (by decide)).mono (by decide)⟩,by omega,?_⟩⟩;have j0:=Ci (c.fdiv 7) (show(m:Int)≠0 by omega);have j1:=Cq (c.fdiv 7) (show(0:Int)<m by omega);obtain⟨j,hj⟩:=CT j0;rw[hj];have a8:=ZN (o j (by omega));refine QA (g.seq hP) (J j (by omega)) ?_;left;refine⟨Qq (by omega),?_⟩;rw[kk];exact a4 _ _ H2 p g k2 (Tv hl nd ok (by omega) (.inl (by omega)) (by omega))
 rw[DY aa];by_cases af:w=11
 ·rw[DZ af];refine⟨by decide,by decide,a5 9 _ _ (by decide) rfl λp H2 g k2=>q p _ _ _ g ?_ (Tv (m:=8) (j:=8) hl nd ok (by decide) (.inr rfl) (by decide))⟩;rw[k2];rfl
 rw[DY af];have m0:=Ci c (show(4:Int)≠0 by decide);have m1:=Cq c (show(0:Int)<4 by decide);obtain⟨m,hm⟩:=CT m0;rw[hm];refine⟨trivial,by omega,by omega,Jx (mx (λk=>.cap 1 1 [A0 ns k]) (some (.ref a)) H) ⟨none,rfl,AK _,rfl⟩ (by show m<=1000;omega) ?_ ?_⟩
 ·rintro i acc _ H2 hi a7 ⟨x0,rfl,g,rfl⟩;have hi:i<m:=hi;have a8:=ZN (o i (by omega));have ai:(Str.ofString "cap 1 1 ").length=8:=by decide +kernel
  simp only[ZS];left;rw[show(0:Int)+(i:Int)=(i:Int) by omega];refine QA (g.seq hP) (J i (by omega)) ?_;left;exact⟨Qq (by omega),CN.mk hi (by rw[D0,D6];omega) ⟨_,rfl,g,by rw[Wc,<-KU (a:=1) (b:=1) (p:=Str.ofString "cap 1 1 ") (by decide +kernel)]⟩⟩
 ·rintro acc _ H2 ⟨x0,rfl,g,rfl⟩ p hp;have g1:=Qc hp (.lst (A2 ((List.range m).map λk=>.cap 1 1 [A0 ns k])));have k1:=Qa (H:=H2) (a:=p) (o:=.lst (A2 ((List.range m).map λk=>.cap 1 1 [A0 ns k])))
  change 7<=sizeLine/\∀p2,(upd H2 p (.lst (A2 ((List.range m).map λk=>.cap 1 1 [A0 ns k])))) p2=none->_/\_/\O3 K (.ref p2) _ (upd (upd H2 p (.lst (A2 ((List.range m).map λk=>.cap 1 1 [A0 ns k])))) p2 (.lst (sevenT.map V.str))) _
  generalize upd H2 p (.lst (A2 ((List.range m).map λk=>.cap 1 1 [A0 ns k])))=H3 at *;refine⟨by decide,λp2 U=>⟨⟨by decide,(IB (m:=60) (by decide) (by decide)).mono (by decide)⟩,trivial,?_⟩⟩;obtain⟨y,hy,ey⟩:=G3 (L:=sevenT) (n:=7) rfl (by decide) (c.fdiv 4);rw[M7] at hy;obtain⟨x,hx,rfl⟩:=C8.mp hy;refine QA (AI Qa) ey ?_;have g2:=Qc U (.lst (sevenT.map V.str));exact a4 _ _ _ p ((g.trans g1).trans g2) (g2 _ _ k1) (E9 hl nd ok (by omega) (M8 x hx))
structure GA (rs:List Row)(z:Str):Prop where
 acc:IM [] [] rs
 bad:jw (run [] [] [] rs).1 (run [] [] [] rs).2.1 z
 len:rs.length<=80
inductive jL (K)(t:Ii)(x:V)(H:Hp)(Q:VK):Prop
 | mk (a:Addr) (rs:List Row) (z:Str) (zr:List Str) (h1:x=.ref a) (h2:A6 K H a (A2 rs++(z::zr).map V.str)) (h3:GA rs z) (q:∀p H',Same H H'->H' p=some (.lst [.int (rs.length:Nat)])->Q (.ref p) H'):jL K t x H Q
theorem iS (T:Tx w K mg):GF P w K mg base 8 "_law_places" ["_law_rows_here"] (Sp1M (jL K t)):=by
 refine Zf T 92 ["_law_rows_here","_law_told","_law_e"] Xk λH Q J hr h=>?_
 obtain⟨_,rfl,a,rs,z,zr,rfl,hL,U,q⟩:=h;refine⟨_,(Qb (A5 1 (Qn Qz)) (Qb (Vb (i:=2) Gm ⟨rfl,rfl,rfl⟩ rfl T.aT J rfl rfl (VZ (K9 (bA T) (GG hr) rfl rfl (A1 (pu 0)))) (λea=>(Qf (QH (QE K rfl CJ CM CO Qy (pu 1) (A1 (G6 K rfl (pu 2))))))) Ql) (Qf (Qk (pu 1))))),?_⟩;left;refine⟨by decide,λl hl=>?_⟩;have g1:=Qc hl (.lst []);have k1:=Qa (H:=H) (a:=l) (o:=.lst []);generalize upd H l (.lst [])=H1 at *;simp only[UW,lZ,Yz];left;refine⟨a,rs,z::zr,_,_,_,rfl,g1.seq hL,U.len,U.acc,rfl,(λe=>by cases e),(λe=>by cases e),λz' a5 e=>?_⟩;cases e;refine⟨U.bad,λd H2 g2 hd=>⟨T.dN,λe cx he a4=>?_⟩⟩;left;have g3:=Qc he (.ext (KD e (.ref t.zH) (some d) cx));have ke:=Qa (H:=H2) (a:=e) (o:=.ext (KD e (.ref t.zH) (some d) cx));generalize upd H2 e (.ext (KD e (.ref t.zH) (some d) cx))=H3 at *;have kl:=g3 _ _ (g2 _ _ k1);refine⟨.inl ⟨rfl,_,AI kl⟩,?_⟩;simp only[M1];left;refine⟨e,t.zH,d,_,.int (rs.length:Nat),cx,rfl,ke,g3 _ _ hd,T.aE,T.bN,T.bO,by simp[List.lookup],l,[],_,rfl,rfl,kl,by rw[Cb];decide,?_⟩;exact q l _ (λb o h=>by rw[Qj (Qi h hl)];exact(g1.trans (g2.trans g3)) _ _ h) Qa
inductive Ir (K:W.Frag)(t:Ii)(ea)(x:V)(H:Hp)(Q:VK):Prop
 | mk (od:Option Addr) (cx:Value) (h1:x=.ref ea) (h2:H ea=some (.ext (ExcD ea (.ref t.zH) od cx))) (h2':gw H cx) (h3:∀H',Same H H'->Q (.int 1) H'):Ir K t ea x H Q
def twelve:List Bool:=[false,false,false,false,false,false,true,false,false,false,false,false]
def nO (b:Bool):Int:=if b=true then 1 else 0
def oW (H:Hp)(i:Nat)(acc:List V)(σ':L2.St)(H':Hp):Prop:=∃x0,σ'=[x0]/\Same H H'/\acc=((twelve.take i).map nO).map V.int
theorem Uo (g:Same H H'){v}(h:gw H v):gw H' v:=by
 rcases h with h|⟨c,cls,e,h⟩
 ·exact .inl h
 ·exact .inr ⟨c,cls,e,g _ _ h⟩
theorem iT (T:Tx w K mg):HQ P w K mg base 1 "_law_sorts" ["_law_e"] (λea=>Sp1M (Ir K t ea)):=by
 refine DM T 93 ["_law_e","_law_found"] (λ_=>Xk) λea H Q aq hr h=>?_
 obtain ⟨_,rfl,od,cx,rfl,he,ah,q⟩:=h;refine ⟨_,(Qb (A5 1 (Qn (gu (Qw (Xz K rfl) (by rfl) T.aD boot_isinstance (A3 (pu 0) (Q9 (v:=.ref _) rfl T.cH rfl))) (Qw (Xz K rfl) (by rfl) T.aD boot_isinstance (A3 (pu 0) (Q9 (v:=.ref _) rfl T.cI rfl))) (Qw (Xz K rfl) (by rfl) T.aD boot_isinstance (A3 (pu 0) (Q9 (v:=.ref _) rfl T.cJ rfl))) (Qw (Xz K rfl) (by rfl) T.aD boot_isinstance (A3 (pu 0) (Q9 (v:=.ref _) rfl T.aW rfl)))))) (Qb (A5 1 (Qg Qh (pu 1) (Qn (gu (Qw (Xz K rfl) (by rfl) T.aD boot_isinstance (A3 (pu 0) (Q9 (v:=.ref _) rfl T.cK rfl))) (Qw (Xz K rfl) (by rfl) T.aD boot_isinstance (A3 (pu 0) (Q9 (v:=.ref _) rfl T.aI rfl))) (Qw (Xz K rfl) (by rfl) T.aD boot_isinstance (A3 (pu 0) (Q9 (v:=.ref _) rfl T.aT rfl))) (Qw (Xz K rfl) (by rfl) T.aD boot_isinstance (A3 (pu 0) (Q9 (v:=.ref _) rfl T.cL rfl))))))) (Qb (A5 1 (Qg Qh (pu 1) (Qn (gu (Qw (Xz K rfl) (by rfl) T.aD boot_isinstance (A3 (pu 0) (Q9 (v:=.ref _) rfl T.cM rfl))) (Qw (Xz K rfl) (by rfl) T.aD boot_isinstance (A3 (pu 0) (Q9 (v:=.ref _) rfl T.cN rfl))) (Qw (Xz K rfl) (by rfl) T.aD boot_isinstance (A3 (pu 0) (Q9 (v:=.ref _) rfl T.cP rfl))) (Qw (Xz K rfl) (by rfl) T.aD boot_isinstance (A3 (pu 0) (Q9 (v:=.ref _) rfl T.cQ rfl))))))) (Qf (Qk (Qw (Mh (ea:=ea) K rfl hr.hd) (by rfl) T.cD boot_sum (A1 (Lu (ea:=ea) (N:=["_law_one"]) (caps:=[none]) hr.hd Gx (Ew (ea:=ea) K rfl (pu 1)) (fun _ _ _ _=>Yh (i:=0) (show (["_law_one"]:List Str).Nodup by decide +kernel) rfl (Or.inl rfl) (.inr rfl)) (fun _ _ _ _=>QU) (fun _ _ _ _=>(Qv Kz (by rfl) T.aR boot_int (A1 (pu 0)))))))))))),?_⟩;left;refine XU he T.aE T.dQ ?_;refine XU he T.aE T.dR ?_;refine XU he T.aE T.dS ?_;refine XU he T.aE T.dU ?_;refine ⟨by decide,fun p1 a9=>?_⟩;have g1:=Qc a9 (.lst [.bl false,.bl false,.bl false,.bl false]);have k1:(upd H p1 (.lst [.bl false,.bl false,.bl false,.bl false])) p1=some (.lst [.bl false,.bl false,.bl false,.bl false]):=Qa;generalize upd H p1 (.lst [.bl false,.bl false,.bl false,.bl false])=H1 at *;have U:=g1 _ _ he;refine XU U T.aE T.dW ?_;refine XU U T.aE T.dX ?_;refine XU U T.aE T.dY ?_;refine XU U T.aE T.dZ ?_;refine ⟨by decide,fun p2 ak=>?_⟩;have g2:=Qc ak (.lst [.bl false,.bl false,.bl true,.bl false]);have k2:(upd H1 p2 (.lst [.bl false,.bl false,.bl true,.bl false])) p2=some (.lst [.bl false,.bl false,.bl true,.bl false]):=Qa;have aa:=g2 _ _ k1;generalize upd H1 p2 (.lst [.bl false,.bl false,.bl true,.bl false])=H2 at *;have a7:=g2 _ _ U;refine Z8 ⟨p1,p2,_,_,rfl,rfl,aa,k2,Qq (by decide),fun p3 ae=>?_⟩;have g3:=Qc ae (.lst ([V.bl false,.bl false,.bl false,.bl false]++[V.bl false,.bl false,.bl true,.bl false]));have k3:(upd H2 p3 (.lst ([V.bl false,.bl false,.bl false,.bl false]++[V.bl false,.bl false,.bl true,.bl false]))) p3=some (.lst ([V.bl false,.bl false,.bl false,.bl false]++[V.bl false,.bl false,.bl true,.bl false])):=Qa;generalize upd H2 p3 (.lst ([V.bl false,.bl false,.bl false,.bl false]++[V.bl false,.bl false,.bl true,.bl false]))=H3 at *;have J:=g3 _ _ a7;refine XU J T.aE T.eA ?_;refine XU J T.aE T.eB ?_;refine XU J T.aE T.eD ?_;refine XU J T.aE T.eE ?_;refine ⟨by decide,fun p4 ai=>?_⟩;have g4:=Qc ai (.lst [.bl false,.bl false,.bl false,.bl false]);have k4:(upd H3 p4 (.lst [.bl false,.bl false,.bl false,.bl false])) p4=some (.lst [.bl false,.bl false,.bl false,.bl false]):=Qa;have a8:=g4 _ _ k3;generalize upd H3 p4 (.lst [.bl false,.bl false,.bl false,.bl false])=H4 at *;have aj:=g4 _ _ J;refine Z8 ⟨p3,p4,_,_,rfl,rfl,a8,k4,Qq (by decide),fun p5 af=>?_⟩;generalize a6:[V.bl false,.bl false,.bl false,.bl false]++[V.bl false,.bl false,.bl true,.bl false]++[V.bl false,.bl false,.bl false,.bl false]=bs;have a4:bs=twelve.map V.bl:=by rw [<-a6];rfl
 clear a6;subst a4;have g5:=Qc af (.lst (twelve.map V.bl));have k5:(upd H4 p5 (.lst (twelve.map V.bl))) p5=some (.lst (twelve.map V.bl)):=Qa;generalize upd H4 p5 (.lst (twelve.map V.bl))=H5 at *;have ag:=g5 _ _ aj;have a5:=g1.trans (g2.trans (g3.trans (g4.trans g5)));left;simp only[ZL,MN];left;have hX:∀{H':Hp},Same H5 H'->HasX H' ea:=λ{H'} g=>⟨_,_,_,g _ _ ag,Uo (a5.trans g) ah⟩
 refine⟨p5,rfl,⟨_,AI k5⟩,HF (xs:=twelve.map V.bl) (oW H5) ⟨none,rfl,AK _,rfl⟩ (λi acc σ' H' _ h=>by obtain⟨_,_,g',_⟩:=h;exact g'.seq (AI k5)) (λi acc σ' H' h=>by obtain⟨_,_,g',_⟩:=h;exact hX g') (by decide) ?_ ?_⟩
 ·rintro i v acc _ H6 hv ao ⟨x0,rfl,g6,rfl⟩;rw[Ct] at hv;obtain⟨b,hb,rfl⟩:=Cv.mp hv;have hi:=Z0 hb;simp only[ZS];left;refine .inr ⟨b,rfl,CN.mk (by rw[D1];exact hi) (by rw[D0,D6];omega) ⟨_,rfl,g6,?_⟩⟩;rw[CS,hb,D9,D9];rfl
 ·rintro acc _ H6 ⟨x0,rfl,g6,rfl⟩ p6 hp6;have g7:=Qc hp6 (.lst (((twelve.take (twelve.map V.bl).length).map nO).map V.int));refine⟨p6,_,rfl,AI Qa,hX (g6.trans g7),?_⟩;exact q _ (a5.trans (g6.trans g7))
inductive jV (K)(t:Ii)(x:V)(H:Hp)(Q:VK):Prop
 | mk (a:Addr) (rs:List Row) (z:Str) (zr:List Str) (h1:x=.ref a) (h2:A6 K H a (A2 rs++(z::zr).map V.str)) (h3:GA rs z) (q:∀H',Same H H'->Q (.bl true) H'):jV K t x H Q
theorem iU (T:Tx w K mg):GF P w K mg base 8 "_law_by_base" ["_law_rows_here"] (Sp1M (jV K t)):=by
 refine Zf T 94 ["_law_rows_here","_law_e"] Xk λH Q J hr h=>?_
 obtain⟨_,rfl,a,rs,z,zr,rfl,hL,U,q⟩:=h;refine⟨_,(Qb (Vb (i:=1) Gm ⟨rfl,rfl,rfl⟩ rfl T.cG J rfl rfl (VZ (K9 (bA T) (GG hr) rfl rfl (A1 (pu 0)))) (λea=>(Qf (Qk (YS (Qw (Xz K rfl) (by rfl) T.aD boot_isinstance (A3 (pu 1) (V2 T.bZ WG))) (Jd (jX (m7 K (by rfl) hr.units) (RD (iT T) (hr.hand ea (by decide)) rfl (A1 (pu 1))) Qd)))))) Ql) (Qf (Qk Jf))),?_⟩;left;simp only[UW,lZ,Yz];left;refine⟨a,rs,z::zr,_,_,_,rfl,hL,U.len,U.acc,rfl,(λe=>by cases e),(λe=>by cases e),λz' a5 e=>?_⟩;cases e;refine⟨U.bad,λd H2 g2 hd=>⟨T.dO,λe cx he a4=>?_⟩⟩;left;have g3:=Qc he (.ext (KD e (.ref t.zH) (some d) cx));have ke:=Qa (H:=H2) (a:=e) (o:=.ext (KD e (.ref t.zH) (some d) cx));generalize upd H2 e (.ext (KD e (.ref t.zH) (some d) cx))=H3 at *;refine Sb ke T.aE T.eG ?_;left;refine⟨some d,cx,rfl,ke,Uo g3 a4,λH4 g4=>?_⟩;left;exact q _ ((g2.trans g3).trans g4)
inductive jW (K)(x:V)(H)(Q:VK):Prop
 | mk (a:Addr) (cl:List Int) (h1:x=.ref a) (h2:A6 K H a (cl.map V.int)) (q:∀p (zs:List Str) H',Same H H'->H' p=some (.lst (zs.map V.str))->zs.length<=3->Q (.ref p) H'):jW K x H Q
theorem iV (T:Tx w K mg):GF P w K mg base 2 "_law_behind" ["_law_script"] (Sp1M (jW K)):=by
 refine Zf T 96 ["_law_script","_law_way"] Xk λH Q U hr h=>?_
 obtain⟨_,rfl,a,cl,rfl,J,q⟩:=h;refine⟨_,(Qb (A5 1 (Qg Qo (A7 (aJ T) (A3 (pu 0) Qd)) Qd)) (Qb (Qr (A8 (QM K) (pu 1) Qd) (Qf (Qk (Qn Qz))) Ql) (Qb (Qr (A8 (QM K) (pu 1) Qd) (Qf (Qk (Qn (IZ Qe Qe Qe)))) Ql) (Qf (Qk (Qn (A3 (A7 (bX T) (A1 (A7 (aA T) (A3 (A7 (aJ T) (A3 (pu 0) Qd)) Qd)))) Qe))))))),?_⟩;left;refine⟨a,cl,5,rfl,rfl,J,by decide,?_⟩;left;refine⟨by decide,Qs (λ_=>⟨by decide,λp hp=>q p [] _ (Qc hp _) Qa (by decide)⟩) (λ_=>Qs (λ_=>⟨by decide,λp hp=>q p [q_ "kind zzzzzzzz",q_ "base 5",q_ "counts zzzzzzzz 1"] _ (Qc hp _) Qa (by decide)⟩) (λ_=>?_))⟩;refine⟨a,cl,5,rfl,rfl,J,by decide,?_⟩;refine⟨_,1,rfl,rfl,by decide,λm H1 g1 _ _=>⟨m,rfl,λz H2 g2 _=>⟨by decide,λp hp=>?_⟩⟩⟩;exact q p [z,q_ "base 5"] _ ((g1.trans g2).trans (Qc hp _)) Qa (AL rfl)
inductive jR (K)(x:V)(H)(Q:VK):Prop
 | mk (a:Addr) (rs:List Row) (ks:List (Str×List Itm)) (cs:List Cp) (as:List Str) (h1:x=.ref a) (h2:A6 K H a (A2 rs)) (h3:IM [] [] rs) (h4:run [] [] [] rs=(ks,cs,as)) (h5:rs.length<=80) (q:∀p H',Same H H'->H' p=some (.lst ((ghost ks as).toList.map V.str))->Q (.ref p) H'):jR K x H Q
inductive iz (K)(t:Ii)(x:V)(H:Hp)(Q:VK):Prop
 | mk (a:Addr) (rs:List Row) (ks:List (Str×List Itm)) (cs:List Cp) (as:List Str) (h1:x=.ref a) (h2:A6 K H a (A2 rs)) (h3:IM [] [] rs) (h4:run [] [] [] rs=(ks,cs,as)) (h5:rs.length<=80) (q:∀p H',Same H H'->H' p=some (.lst ((ghost ks as).toList.map V.str))->Q (.ref p) H'):iz K t x H Q
theorem iW (T:Tx w K mg):GF P w K mg base 8 "_law_unknown" ["_law_rows_here"] (Sp1M (iz K t)):=by
 refine Zf T 98 ["_law_rows_here","_law_told","_law_found","_law_e"] Xk λH Q J hr h=>?_
 obtain⟨_,rfl,a,rs,ks,cs,as,rfl,hL,a4,U,hn,q⟩:=h;refine⟨_,(Qb (A5 1 (Qn Qz)) (Qb (Vb (i:=3) Gm ⟨rfl,rfl,rfl⟩ rfl T.aW J rfl rfl (Rk (i:=2) J rfl (Or.inl rfl) (K9 (bA T) (GG hr) rfl rfl (A1 (pu 0)))) (λea=>(Qf (QH (QE K rfl CJ CM CO Qy (pu 1) (A1 (G6 K rfl (pu 3))))))) (Qf (Qr (YD (Z5 (Qw (LP K rfl) (by rfl) T.aD boot_isinstance (A3 (pu 2) (Q9 (v:=.ref _) rfl T.bF rfl))))) (Qf (QH (QE K rfl CJ CM CO Qy (pu 1) (A1 Qe)))) Ql))) (Qf (Qk (pu 1))))),?_⟩;left;refine⟨by decide,λl hl=>?_⟩;have g1:=Qc hl (.lst []);have k1:=Qa (H:=H) (a:=l) (o:=.lst []);generalize upd H l (.lst [])=H1 at *;simp only[UW,lM,Yz];left;refine⟨a,rs,[],ks,cs,as,rfl,by rw[List.map_nil,Cs];exact g1.seq hL,hn,a4,U,λ_ en v H2 g2 hO=>?_,λ_ z ez d H2 g2 hd=>?_,λz zr e=>by cases e⟩
 ·obtain⟨x,dx,m1,m2,kvs,cvs,rfl,hx,_⟩:=hO;left;refine FP (T.eW.ty T.aZ hx) T.eF ?_;left;exact q l _ (g1.trans g2) (by rw[en];exact g2 _ _ k1)
 ·refine⟨T.dP,λe cx he a5=>?_⟩;left;have g3:=Qc he (.ext (KD e (.ref t.zE) (some d) cx));have ke:=Qa (H:=H2) (a:=e) (o:=.ext (KD e (.ref t.zE) (some d) cx));generalize upd H2 e (.ext (KD e (.ref t.zE) (some d) cx))=H3 at *;have kl:=g3 _ _ (g2 _ _ k1);refine⟨.inl ⟨rfl,_,AI kl⟩,?_⟩;simp only[M1];left;refine⟨e,t.zE,d,_,.str z,cx,rfl,ke,g3 _ _ hd,T.eI,T.bP,T.bQ,by simp[List.lookup],l,[],_,rfl,rfl,kl,by rw[Cb];decide,?_⟩;exact q l _ (λb o h=>by rw[Qj (Qi h hl)];exact(g1.trans (g2.trans g3)) _ _ h) (by rw[Qa,ez];rfl)
def rn:Row->List Str
 | .cap _ _ ns=>ns
 | .itm (.cnt z _ _)=>[z]
 | _=>[]
theorem M9:∀{rs} {ks} {cs} {as},(run ks cs as rs).2.2=as++(rs.map rn).flatten
 | [],_,_,as=>(Cs as).symm
 | r::rs,ks,cs,as=>by
  show(run (kS ks r) (cS cs r) (aS as r) rs).2.2=_;have e:aS as r=as++rn r:=by
   cases r with
   | kind z=>exact(Cs as).symm
   | cap a b ns=>rfl
   | itm x=>cases x<;>first|rfl|exact(Cs as).symm
  rw[M9,e,CQ,List.flatten_cons,List.append_assoc]
theorem N4 {l1 l2}(h:∀y∈l1,y∈ks.map (·.1))(hz:z∉ks.map (·.1)):ghost ks (l1++z::l2)=some z:=
 Ue (i:=l1.length) (by rw[CG (D2 _),CK];rfl) (by rw[List.take_left'];exact h;rfl) hz
theorem M5 {r:Row}:r.srt=q_ "kind"->∃z,r=.kind z:=by
 intro h;cases r with
 | kind z=>exact⟨z,rfl⟩
 | cap a b ns=>exact absurd h (show¬q_ "cap"=q_ "kind" by decide +kernel)
 | itm x=>exact absurd h (KZ x).1
theorem NI {r:Row}:r.srt=q_ "counts"->∃z a b,r=.itm (.cnt z a b):=by
 intro h;cases r with
 | kind z=>exact absurd h (show¬q_ "kind"=q_ "counts" by decide +kernel)
 | cap a b ns=>exact absurd h (show¬q_ "cap"=q_ "counts" by decide +kernel)
 | itm x=>obtain⟨z,a,b,rfl⟩:=K0 h;exact⟨z,a,b,rfl⟩
theorem WW:∀{rs} {r},kn (rs++[r])=kn rs++kn [r]
 | [],r=>rfl
 | .kind z::rs,r=>by show z::kn (rs++[r])=_;rw[WW];rfl
 | .itm _::rs,r=>by show kn (rs++[r])=_;rw[WW];rfl
 | .cap .. :: rs,r=>by show kn (rs++[r])=_;rw[WW];rfl
theorem Bz:∀{rs} {ks} {cs},IM ks cs rs->∀r∈rs,r.Ok
 | [],_,_,_,r,h=>by cases h
 | r::rs,ks,cs,h,x,hx=>by
  rcases Ca.mp hx with rfl|hx
  ·exact h.1
  ·exact Bz h.2.2 x hx
theorem MO (ok:row.Ok){H}{Q}(q:∀p H',Same H H'->H' p=some (.lst ((row.srt::row.ws).map V.str))->Q (.ref p) H'):lX K "str" (.str row.tx) H/\Lg (.str row.tx) [.str " "] H Q:=by
 have sp:=W7 ok;have J:=X0 ok;rw[ZG];refine⟨by trivial,row.tx,blank,rfl,rfl,by decide,by rw[Cb];exact Co (MU ok) (by decide),by rw[sp,Cb,Cm];omega,λp hp=>?_⟩;rw[sp];exact q p _ (Qc hp _) Qa
def oU (rs:List Row)(H:Hp)(i:Nat)(acc:List V)(σ':L2.St)(H':Hp):Prop:=∃x0,σ'=[x0]/\Same H H'/\acc=(kn (rs.take i)).map V.str
def n8 (rs:List Row)(ts:List Str)(a l:Addr)(H:Hp)(i:Nat)(σ':L2.St)(H':Hp):Prop:=∃x2 x3 x4 x5,σ'=[some (.ref a),some (.ref l),x2,x3,x4,x5]/\Same H H'/\∀y∈((rs.take i).map rn).flatten,y∈ts
def ox (rs:List Row)(ts:List Str)(row:Row)(j:Nat)(a l:Addr)(H:Hp)(i:Nat)(σ':L2.St)(H':Hp):Prop:=∃x2 x3 x4 x5,σ'=[some (.ref a),some (.ref l),x2,x3,x4,x5]/\Same H H'/\(∀y∈((rs.take j).map rn).flatten,y∈ts)/\∀y∈(rn row).take i,y∈ts
theorem iX (T:Tx w K mg):GF P w K mg base 1 "_law_ghost" ["_law_rows_here"] (Sp1M (jR K)):=by
 refine Zf T 97 ["_law_rows_here","_law_there","_law_row","_law_words_here","_law_named","_law_title"] Xk λH Q af hr h=>?_
 obtain⟨_,rfl,a,rs,ks,cs,as,rfl,hL,a7,a6,hn,q⟩:=h;refine⟨_,(Qb (WV (i:=1) af rfl (Or.inl rfl) (N:=["_law_row"]) (caps:=[none]) rfl Gx (Ie K rfl (pu 0)) (λ_ _ _ _=>Yh (i:=0) (show(["_law_row"]:List Str).Nodup by decide +kernel) rfl (Or.inl rfl) (.inr rfl)) (λ_ _ _ _=>Va (A8 (QM K) (BN K (QE K rfl AN AU AV Xx (pu 0) (A1 Qe)) Qd) Qe)) (λ_ _ _ _=>(BN K (QE K rfl AN AU AV Xx (pu 0) (A1 Qe)) Qd))) (Qb (fh (Ie K rfl (pu 0)) (GE 2) (Qb (A5 3 (QE K rfl AN AU AV Xx (pu 2) (A1 Qe))) (Qb (A5 4 (Qn Qz)) (Qb (Qr (A8 (QM K) (BM K 3) Qe) (Qf (A5 4 (QJ (IT K rfl) (pu 3) (QL Qd) (QL Qd)))) Ql) (Qb (Qr (A8 (QM K) (BM K 3) Qe) (Qf (A5 4 (QJ (IT K rfl) (pu 3) (QL Qd) Q8))) Ql) (Qf (fh (Ie K rfl (pu 4)) (GE 5) (Qf (Qr (ZA (Xe K rfl) (pu 5) (pu 1) (by with_unfolding_all rfl)) (Qf (Qk (Qn (A1 (pu 5))))) Ql))))))))) (Qf (Qk (Qn Qz))))),?_⟩;have a9:=Bz a7;have et:ks.map (·.1)=kn rs:=by
  have:=Xc (rs:=rs) (ks:=[]) (cs:=[]) (as:=[]);rw[a6] at this;exact this
 have ea:as=(rs.map rn).flatten:=by
  have:=M9 (rs:=rs) (ks:=[]) (cs:=[]) (as:=[]);rw[a6] at this;exact this
 left;simp only[ZL];left;refine⟨a,rfl,⟨_,hL⟩,Y2 (xs:=A2 rs) (oU rs H) ⟨none,rfl,AK _,rfl⟩ (λi acc σ' H' _ h=>by obtain⟨_,_,g',_⟩:=h;exact g'.seq hL) (by rw[D1];omega) ?_ ?_⟩
 ·rintro i v acc _ H2 hv a7 ⟨x0,rfl,g,rfl⟩;have aa:=Z0 hv;rw[Ct] at hv;obtain⟨row,U,rfl⟩:=Cv.mp hv;have ok:=a9 row (C6 U);have st:kn (rs.take (i+1))=kn (rs.take i)++kn [row]:=by rw[CS,U];exact WW
  left;refine MO ok λp H3 g3 k3=>QA (AI k3) (v:=.str row.srt) (QV (j:=0) rfl) ?_
  left;refine Qs (λe=>?_) (λe=>?_)
  ·obtain⟨z,rfl⟩:=M5 e;refine MO ok λp4 H4 g4 k4=>QA (AI k4) (v:=.str z) (QV (j:=1) rfl) ?_
   exact CN.mk aa (by rw[D0,D6];omega) ⟨_,rfl,(g.trans g3).trans g4,by rw[st,D9];rfl⟩
  ·refine CN.mk aa (by omega) ⟨_,rfl,g.trans g3,?_⟩;rw[st];cases row with
   | kind z=>exact absurd rfl e
   | cap a b ns=>rw[show kn [Row.cap a b ns]=[] from rfl,Cs]
   | itm x=>rw[show kn [Row.itm x]=[] from rfl,Cs]
 ·rintro acc _ H2 ⟨x0,rfl,g,rfl⟩ l hl;rw[CH (by rw[D1];exact D2 _),<-et];have g1:=g.trans (Qc hl (.lst ((ks.map (·.1)).map V.str)));have k1:=Qa (H:=H2) (a:=l) (o:=.lst ((ks.map (·.1)).map V.str));generalize upd H2 l (.lst ((ks.map (·.1)).map V.str))=H1 at *;refine⟨a,rfl,⟨_,g1.seq hL⟩,Xh (xs:=A2 rs) (n8 rs (ks.map (·.1)) a l H1) ⟨_,_,_,_,rfl,AK _,λy J=>by cases J⟩ (λi σ' H' _ h=>by obtain⟨_,_,_,_,_,g',_⟩:=h;exact(g1.trans g').seq hL) ?_ ?_⟩
  ·rintro i v _ H3 hv ⟨x2,x3,x4,x5,rfl,g3,hin⟩;rw [Ct] at hv;obtain ⟨row,U,rfl⟩:=Cv.mp hv;have ok:=a9 row (C6 U);have hi:i<rs.length:=(Cg.mp U).1;have er:rs=rs.take i++row :: rs.drop (i+1):=by rw [<-(Cg.mp U).2,<-List.drop_eq_getElem_cons hi,Aj]
   have ah:as=((rs.take i).map rn).flatten++(rn row++((rs.drop (i+1)).map rn).flatten):=by
    rw[ea]
    conv=>lhs;rw[er]
    rw[D9,CQ,Ap,List.flatten_cons]
   have rl:(rn row).length<=100:=by
    cases row with
    | kind z=>exact CF _
    | cap a b ns=>exact Co ok.2.2.2.2 (by decide)
    | itm x=>cases x<;>exact AL rfl
   generalize hR:B0 (Nf K (Xj 4)) _ _=R;have a8:∀(D:QO) (p4 p3:Addr) (x5:Option V) (H4:Hp),D.rt=Q->D.nx=n8 rs (ks.map (·.1)) a l H1 (i+1)->Same H1 H4->H4 p4=some (.lst ((rn row).map V.str))->R D [some (.ref a),some (.ref l),some (.str row.tx),some (.ref p3),some (.ref p4),x5] H4:=by
    subst hR;intro D p4 p3 x5 H4 ae ak g4 k4;left;refine⟨p4,rfl,⟨_,AI k4⟩,Xh (xs:=(rn row).map V.str) (λj σ' H'=>ox rs (ks.map (·.1)) row i a l H1 j σ' H'/\H' p4=some (.lst ((rn row).map V.str))) ⟨⟨_,_,_,_,rfl,g4,hin,λy J=>by cases J⟩,k4⟩ (λj σ' H' _ h=>AI h.2) ?_ ?_⟩
    ·rintro j v _ H5 hv ⟨⟨y2,y3,y4,y5,rfl,g5,_,hj⟩,k5⟩;rw[Ct] at hv;obtain⟨z,hz,rfl⟩:=Cv.mp hv;left;refine Zx (AI (g5 _ _ k1)) ?_;left;refine Qs (λc=>⟨by decide,λp6 a4=>?_⟩) (λc=>⟨⟨_,_,_,_,rfl,g5,hin,λy J=>?_⟩,k5⟩)
     ·rw[ae];have ao:j<(rn row).length:=(Cg.mp hz).1;have eg:ghost ks as=some z:=by
       have e2:rn row=(rn row).take j++z :: (rn row).drop (j+1):=by rw [<-(Cg.mp hz).2,<-List.drop_eq_getElem_cons ao,Aj]
       rw[ah,e2,List.append_assoc,<-List.append_assoc];refine N4 (λy J=>?_) c;rcases Cr.mp J with J|J
       ·exact hin y J
       ·exact hj y J
      exact q p6 _ ((g1.trans g5).trans (Qc a4 _)) (by rw[Qa,eg];rfl)
     ·rw[CS,hz] at J;rcases Cr.mp J with J|J
      ·exact hj y J
      ·have J:y=z:=by simpa using J
       rw[J];exact Classical.not_not.mp c
    ·rintro _ H5 ⟨⟨y2,y3,y4,y5,rfl,g5,_,hj⟩,k5⟩;rw[ak];rw[CH (by rw[D1];exact D2 _)] at hj;refine⟨_,_,_,_,rfl,g5,λy J=>?_⟩;rw[CS,U,D9,Ap] at J;rcases Cr.mp J with J|J
     ·exact hin y J
     ·exact hj y (by simpa using J)
   left;refine MO ok λp3 H4 g4 k4=>?_
   left;refine⟨by decide,λp4 aj=>?_⟩;have g5:=Qc aj (.lst []);have k5:=Qa (H:=H4) (a:=p4) (o:=.lst []);have a5:=g5 _ _ k4;have gg:=(g3.trans g4).trans g5;generalize upd H4 p4 (.lst [])=H5 at *;left;refine QA (AI a5) (v:=.str row.srt) (QV (j:=0) rfl) ?_;left;refine Qs (λe=>?_) (λe=>?_)
   ·obtain⟨z,r',s',rfl⟩:=NI e;refine Zt (AI a5) λp6 a4=>?_
    have g6:=Qc a4 (.lst ((rn (.itm (.cnt z r' s'))).map V.str));have k6:=Qa (H:=H5) (a:=p6) (o:=.lst ((rn (.itm (.cnt z r' s'))).map V.str));rw[show ZW (((Row.itm (.cnt z r' s')).srt::(Row.itm (.cnt z r' s')).ws).map V.str) (some 1) (some 2)=(rn (.itm (.cnt z r' s'))).map V.str from rfl];have ai:=g6 _ _ a5;generalize upd H5 p6 (.lst ((rn (.itm (.cnt z r' s'))).map V.str))=H6 at *;left;refine QA (AI ai) (v:=.str (q_ "counts")) (QV (j:=0) rfl) ?_;left;exact a8 _ _ _ _ _ rfl rfl (gg.trans g6) k6
   ·left;refine QA (AI a5) (v:=.str row.srt) (QV (j:=0) rfl) ?_;left;refine Qs (λe2=>?_) (λe2=>?_)
    ·obtain⟨x,y,ns,rfl⟩:=GT e2;refine Zt (AI a5) λp6 a4=>?_
     rw[show ZW (((Row.cap x y ns).srt::(Row.cap x y ns).ws).map V.str) (some 3) none=(rn (.cap x y ns)).map V.str from XS _ 3];exact a8 _ _ _ _ _ rfl rfl (gg.trans (Qc a4 _)) Qa
    ·have ag:rn row=[]:=by
      cases row with
      | kind z=>rfl
      | cap a b ns=>exact absurd rfl e2
      | itm x=>cases x<;>first|rfl|exact absurd rfl e
     exact a8 _ _ _ _ _ rfl rfl gg (by rw[ag];exact k5)
  ·rintro _ H3 ⟨x2,x3,x4,x5,rfl,g3,hin⟩;rw[CH (by rw[D1];exact D2 _),<-ea] at hin;left;exact⟨by decide,λp6 a4=>q p6 _ ((g1.trans g3).trans (Qc a4 _)) (by rw[Qa,Jr hin];rfl)⟩
theorem MI {pl:Addr}{cl:List Int}(hd:H d=some (.lst (cl.map V.int)))(hpl:H pl=some (.lst (ns.map V.str)))(ne:d≠pl)(hcl:cl.length<=60)(hns:∀z∈ns,Q7 z)(nd:ns.Nodup)(h9:1<=ns.length/\ns.length<=8)
  (q:∀r rs ks cs as H',Same H H'->H' r=some (.lst (A2 rs))->RI ns rs ks cs as->rs.length<=60->Q (.ref r) H'):0<=sizeLine/\∀p,H p=none->0<=sizeLine/\∀p1,upd H p (.lst []) p1=none->Ik K (.ref d) (.ref pl) (.ref p) (.ref p1) (upd (upd H p (.lst [])) p1 (.lst [])) Q:=by
 refine⟨by decide,λa J=>⟨by decide,λc U=>?_⟩⟩;have g2:=Qc J (.lst []);have ka:=Qa (H:=H) (a:=a) (o:=.lst []);generalize upd H a (.lst [])=H2 at *;have g3:=Qc U (.lst []);have kc:=Qa (H:=H2) (a:=c) (o:=.lst []);generalize upd H2 c (.lst [])=H3 at *;have gA:=g2.trans g3;have c0:H c=none:=g2.free U;have a7:c≠a:=λe=>by rw[e,ka] at U;cases U
 have a5:d≠a:=Qi hd J;have aa:d≠c:=Qi hd c0;have a6:pl≠a:=Qi hpl J;have a8:pl≠c:=Qi hpl c0;have S3:LwS K (λb=>H b=none) (λb=>if b=a then 0 else if b=c then 1 else if b=d then 5 else 4) H3 a c [] (λ_ _=>0) [] [(5,d,cl.map V.int),(4,pl,ns.map V.str)] [] []:=by
  refine⟨g3 _ _ ka,kc,J,c0,rfl,λi p k h=>by simp at h,λi h=>by simp at h,Z1,DZ rfl,?_,λi h=>by simp at h,λe he=>?_⟩
  ·simp only[DY a7,if_true]
  ·have he:e=(5,d,cl.map V.int)∨e=(4,pl,ns.map V.str):=by simpa using he
   rcases he with rfl|rfl
   ·refine⟨gA _ _ hd,?_,AL rfl,AL rfl⟩;simp only[DY a5,DY aa,if_true]
   ·refine⟨gA _ _ hpl,?_,D2 4,AL rfl⟩;simp only[DY a6,DY a8,DY ne.symm]
 refine⟨_,d,pl,a,c,cl,ns,rfl,rfl,rfl,rfl,⟨_,_,_,_,S3⟩,λb hb=>gA.free hb,hcl,hns,nd,h9,λr rs ks cs as H5 ae _ ⟨_,_,_,_,S5⟩ a4 a9 _=>?_⟩;exact q r rs ks cs as H5 (λb o h=>ae b o (λe=>by have e:H b=none:=e;rw[h] at e;cases e) (gA b o h)) (S5.hb (6,r,A2 rs) (by simp)).1 a4 a9
structure Unx (w:Int)(ys:List Itm)(b:Itm):Prop where
 acc:YH [] ys
 bad:XB ys b=false
 ok:b.Ok
 s3:w≠7->∀y∈ys++[b],y.sl≠3
 len:ys.length<=7
theorem Und.x {w:Int}{b}(u:Und w ys b):Unx w ys b:=by
 obtain⟨j,h1,h2,J⟩:=u.sl;exact⟨u.acc,u.bad,(h1 b (by simp)).2,λU y hy=>by rw[(h1 y hy).1];exact J U,by have:=u.len;omega⟩
theorem GW {l1 l2}{e}(h:e.sl≠j):BL (l1++e::l2) j=BL (l1++l2) j:=by
 unfold BL;rw[Av,Av,List.filter_cons_of_neg (by rw[Ce h];decide)]
theorem Und.ins {w:Int}{b e:Itm}(u:Und w ys b)(k:Nat)(he:e.Ok)(h0:w=0->e.sl=1)(h1:w≠0->e.sl=0):Unx w (ys.take k++e::ys.drop k) b:=by
 obtain⟨j,hj,hw,h3⟩:=u.sl;have ne:e.sl≠j:=by
  by_cases c:w=0
  ·rw[h0 c,hw.mp c];decide
  ·rw[h1 c];exact λe=>c (hw.mpr e.symm)
 have e3:e.sl≠3:=by
  by_cases c:w=0
  ·rw[h0 c];decide
  ·rw[h1 c];decide
 have sj:∀y∈ys,y.sl=j:=λy J=>(hj y (C0 _ J)).1
 have eb:b.sl=j:=(hj b (by simp)).1;refine⟨JH he (λv hv=>by rw[sj v (List.mem_of_mem_drop hv)];exact ne.symm) (Gv λv hv=>by rw[sj v (List.mem_of_mem_take hv)];exact ne.symm) (by rw[Aj];exact u.acc),?_,(hj b (by simp)).2,λU y J=>?_,?_⟩
 ·rw[Uj (xs':=ys) (by rw[GW (by rw[eb];exact ne),Aj])];exact u.bad
 ·rcases Cr.mp J with J|J
  ·rcases Cr.mp J with J|J
   ·rw[sj y (List.mem_of_mem_take J)];exact h3 U
   ·rcases Ca.mp J with rfl|J
    ·exact e3
    ·rw[sj y (List.mem_of_mem_drop J)];exact h3 U
  ·rw[D7.mp J,eb];exact h3 U
 ·have:=u.len.1;rw[D0,Cm,CC,Ag];omega
theorem Unx.ghost {w:Int}{b}(u:Unx w ys b)(hw:w≠7)(hz:Q7 z):YH [] (.cnt z 1 3::ys)/\XB (.cnt z 1 3::ys) b=false:=by
 have s3:=u.s3 hw;refine⟨JH (y:=.cnt z 1 3) (ys1:=[]) ⟨hz,by decide,by decide,by decide,by decide,by decide⟩ (λv J=>s3 v (C0 _ J)) (λy U=>by cases U) u.acc,?_⟩;exact(Uj (xs:=[]++.cnt z 1 3::ys) (xs':=ys) (GW (l1:=[]) (e:=.cnt z 1 3) (CP (s3 b (by simp))))).trans u.bad
theorem Kf {ra}{b}(h:IM [] [] ra)(hz:Q7 z)(h8:(run [] [] [] ra).1.length<8)(hn:z∉(run [] [] [] ra).1.map (·.1))(hy:YH [] ys)(hb:b.Ok)(bad:XB ys b=false)(hl:ra.length+ys.length<=79):GA (ra++.kind z::ys.map .itm) (Row.itm b).tx:=by
 obtain⟨a,ks0,cs,as,e⟩:=UD h hz h8 hn hy;refine⟨a,?_,by rw[D0,Cm,D1];omega⟩;rw[e];refine .fit (.itm b) hb ?_;show(match (ks0++[(z,ys)]).getLast? with|some k=>XB k.2 b|none=>false)=false;rw[List.getLast?_concat];exact bad
theorem Px {r}(h:jv rs r):GA rs r.tx:=⟨h.acc,.fit r h.ok h.bad,by have:=h.len;omega⟩
theorem Bj (xs)(v):ZW (xs++[v]) none (some (-1))=xs:=by
 unfold ZW HT.sIx;simp;rw[show(-1+((xs.length:Int)+1)).toNat=xs.length by omega];exact List.take_left' rfl
inductive kJ (K)(x y:V)(H)(Q:VK):Prop
 | mk (a b:Addr) (cl:List Int) (ns:List Str) (h1:x=.ref a) (h2:y=.ref b) (h3:A6 K H a (cl.map V.int)) (h4:cl.length<=63) (h5:A6 K H b (ns.map V.str)) (h6:ns.length=9) (h7:ns.Nodup) (h8:∀z∈ns,Q7 z) (q:∀p l rs z H',Same H H'->H' p=some (.tup [.ref l,.str z])->H' l=some (.lst (A2 rs))->GA rs z->Q (.ref p) H'):kJ K x y H Q
theorem iY (T:Tx w K mg):GF P w K mg base 7 "_law_made_bad" ["_law_script","_law_names_here"] (Sp2M (kJ K)):=by
 refine Zf T 95 ["_law_script","_law_names_here","_law_cell_here","_law_ahead","_law_way","_law_ghost_here","_law_some","_law_at","_law_extra"] Y6 λH Q cw hr h=>?_
 obtain⟨_,_,rfl,a,b,cls,ns,rfl,rfl,hL,cv,hP,hl,nd,ok,q⟩:=h;refine⟨_,(Qb (A5 2 (A7 (aJ T) (A3 (pu 0) Qd))) (Qb (A5 3 (A7 (bW T) (gu (QJ (IT K rfl) (pu 0) (QL Qd) (QL Qd)) (QJ (IT K rfl) (pu 1) (QL Qd) (QL Qd)) (Qn Qz) (Qn Qz)))) (Qb (A5 3 (QJ (IT K rfl) (pu 3) Q8 (QL (Qg Qo (A7 (aJ T) (A3 (pu 0) Qd)) (Qg Qh (IC K T.aB (pu 3)) Qd))))) (Qb (A5 4 (Qg Qo (pu 2) Qd)) (Qb (A5 5 (Qn (A3 (Qg Qh Qe (BM K 1)) (Qg Qh (Qg Qh Qe (BM K 1)) Qe)))) (Qb (A5 6 (Qn (A1 (A7 (bX T) (A1 (A7 (aA T) (A3 (Qg Qx (pu 2) Qd) Qd))))))) (Qb (Qr (A8 Zr (pu 4) Qd) (Qb (A5 6 (Qg Qh (Qn (A1 (Qg Qh Qe (BM K 1)))) (A7 (iQ T) (IZ (pu 4) (pu 1) (Qg Qx (pu 2) Qd))))) (Qb (A5 7 (Qg Qh Qd (Qg Qo (A7 (aJ T) (A3 (pu 0) Qd)) (Qg Z6 (IC K T.aB (pu 6)) Qd)))) (Qb (A5 8 (BN K (Qn (A3 (Qn (A1 Qe)) (Qn (A1 Qe)))) (Qv Kz (by rfl) T.aR boot_int (A1 (jX (QM K) (pu 4) Qd))))) (Qf (Qr (A8 (QM K) (Qg Qo (Qg Qx (A7 (aJ T) (A3 (pu 0) Qd)) Qd) Qd) Qd) (Qf (A5 6 (Qg Qh (Qg Qh (QJ (IT K rfl) (pu 6) Q8 (QL (pu 7))) (pu 8)) (QJ (IT K rfl) (pu 6) (QL (pu 7)) Q8)))) Ql))))) (Qf (Qr (A8 Zr (pu 4) Qd) (Qb (A5 3 (Qn Qz)) (Qf (A5 6 (A7 (iR T) (IZ (pu 4) (pu 1) (Qg Qx (pu 2) Qd)))))) (Qf (Qr (A8 (QM K) (Qg Qo (A7 (aJ T) (A3 (pu 0) Qd)) Qd) Qd) (Qf (A5 6 (Qg Qh (pu 5) (pu 6)))) Ql))))) (Qb (Qr (PW.pt (Zz (A8 Zr (pu 4) Qd) (Zz (A8 (VM K) (pu 4) Qd) (Zh (A8 (QM K) (Qg Qo (A7 (aJ T) (A3 (pu 0) Qd)) Qd) Qd))))) (Qf (A5 6 (Qg Qh (Qg Qh (QJ (IT K rfl) (pu 6) Q8 (QL Qd)) (QJ (IT K rfl) (pu 5) (QL Qd) Q8)) (QJ (IT K rfl) (pu 6) (QL Qd) Q8)))) Ql) (Qf (Qk (QY (A3 (Qg Qh (pu 3) (QJ (IT K rfl) (pu 6) Q8 (QL Ia))) (BN K (pu 6) Ia))))))))))))),?_⟩;generalize bc:BZ (BY _)=R0;generalize b7:W8 (JP (KY _ _) _ _) R0=R1;have o:∀k,k<9->Q7 (A0 ns k):=λk hk=>ok _ (XN (by omega))
 have aq:∀k:Nat,k<9->IL (ns.map V.str) (k:Int)=some (.str (A0 ns k)):=λk hk=>LF (by omega)
 have ae:∀(D:QO) (la sl gl:Addr) (c w:Int) (x7 x8:Option V) (U rs:List Row) (z:Str) (H1:Hp),D.rt=Q->Same H H1->H1 la=some (.lst (A2 U))->H1 sl=some (.lst (A2 rs++[.str z]))->GA (U++rs) z->R0 D [some (.ref a),some (.ref b),some (.int c),some (.ref la),some (.int w),some (.ref gl),some (.ref sl),x7,x8] H1:=by
  subst bc;intro D la sl gl c w x7 x8 U rs z H1 hD g ka ks hR;left;rw[hD];have ao:=hR.len;rw[D0] at ao;refine Zt (AI ks) λp hp=>?_
  rw[Bj];have g1:=Qc hp (.lst (A2 rs));have k1:=Qa (H:=H1) (a:=p) (o:=.lst (A2 rs));generalize upd H1 p (.lst (A2 rs))=H2 at *;refine Z8 ⟨la,p,_,_,rfl,rfl,g1 _ _ ka,k1,Qq (by rw[D1,D1];omega),λp2 a4=>?_⟩;have g2:=Qc a4 (.lst (A2 U++A2 rs));have k2:(upd H2 p2 (.lst (A2 U++A2 rs))) p2=some (.lst (A2 (U++rs))):=by rw[Qa];simp[A2]
  generalize upd H2 p2 (.lst (A2 U++A2 rs))=H3 at *;refine QA (AI ((g1.trans g2) _ _ ks)) (Q5 _ _) ⟨by decide,λp3 a5=>?_⟩;have g3:=Qc a5 (.tup [.ref p2,.str z]);exact q p3 p2 (U++rs) z _ ((g.trans (g1.trans g2)).trans g3) Qa (g3 _ _ k2) hR
 have aa:∀(D:QO) (la sl gl:Addr) (c w:Int) (x7 x8:Option V) (U rs:List Row) (z:Str) (H1:Hp),D.rt=Q->Same H H1->H1 la=some (.lst (A2 U))->H1 sl=some (.lst (A2 rs++[.str z]))->GA (U++rs) z->¬w<8->R1 D [some (.ref a),some (.ref b),some (.int c),some (.ref la),some (.int w),some (.ref gl),some (.ref sl),x7,x8] H1:=by
  subst b7;intro D la sl gl c w x7 x8 U rs z H1 hD g ka ks hR hw;have plain:=ae D la sl gl c w x7 x8 U rs z H1 hD g ka ks hR;left;rw[DY hw];exact plain
 have ah:∀(D:QO) (la sl gl:Addr) (c w:Int) (x7 x8:Option V) (U:List Row) (ys:List Itm) (J:Itm) (H1:Hp),D.rt=Q->Same H H1->H1 la=some (.lst (A2 U))->H1 sl=some (.lst (A2 (.kind (A0 ns 0)::((ys++[J]).map Row.itm))))->H1 gl=some (.lst (A2 [.kind (A0 ns 0),.itm (.cnt (A0 ns 8) 1 3)]))->w<8->Unx w ys J->IM [] [] U->(run [] [] [] U).1.length<8->A0 ns 0∉(run [] [] [] U).1.map (·.1)->U.length<=60->R1 D [some (.ref a),some (.ref b),some (.int c),some (.ref la),some (.int w),some (.ref gl),some (.ref sl),x7,x8] H1:=by
  subst b7;intro D la sl gl c w x7 x8 U ys J H1 hD g ka ks kg hw u ag h8 hn ao;have ul:=u.len;have plain:R0 D [some (.ref a),some (.ref b),some (.int c),some (.ref la),some (.int w),some (.ref gl),some (.ref sl),x7,x8] H1:=ae D la sl gl c w x7 x8 U (.kind (A0 ns 0)::ys.map Row.itm) (Row.itm J).tx H1 hD g ka (by rw[ks,D9];simp[A2]) (Kf ag (o 0 (by decide)) h8 hn u.acc u.ok u.bad (by omega));left;rw[DZ hw];refine Qs (λh7=>?_) (λ_=>plain);refine⟨a,cls,4,rfl,rfl,(g.seq hL),by decide,?_⟩;left;refine⟨by decide,Qs (λ_=>?_) (λ_=>plain)⟩;obtain⟨ga,gb⟩:=u.ghost h7 (o 8 (by decide));refine Zt (AI ks) λp1 cc=>?_
  rw[show ZW (A2 (.kind (A0 ns 0)::((ys++[J]).map Row.itm))) none (some 1)=A2 [.kind (A0 ns 0)] from Wo _ 1];have g1:=Qc cc (.lst (A2 [.kind (A0 ns 0)]));have k1:=Qa (H:=H1) (a:=p1) (o:=.lst (A2 [.kind (A0 ns 0)]));generalize upd H1 p1 (.lst (A2 [.kind (A0 ns 0)]))=H2 at *;refine Zt (AI (g1 _ _ kg)) λp2 a4=>?_
  rw[show ZW (A2 [.kind (A0 ns 0),.itm (.cnt (A0 ns 8) 1 3)]) (some 1) none=A2 [.itm (.cnt (A0 ns 8) 1 3)] from XS _ 1];have g2:=Qc a4 (.lst (A2 [.itm (.cnt (A0 ns 8) 1 3)]));have k2:=Qa (H:=H2) (a:=p2) (o:=.lst (A2 [.itm (.cnt (A0 ns 8) 1 3)]));generalize upd H2 p2 (.lst (A2 [.itm (.cnt (A0 ns 8) 1 3)]))=H3 at *;refine Z8 ⟨p1,p2,_,_,rfl,rfl,g2 _ _ k1,k2,Qq (AL rfl),λp3 a5=>?_⟩;have g3:=Qc a5 (.lst (A2 [.kind (A0 ns 0)]++A2 [.itm (.cnt (A0 ns 8) 1 3)]));have k3:=Qa (H:=H3) (a:=p3) (o:=.lst (A2 [.kind (A0 ns 0)]++A2 [.itm (.cnt (A0 ns 8) 1 3)]));generalize upd H3 p3 (.lst (A2 [.kind (A0 ns 0)]++A2 [.itm (.cnt (A0 ns 8) 1 3)]))=H4 at *;have b3:=g1.trans (g2.trans g3);refine Zt (AI (b3 _ _ ks)) λp4 br=>?_
  rw[show ZW (A2 (.kind (A0 ns 0)::((ys++[J]).map Row.itm))) (some 1) none=A2 ((ys++[J]).map Row.itm) from XS _ 1];have g4:=Qc br (.lst (A2 ((ys++[J]).map Row.itm)));have k4:=Qa (H:=H4) (a:=p4) (o:=.lst (A2 ((ys++[J]).map Row.itm)));generalize upd H4 p4 (.lst (A2 ((ys++[J]).map Row.itm)))=H5 at *;refine Z8 ⟨p3,p4,_,_,rfl,rfl,g4 _ _ k3,k4,Qq (by rw[D0,D1,D1,D1,D1,D0];show 1+1+(_+1)<=1000;omega),λp5 bq=>?_⟩;have g5:=Qc bq (.lst (A2 [.kind (A0 ns 0)]++A2 [.itm (.cnt (A0 ns 8) 1 3)]++A2 ((ys++[J]).map Row.itm)));have gg:=b3.trans (g4.trans g5);refine ae _ la p5 gl c w x7 x8 U (.kind (A0 ns 0)::(Itm.cnt (A0 ns 8) 1 3::ys).map Row.itm) (Row.itm J).tx _ hD (g.trans gg) (gg _ _ ka) (by rw[Qa,D9];simp[A2]) (Kf ag (o 0 (by decide)) h8 hn ga u.ok gb (by rw[Cm];omega))
 left;refine⟨a,cls,1,rfl,rfl,hL,by decide,?_⟩;left;refine Zt hL λd hd=>?_
 rw[show ZW (cls.map V.int) (some 14) (some 44)=((cls.drop 14).take 30).map V.int by rw[List.map_take,List.map_drop];exact Vv _ 14 44];have g1:=Qc hd (.lst (((cls.drop 14).take 30).map V.int));have kd:=Qa (H:=H) (a:=d) (o:=.lst (((cls.drop 14).take 30).map V.int));generalize upd H d (.lst (((cls.drop 14).take 30).map V.int))=H1 at *;refine Zt (g1.seq hP) λpl ay=>?_
 rw[show ZW (ns.map V.str) (some 1) (some 6)=((ns.drop 1).take 5).map V.str by rw[List.map_take,List.map_drop];exact Vv _ 1 6];have g2:=Qc ay (.lst (((ns.drop 1).take 5).map V.str));have cg:=Qa (H:=H1) (a:=pl) (o:=.lst (((ns.drop 1).take 5).map V.str));have c4:d≠pl:=Qi kd ay
 replace kd:=g2 _ _ kd
 generalize upd H1 pl (.lst (((ns.drop 1).take 5).map V.str))=H2 at *;have n5:((ns.drop 1).take 5).length=5:=by rw[CC,Ag];omega
 refine MI kd cg c4 (by rw[CC];omega) (λz hz=>ok z (List.mem_of_mem_drop (List.mem_of_mem_take hz))) ((nd.sublist (List.drop_sublist _ _)).sublist (List.take_sublist _ _)) (by omega) λr rs ks cs as H3 g3 kr ri ao=>?_
 have b1:=(g1.trans g2).trans g3;refine⟨a,cls,2,rfl,rfl,b1.seq hL,by decide,Q0 (AI kr) ?_⟩;left;rw[D1];have c0:=Ci (cl cls 2) (show((rs.length:Int)+1)≠0 by omega);have c1:=Cq (cl cls 2) (show(0:Int)<(rs.length:Int)+1 by omega);obtain⟨k,hk⟩:=CT c0;rw[hk];refine⟨by omega,?_⟩;left;refine Zt (AI kr) λla bb=>?_
 rw[show ZW (A2 rs) none (some (k:Int))=A2 (rs.take k) by rw[Wo];simp[A2]];have g4:=b1.trans (Qc bb (.lst (A2 (rs.take k))));have cj:=Qa (H:=H3) (a:=la) (o:=.lst (A2 (rs.take k)));generalize upd H3 la (.lst (A2 (rs.take k)))=H4 at *;obtain⟨a6,aw,cq⟩:=SD ri k;have ak:A0 ns 0∉(run [] [] [] (rs.take k)).1.map (·.1):=λh=>by
  have h1:=aw _ h;have e0:ns=A0 ns 0::ns.drop 1:=by
   cases ns with
   | nil=>cases hl
   | cons z r=>rfl
  have h2:=nd;rw[e0] at h2;exact(CZ.mp h2).1 (List.mem_of_mem_take h1)
 have h8:(run [] [] [] (rs.take k)).1.length<8:=by omega
 have ar:(rs.take k).length<=60:=by rw[CC];omega
 generalize rs.take k=U at *;have l0:=ZN (o 0 (by decide));have l8:=ZN (o 8 (by decide));have lk:(Str.ofString "kind ").length=5:=by decide +kernel
 have lc:(Str.ofString "counts ").length=7:=by decide +kernel
 have l3:(Str.ofString " 1/3").length=4:=by decide +kernel
 refine⟨trivial,QA (g4.seq hP) (aq 0 (by decide)) ?_⟩;left;refine⟨Qq (by omega),QA (g4.seq hP) (aq 8 (by decide)) ?_⟩;left;refine⟨Qq (by omega),Qq (by rw[Qu];omega),by decide,λgl cb=>⟨⟨by decide,(IB (m:=60) (by decide) (by decide)).mono (by decide)⟩,?_⟩⟩;have bf:[V.str (Str.ofString "kind "++A0 ns 0),V.str (Str.ofString "counts "++A0 ns 8++Str.ofString " 1/3")]=A2 [.kind (A0 ns 0),.itm (.cnt (A0 ns 8) 1 3)]:=by
  show _=[V.str (Row.kind _).tx,V.str (Row.itm _).tx];rw[KQ,KR,<-Dw]
 rw [bf];have g5:=Qc cb (.lst (A2 [.kind (A0 ns 0),.itm (.cnt (A0 ns 8) 1 3)]));have c9:=Qa (H:=H4) (a:=gl) (o:=.lst (A2 [.kind (A0 ns 0),.itm (.cnt (A0 ns 8) 1 3)]));generalize upd H4 gl (.lst (A2 [.kind (A0 ns 0),.itm (.cnt (A0 ns 8) 1 3)]))=H5 at *;refine ⟨_,0,rfl,rfl,by decide,fun m H6 g6 _ _=>⟨m,rfl,fun z H7 g7 hz=>⟨by decide,fun sl bh=>?_⟩⟩⟩;have gs:=Qc bh (.lst [V.str z]);have b5:=(g6.trans g7).trans gs;have g8:=g5.trans b5;have b0:=Qa (H:=H7) (a:=sl) (o:=.lst [V.str z]);generalize upd H7 sl (.lst [V.str z])=H8 at *;have gA:=g4.trans g8;have a7:=g8 _ _ cj;have a8:=b5 _ _ c9;generalize hw:cl cls 1 % 18=w at *;have w0:0<=w:=by rw [<-hw];exact Ci _ (by decide)
 by_cases c8:w<8
 ·rw[DZ c8];refine QA (gA.seq hP) (aq 0 (by decide)) ?_;left;refine⟨Qq (by omega),by decide,λp2 a4=>⟨⟨by decide,(IB (m:=60) (by decide) (by decide)).mono (by decide)⟩,?_⟩⟩;have ek:[V.str (Str.ofString "kind "++A0 ns 0)]=A2 [.kind (A0 ns 0)]:=by
   show _=[V.str (Row.kind _).tx];rw[KQ]
  rw[ek];have g9:=Qc a4 (.lst (A2 [.kind (A0 ns 0)]));have k2:=Qa (H:=H8) (a:=p2) (o:=.lst (A2 [.kind (A0 ns 0)]));generalize upd H8 p2 (.lst (A2 [.kind (A0 ns 0)]))=H9 at *;refine⟨w,_,b,ns,rfl,rfl,rfl,by omega,(gA.trans g9).seq hP,hl,nd,ok,λul ys J af a9 ku u=>?_⟩;have cu:=u.len;refine Z8 ⟨p2,ul,_,_,rfl,rfl,a9 _ _ k2,ku,Qq (by rw[D1,D1,D1,D0];show 1+(_+1)<=1000;omega),λp3 a5=>?_⟩;have ea:A2 [.kind (A0 ns 0)]++A2 ((ys++[J]).map Row.itm)=A2 (.kind (A0 ns 0)::((ys++[J]).map Row.itm)):=by simp[A2]
  rw[ea];have bw:=Qc a5 (.lst (A2 (.kind (A0 ns 0)::((ys++[J]).map Row.itm))));have k3:=Qa (H:=af) (a:=p3) (o:=.lst (A2 (.kind (A0 ns 0)::((ys++[J]).map Row.itm))));generalize upd af p3 (.lst (A2 (.kind (A0 ns 0)::((ys++[J]).map Row.itm))))=H11 at *;have ai:=(g9.trans a9).trans bw;have gB:=gA.trans ai;refine⟨a,cls,3,rfl,rfl,gB.seq hL,by decide,Q0 (AI k3) ?_⟩;left;rw[D1,Cm,D1,D0,D6];have e0:=Ci (cl cls 3) (show(((ys.length+1+1:Nat):Int)-1)≠0 by omega);have e1:=Cq (cl cls 3) (show(0:Int)<((ys.length+1+1:Nat):Int)-1 by omega);obtain⟨j,hj⟩:=CT e0;rw[hj];refine⟨by omega,?_⟩;left;refine⟨by decide,λq1 bg=>⟨by decide,λq2 cn=>⟨by decide,λq3 ck=>.inr ⟨decide (w=0),rfl,?_⟩⟩⟩⟩;have cf:=Qc bg (.lst [V.str "base 7"]);have c2:=Qa (H:=H11) (a:=q1) (o:=.lst [V.str "base 7"]);generalize upd H11 q1 (.lst [V.str "base 7"])=H12 at *;have b6:=Qc cn (.lst [V.str "from 0 0 150"]);have bu:=Qa (H:=H12) (a:=q2) (o:=.lst [V.str "from 0 0 150"]);generalize upd H12 q2 (.lst [V.str "from 0 0 150"])=H13 at *;have aj:=Qc ck (.lst [V.ref q1,V.ref q2]);have bo:=Qa (H:=H13) (a:=q3) (o:=.lst [V.ref q1,V.ref q2]);generalize upd H13 q3 (.lst [V.ref q1,V.ref q2])=H14 at *;have gq:=(cf.trans b6).trans aj;obtain⟨pe,e,bp,ke,b9,c5,bz⟩:∃(pe:Addr) (e:Itm),IL [V.ref q1,V.ref q2] (if decide (w=0)=true then 1 else 0)=some (.ref pe)/\H14 pe=some (.lst [V.str (Row.itm e).tx])/\e.Ok/\(w=0->e.sl=1)/\(w≠0->e.sl=0):=by
   by_cases c0:w=0
   ·refine⟨q2,.term false 0 0 150,by rw[DZ (Ck c0)];rfl,?_,⟨⟨by decide,by decide⟩,by decide,by decide,by decide⟩,λ_=>rfl,λh=>absurd c0 h⟩;rw[show(Row.itm (.term false 0 0 150)).tx=Str.ofString "from 0 0 150" by decide +kernel];exact aj _ _ bu
   ·refine⟨q1,.base 7,by rw[DY (by rw[Ce c0];decide)];rfl,?_,⟨by decide,by decide⟩,λh=>absurd h c0,λ_=>rfl⟩;rw[show(Row.itm (.base 7)).tx=Str.ofString "base 7" by decide +kernel];exact(b6.trans aj) _ _ c2
  have gC:=gB.trans gq;have gD:=ai.trans gq;refine QA (AI bo) bp ⟨a,cls,3,rfl,rfl,gC.seq hL,by decide,?_⟩;left;refine⟨⟨by decide,(IB (m:=60) (by decide) (by decide)).mono (by decide)⟩,by decide,Qs (λ_=>?_) (λ_=>?_)⟩
  rotate_left
  ·exact ah _ la p3 gl _ w _ _ U ys J H14 rfl gC (gD _ _ a7) (gq _ _ k3) (gD _ _ a8) c8 u.x a6 h8 ak ar
  have au:j<=ys.length:=by omega
  have av:=gq _ _ k3;refine Zt (AI av) λq4 ba=>?_
  rw[show(1+(j:Int))=((j+1:Nat):Int) by omega,Wo,show(A2 (.kind (A0 ns 0)::((ys++[J]).map Row.itm))).take (j+1)=A2 (.kind (A0 ns 0)::((ys.take j).map Row.itm)) by
   show V.str _ :: (((ys++[J]).map Row.itm).map _).take j=_;rw [<-List.map_take,<-List.map_take,List.take_append_of_le_length au];rfl]
  have ax:=Qc ba (.lst (A2 (.kind (A0 ns 0)::((ys.take j).map Row.itm))));have k4:=Qa (H:=H14) (a:=q4) (o:=.lst (A2 (.kind (A0 ns 0)::((ys.take j).map Row.itm))));generalize upd H14 q4 (.lst (A2 (.kind (A0 ns 0)::((ys.take j).map Row.itm))))=H15 at *;refine Z8 ⟨q4,pe,_,_,rfl,rfl,k4,ax _ _ ke,Qq (by rw[D1,Cm,D1,CC];show _+1+1<=1000;omega),λq5 c6=>?_⟩;have c3:=Qc c6 (.lst (A2 (.kind (A0 ns 0)::((ys.take j).map Row.itm))++[V.str (Row.itm e).tx]));have k5:=Qa (H:=H15) (a:=q5) (o:=.lst (A2 (.kind (A0 ns 0)::((ys.take j).map Row.itm))++[V.str (Row.itm e).tx]));generalize upd H15 q5 (.lst (A2 (.kind (A0 ns 0)::((ys.take j).map Row.itm))++[V.str (Row.itm e).tx]))=H16 at *;have b2:=ax.trans c3;refine Zt (AI (b2 _ _ av)) λq6 c7=>?_
  rw[XS,show(A2 (.kind (A0 ns 0)::((ys++[J]).map Row.itm))).drop (j+1)=A2 ((ys.drop j++[J]).map Row.itm) by
   show (((ys++[J]).map Row.itm).map _).drop j=_;rw [<-List.map_drop,<-List.map_drop,List.drop_append_of_le_length au]]
  have b4:=Qc c7 (.lst (A2 ((ys.drop j++[J]).map Row.itm)));have k6:=Qa (H:=H16) (a:=q6) (o:=.lst (A2 ((ys.drop j++[J]).map Row.itm)));generalize upd H16 q6 (.lst (A2 ((ys.drop j++[J]).map Row.itm)))=H17 at *;refine Z8 ⟨q5,q6,_,_,rfl,rfl,b4 _ _ k5,k6,Qq (by rw[D0,D1,Cm,D1,CC,D1,D1,D0,Ag];show _+1+1+(_+1)<=1000;omega),λq7 bj=>?_⟩;have cm:=Qc bj (.lst (A2 (.kind (A0 ns 0)::((ys.take j).map Row.itm))++[V.str (Row.itm e).tx]++A2 ((ys.drop j++[J]).map Row.itm)));have az:=(b2.trans b4).trans cm;have gE:=gD.trans az;refine ah _ la q7 gl _ w _ _ U (ys.take j++e::ys.drop j) J _ rfl (gC.trans az) (gE _ _ a7) ?_ (gE _ _ a8) c8 (u.ins j b9 c5 bz) a6 h8 ak ar;rw[Qa];simp[A2]
 ·rw[DY c8];by_cases b8:w<13
  ·rw[DZ b8];refine⟨by decide,λp2 a4=>⟨⟨by decide,(IB (m:=60) (by decide) (by decide)).mono (by decide)⟩,?_⟩⟩;have g9:=Qc a4 (.lst []);have k2:=Qa (H:=H8) (a:=p2) (o:=.lst []);generalize upd H8 p2 (.lst [])=H9 at *;refine⟨w,_,b,ns,rfl,rfl,rfl,by omega,(gA.trans g9).seq hP,hl,nd,ok,λbl bt r' af a9 kb bx=>?_⟩;refine aa _ p2 bl gl _ w _ _ [] bt r'.tx af rfl ((gA.trans g9).trans a9) (a9 _ _ k2) (by rw[kb];simp[A2]) (Px bx) c8
  ·rw[DY b8];refine⟨a,cls,4,rfl,rfl,gA.seq hL,by decide,?_⟩;left;refine⟨by decide,Qs (λ_=>?_) (λ_=>?_)⟩
   ·refine Z8 ⟨gl,sl,_,_,rfl,rfl,a8,b0,Qq (AL rfl),λp3 a5=>?_⟩;have g9:=Qc a5 (.lst (A2 [.kind (A0 ns 0),.itm (.cnt (A0 ns 8) 1 3)]++[.str z]));have ia:YH [] [.cnt (A0 ns 8) 1 3]:=⟨⟨o 8 (by decide),by decide,by decide,by decide,by decide,by decide⟩,(λy hy=>by cases hy),trivial⟩
    obtain⟨ac,_⟩:=UD a6 (o 0 (by decide)) h8 ak ia;exact aa _ la p3 gl _ w _ _ U [.kind (A0 ns 0),.itm (.cnt (A0 ns 8) 1 3)] z _ rfl (gA.trans g9) (g9 _ _ a7) Qa ⟨ac,hz _ _,by rw[D0];show _+2<=80;omega⟩ c8
   ·exact aa _ la sl gl _ w _ _ U [] z _ rfl gA a7 b0 ⟨by rw[Cs];exact a6,hz _ _,by rw[Cs];omega⟩ c8
theorem iZ (T:Tx w K mg):GF P w K mg base 1 "_law_whole" ["_law_found"] (Sp1M Ip):=by
 refine Zf T 70 ["_law_found"] Xk λH Q J U h=>?_
 obtain⟨_,rfl,i,rfl,q⟩:=h;refine⟨_,(Qf (Qk (YS (Qw (LP K rfl) (by rfl) T.aD boot_isinstance (A3 (pu 0) (V2 T.aR boot_int))) (Jd (Rw (Qw (LP K rfl) (by rfl) T.aD boot_isinstance (A3 (pu 0) (V2 T.c7 boot_bool)))))))),?_⟩;left;exact q
theorem YN (h:A6 K H p (zs.map V.str)):Rep K H (.lst (zs.map D.str)) (.ref p):=.lst h (by rw[D1,D1]) λi d v U J=>by
 rw[Ct] at U J;obtain⟨z,hz,rfl⟩:=Cv.mp U;rw[hz] at J;cases J;exact .str _
theorem Nv:DB 30 (.lst (zs.map D.str)):=.lst λd hd=>by
 obtain⟨z,_,rfl⟩:=C8.mp hd;exact .str _
theorem GL:A2 rs=(rs.map Row.tx).map V.str:=by rw[Ah];rfl
theorem GI {d}(h1:Rep K H d (.ref p))(h2:Rep K H d (.ref r))(hd:DB 30 d)(q:Q (.bl false) H):sNe K (.ref p) (.ref r) H Q:=FJ h1 h2 hd (b:=true) ⟨λ_=>rfl,λ_=>rfl⟩ q
theorem GX {n:Int}(h:H p=some (.lst [.int n])):Rep K H (.lst [.int n]) (.ref p):=.lst (AI h) rfl λi d v U J=>by
 match i,U,J with
 | 0,U,J=>cases U;cases J;exact .int n
theorem HE {n:Int}:DB 30 (.lst [.int n]):=.lst λd hd=>by rw[D7.mp hd];exact .int n
theorem S9 (T:Tx w K mg){x q:Str}(F:Fun K x q (top 99) f fd):FnOk P w K mg base Ih 9 f fd ["_law_script"] (VT K):=by
 refine F.ok Sz (λvs H Q E h=>by obtain⟨_,rfl,_⟩:=h;rfl) (λcdv A outer s H vs Q E hr h=>?_);obtain⟨_,rfl,sc,J,rfl,hS,au,q⟩:=h;refine⟨_,(Qb (A5 1 (A7 (iP T) (A1 (A7 (aJ T) (A3 (pu 0) Qd))))) (Qb (Vc (A7 (iY T) (A3 (pu 0) (pu 1))) (jm (n:=2) K rfl rfl (QR (GE 2) (QR (GE 3) Xd)))) (Qb (A5 4 (Qg Qh (Qg Qh (pu 2) (Qn (A1 (pu 3)))) (A7 (iV T) (A1 (pu 0))))) (Qb (A5 5 (Qv (ZE K rfl) (by rfl) T.aF Ac (A1 (pu 4)))) (Qb (A5 6 (A7 (iS T) (A1 (pu 5)))) (Qb (Qr (PW.pt (YO (A8 (VM K) (pu 6) (Qn (A1 (IC K T.aB (pu 2))))) (YO (YD (Z5 (A7 (iZ T) (A1 (BM K 6))))) (YO (A8 (VM K) (pu 5) (pu 4)) (Wg (YD (Z5 (A7 (iU T) (A1 (pu 5)))))))))) (Qf (Qk Jf)) Ql) (Qb (A5 7 (A7 (bW T) (gu (QJ (IT K rfl) (pu 0) (QL Qd) (QL Qd)) (QJ (IT K rfl) (pu 1) Q8 (QL (Qg Qh Qd (Qg Qo (A7 (aJ T) (A3 (pu 0) Qd)) Qd)))) (Qn Qz) (Qn Qz)))) (Qf (Qk (jX (QM K) (A7 (iW T) (A1 (Qv (ZE K rfl) (by rfl) T.aF Ac (A1 (pu 7))))) (A7 (iX T) (A1 (pu 7))))))))))))),?_⟩;left;refine⟨sc,J,0,rfl,rfl,hS,by decide,?_⟩;refine⟨_,rfl,λnl ns H1 g1 _ aa nd ok hl=>?_⟩;left;refine⟨sc,nl,J,ns,rfl,rfl,g1.seq hS,au,AI aa,hl,nd,ok,λp l rs z H2 g2 kp kl hR=>?_⟩;have hT:=AJ (K:=K) kp;have b3:=hR.len;left;refine⟨by decide,λp1 aj=>?_⟩;have g3:=Qc aj (.lst [V.str z]);have k1:=Qa (H:=H2) (a:=p1) (o:=.lst [V.str z]);generalize upd H2 p1 (.lst [V.str z])=H3 at *;refine Z8 ⟨l,p1,_,_,rfl,rfl,g3 _ _ kl,k1,Qq (by rw[D1];show _+1<=1000;omega),λp2 b0=>?_⟩;have g4:=Qc b0 (.lst (A2 rs++[V.str z]));have k2:=Qa (H:=H3) (a:=p2) (o:=.lst (A2 rs++[V.str z]));generalize upd H3 p2 (.lst (A2 rs++[V.str z]))=H4 at *;have gA:=g1.trans (g2.trans (g3.trans g4));refine⟨sc,J,rfl,gA.seq hS,λp3 zr H5 g5 k3 b6=>?_⟩;refine Z8 ⟨p2,p3,_,_,rfl,rfl,g5 _ _ k2,k3,Qq (by rw[D0,D1,D1];show _+1+_<=1000;omega),λp4 av=>?_⟩;rw[show A2 rs++[V.str z]++zr.map V.str=((rs.map Row.tx)++z::zr).map V.str by rw[D9,<-GL,List.append_assoc];rfl];have g6:=Qc av (.lst (((rs.map Row.tx)++z::zr).map V.str));have k4:=Qa (H:=H5) (a:=p4) (o:=.lst (((rs.map Row.tx)++z::zr).map V.str));generalize upd H5 p4 (.lst (((rs.map Row.tx)++z::zr).map V.str))=H6 at *;refine⟨p4,_,rfl,.inl (AI k4),λph ak=>?_⟩;have g7:=Qc ak (.lst (((rs.map Row.tx)++z::zr).map V.str));have kh:=Qa (H:=H6) (a:=ph) (o:=.lst (((rs.map Row.tx)++z::zr).map V.str));generalize upd H6 ph (.lst (((rs.map Row.tx)++z::zr).map V.str))=H7 at *;have el:((rs.map Row.tx)++z::zr).map V.str=A2 rs++(z::zr).map V.str:=by rw[D9,<-GL]
 have a9:∀{H':Hp},Same H7 H'->A6 K H' ph (A2 rs++(z::zr).map V.str):=λ{H'} g=>by
  have:=AI (K:=K) (g _ _ kh);rw[el] at this;exact this
 refine⟨ph,rs,z,zr,rfl,a9 (AK _),hR,λpf H8 g8 kf=>?_⟩;have a5:=(g3.trans (g4.trans (g5.trans (g6.trans (g7.trans g8)))))
 refine Q0 (AI (a5 _ _ kl)) ⟨by decide,λp5 ar=>?_⟩;rw[D1];have g9:=Qc ar (.lst [V.int (rs.length:Nat)]);have k5:=Qa (H:=H8) (a:=p5) (o:=.lst [V.int (rs.length:Nat)]);generalize upd H8 p5 (.lst [V.int (rs.length:Nat)])=H9 at *;refine GI (GX (g9 _ _ kf)) (GX k5) HE ?_;left;refine QA (AI (g9 _ _ kf)) (v:=.int (rs.length:Nat)) rfl ⟨_,rfl,?_⟩;left;have a7:=g8.trans g9;refine GI (YN (AI (a7 _ _ kh))) (YN (AI ((g7.trans a7) _ _ k4))) Nv ?_;left;refine⟨ph,rs,z,zr,rfl,a9 a7,hR,λah a8=>?_⟩;left;have gB:=(g1.trans g2).trans ((a5.trans g9).trans a8);have a4:=gB.seq hS;have a6:=(g2.trans ((a5.trans g9).trans a8)) _ _ aa;refine Zt a4 λd hd=>?_
 rw[show ZW (J.map V.int) (some 14) (some 62)=((J.drop 14).take 48).map V.int by rw[List.map_take,List.map_drop];exact Vv _ 14 62];have ag:=Qc hd (.lst (((J.drop 14).take 48).map V.int));have kd:=Qa (H:=ah) (a:=d) (o:=.lst (((J.drop 14).take 48).map V.int));generalize upd ah d (.lst (((J.drop 14).take 48).map V.int))=H11 at *;refine⟨sc,J,6,rfl,rfl,ag.seq a4,by decide,?_⟩;left;have d0:=Ci (cl J 6) (show(8:Int)≠0 by decide);have d1:=Cq (cl J 6) (show(0:Int)<8 by decide);obtain⟨k,hk⟩:=CT (show 0<=1+cl J 6 % 8 by omega);refine⟨by decide,?_⟩;rw[hk];refine Zt (AI (ag _ _ a6)) λpl ae=>?_
 rw[Wo,<-List.map_take];have ai:=Qc ae (.lst ((ns.take k).map V.str));have ao:=Qa (H:=H11) (a:=pl) (o:=.lst ((ns.take k).map V.str));have ay:d≠pl:=Qi kd ae
 replace kd:=ai _ _ kd
 generalize upd H11 pl (.lst ((ns.take k).map V.str))=H12 at *;refine MI kd ao ay (by rw[CC];omega) (λz hz=>ok z (List.mem_of_mem_take hz)) (nd.sublist (List.take_sublist _ _)) (by rw[CC];omega) λr U ks cs as af b4 kr ri b1=>?_
 left;refine⟨r,_,rfl,.inl (AI kr),λpc az=>?_⟩;have ax:=Qc az (.lst (A2 U));have kc:=Qa (H:=af) (a:=pc) (o:=.lst (A2 U));generalize upd af pc (.lst (A2 U))=H14 at *;refine⟨pc,U,ks,cs,as,rfl,AI kc,ri.acc,ri.run,by omega,λpu b5 aw ku=>?_⟩;left;refine⟨r,U,ks,cs,as,rfl,AI ((ax.trans aw) _ _ kr),ri.acc,ri.run,by omega,λpg b2 aq kg=>?_⟩;refine PV (b:=true) (YN (AI (aq _ _ ku))) (YN (AI kg)) Nv ⟨λ_=>rfl,λ_=>rfl⟩ ?_;exact q _
end
theorem all_mk {l:W.OpenLaw}(T:Tx w K mg)(hfa:mg "law"=some (.ref fa)):∃fd:FuncData,(∀(s:Shared) (v:Value),BindsTo s fd ⟨[v],[]⟩ [("_law_script",v)])/\∀base:Heap,K.In base->base.Ns mainGlobals mg->FnOk l.prog w K mg base Ih 9 fa fd ["_law_script"] (VT K):=by
 obtain⟨x,q,f,fd,a,F⟩:=T.fG _ (Zl (i:=99) (a:=("law":Str)) rfl);have e:=hfa.symm.trans a;cases e;have F':=F;obtain⟨⟨oc,od,kV,doc,pm,an,cdv,ct,J,rfl,lk,U⟩,hk⟩:=F';exact⟨_,λs v=>.of_eq rfl,λbase _ _=>S9 T F⟩
theorem walk {l:W.OpenLaw}{q:Program}{d:DefRec}{K:Params->W.Frag}(hn:l.most=some 63)(hdf:d.params.defaults=[])
  (hY:∀(w:World) (h:Heap),YP w h->(K w.params).In h)
  (F:∀(w:World) (mg:Str->Option Value) (fa:Addr) (h:Heap),(K w.params).In h->h.Ns mainGlobals mg->mg d.name=some (.ref fa) ->
   ∃fd:FuncData,(∀(s:Shared) (u:Value),BindsTo s fd ⟨[u],[]⟩ [("_law_script",u)])/\∀base:Heap,(K w.params).In base->base.Ns mainGlobals mg->FnOk l.prog w (K w.params) mg base Ih 9 fa fd ["_law_script"] (VT (K w.params))) :
  W.WalkO q loose XP YP l.row.toRowW d [] (λf vs=>PySem.call f vs):=
 L2.walk_of (n:=63) (k:=9) (x:="_law_script") (CX:=λ_=>Ih) (sp:=λw=>VT (K w.params)) hn (by decide) hdf ⟨rfl,by decide,by decide⟩ hY F (λ_ _ a ns hl U J=>VS hl U J) λ_ _ _ _ _ z=>z
end My
local macro_rules | `(tactic| walk_at "ec") => `(tactic| first | exact L2.excCls_of (by k_is) (by k_is) (by k_is) (by k_is) (by k_is) (by k_is) | exact L2.xcls_of (by k_is) (by k_is) (by kernel_rfl) | exact L2.exm_of (by k_is) (by k_is) (by k_is) (by k_is))
open PySem PySem.W PyProof.Rows
set_option maxRecDepth 100000 in
set_option maxHeartbeats 0 in
theorem PySem.Challenge.cw_doletaper_k37_rows_refused_holds : PySem.Challenge.rw_doletaper_k37_rows_refused.Holds := by
 w_on;refine holds_law wsd λsaid=>?_
 refine W.holds_open (r:=PySem.Challenge.rw_doletaper_k37_rows_refused.row) (q:=My.hkV) (loose:=My.hkLo) (Xt:=λs=>xlAt My.hkV [] s&&recOk (RowW.records (OpenRow.toRowW PySem.Challenge.rw_doletaper_k37_rows_refused.row)) s) (XP:=XL My.hkV []) (Yf:=Hook.obs (kHook My.HK My.hkA My.hkA_eq)) (Ya:=Hook.val (kHook My.HK My.hkA My.hkA_eq)) (YP:=Hook.says (kHook My.HK My.hkA My.hkA_eq)) (N:=400000) My.hd_left (Hook.of (kHook My.HK My.hkA My.hkA_eq)) (Hook.keeps (kHook My.HK My.hkA My.hkA_eq)) (λs e=>xl_of s (Bool.and_eq_true_iff.mp e).1) XL.keeps (by rfl) (by rfl) (by rfl) (λs e=>recFacts_of (Bool.and_eq_true_iff.mp e).2) (by rfl) (by assumption) (by decide +kernel) ⟨rfl,rfl,rfl,rfl,rfl,by decide +kernel⟩ ?hw ?hc
 (case hw=>exact⟨[W.WData.list []],by kernel_rfl,by kernel_rfl⟩)
 k_fill
 refine My.walk (l:=PySem.Challenge.rw_doletaper_k37_rows_refused) rfl rfl (λw h Y=>W.kIn_of Y) ?F
 case F=>
  intro w mg fa h KX G hmg;have T:My.Tx w (My.HK w.params) mg:=by
   have mN {n}:=@W.mg_none_of _ _ _ n KX G;have mO {n v}:=@W.mg_of _ _ _ n v KX G;have fl {α:Type} {p:α->Prop} {a:α} {l:List α} (h:p a) (g:∀x∈l,p x):∀x∈a::l,p x:=List.forall_mem_cons.2 ⟨h,g⟩;constructor
   ·dsimp only[My.ixX]
    repeat' refine fl ?_ ?_
    any_goals first|exact λ_ h=>nomatch h|exact⟨_,_,_,_,by k_is,by k_is,L2.fun_mk (by k_is) (by kernel_rfl) (by k_is),by kernel_rfl,by k_is⟩
   ·dsimp only[My.ixG,List.flatten_cons,List.flatten_nil,List.cons_append,List.nil_append]
    repeat' refine fl ?_ ?_
    any_goals first|exact λ_ h=>nomatch h|exact⟨_,_,_,_,mO (by k_is),L2.fun_mk (by k_is) (by kernel_rfl) (by k_is)⟩
   ·dsimp only[My.ixM,List.flatten_cons,List.flatten_nil,List.cons_append,List.nil_append]
    repeat' refine fl ?_ ?_
    any_goals first|exact λ_ h=>nomatch h|exact⟨_,_,_,_,by k_is,by k_is,L2.fun_mk (by k_is) (by kernel_rfl) (by k_is),by k_is,by k_is⟩
   ·exact⟨_,_,_,_,_,_,_,_,_,_,_,_,_,by k_is,by k_is,by k_is,by kernel_rfl,by k_is,by k_is,by k_is,by k_is⟩
   all_goals first|exact mN (by k_is)|exact mO (by k_is)|exact⟨_,mO (by k_is),_,rfl⟩|(unfold L2.NoAttr;k_is)|walk_at "ec" | exact⟨by k_is,by k_is,by k_is,by k_is⟩|kit_is|k_exc|kernel_rfl|exact L2.ktup2 (mO (by k_is)) (by k_is)|refine⟨mO (by k_is),?_⟩
   all_goals first|exact L2.kds_of (l:=[("kind",_,.str "NAME" _),("base",_,.str "AMOUNT" _),("each",_,.str "AMOUNT LOW HIGH" _),("rent",_,.str "RATE MOST" _),("from",_,.str "MANY LOW HIGH" _),("upto",_,.str "MANY LOW HIGH" _),("pay",_,.str "RATE LOW HIGH" _),("counts",_,.str "NAME RATE" _),("off",_,.str "LIMIT RATE" _),("until",_,.str "LIMIT" _),("round",_,.str "UNIT WAY" _),("cap",_,.str "LIMIT EACH NAME" _)]) (by k_is) (by rfl) (by decide +kernel) (.cons ⟨rfl,_,rfl⟩ <| .cons ⟨rfl,_,rfl⟩ <| .cons ⟨rfl,_,rfl⟩ <| .cons ⟨rfl,_,rfl⟩ <| .cons ⟨rfl,_,rfl⟩ <| .cons ⟨rfl,_,rfl⟩ <| .cons ⟨rfl,_,rfl⟩ <| .cons ⟨rfl,_,rfl⟩ <| .cons ⟨rfl,_,rfl⟩ <| .cons ⟨rfl,_,rfl⟩ <| .cons ⟨rfl,_,rfl⟩ <| .cons ⟨rfl,_,rfl⟩ <| .nil) (by decide)|exact L2.kds_of (l:=[("base",_,.str "parts" _),("each",_,.str "parts" _),("rent",_,.str "parts" _),("from",_,.str "terms" _),("upto",_,.str "terms" _),("pay",_,.str "pays" _),("counts",_,.str "counts" _),("off",_,.str "offs" _),("until",_,.str "untils" _),("round",_,.str "rounds" _)]) (by k_is) (by rfl) (by decide +kernel) (.cons ⟨rfl,_,rfl⟩ <| .cons ⟨rfl,_,rfl⟩ <| .cons ⟨rfl,_,rfl⟩ <| .cons ⟨rfl,_,rfl⟩ <| .cons ⟨rfl,_,rfl⟩ <| .cons ⟨rfl,_,rfl⟩ <| .cons ⟨rfl,_,rfl⟩ <| .cons ⟨rfl,_,rfl⟩ <| .cons ⟨rfl,_,rfl⟩ <| .cons ⟨rfl,_,rfl⟩ <| .nil) (by decide)|exact L2.kds_of (l:=[("parts",_,.int 6 _),("terms",_,.int 6 _),("pays",_,.int 4 _),("offs",_,.int 6 _),("untils",_,.int 1 _),("rounds",_,.int 1 _)]) (by k_is) (by rfl) (by decide +kernel) (.cons ⟨rfl,_,rfl⟩ <| .cons ⟨rfl,_,rfl⟩ <| .cons ⟨rfl,_,rfl⟩ <| .cons ⟨rfl,_,rfl⟩ <| .cons ⟨rfl,_,rfl⟩ <| .cons ⟨rfl,_,rfl⟩ <| .nil) (by decide)|exact L2.kts_of (by k_is) (by decide) (.cons ⟨_,rfl⟩ <| .cons ⟨_,rfl⟩ <| .nil)|exact L2.kts_of (by k_is) (by decide) (.cons ⟨_,rfl⟩ <| .cons ⟨_,rfl⟩ <| .cons ⟨_,rfl⟩ <| .nil)
  exact My.all_mk T hmg
