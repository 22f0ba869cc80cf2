import PyProof.Rows.All
import Wide.All
import OpenK.AllK
import Wide.FinOn
import Lean
import PyProof.EqAt
import PyProof.EqKinds
import PyProof.TupleCall
import PyProof.FString
import PyProof.Rows.SetFrom
import PySem.Challenge.RW_doletaper_k46_whole_order
set_option Elab.async false
set_option compiler.extract_closed false
set_option linter.all false
set_option maxRecDepth 100000
set_option maxHeartbeats 4000000
open PySem
variable {f a p it e l C dx d ea L:Addr}{x y qual nm:Str}{cs:List (Str×Rat)}{s:Shared}{w:World}{M:Model}{pos px py:Pos}{n t' i m:Nat}{os:List (Int×Rat)}{b t j lo:Int}{loose N ps nms S ss kn part:List Str}{α β:Type}{us its:List Value}{u doc pm cdv ct oc cls:Value}{P prog:Program}{h base h':Heap}{ch fp ex:List Addr}{A:Around}{E:Value->Shared->Prop}{pins:List (Addr×Obj)}{op:CmpOp}{K:W.Frag}{st:Stmt}{es ifs:List Expr}{tg iter elt:Expr}{body:List Stmt}{pl:Sem Bool}{mA mg:Str->Option Value}{ns:List Int}{kw:List (Str×Value)}{env:Env}{fd:FuncData}{outer:List Env}{scope:Scope}{an od:Option Addr}{T:String}{caps:List (Option Nat)}{gg:Str->Nat}
def Fk:=@wpAny_bind
def Fl:=@if_neg
def Fo:=@List.length_map
def Fs:=@if_pos
def Ft:=@Nat.le_refl
def Fu:=@List.getElem?_eq_getElem
def Fv:=@List.length_append
def Fw:=@wpAny_pure
def Fx:=@List.getElem?_map
def Fy:=@Heap.lt_size
def Fz:=@List.map_append
def FA:=@List.take_add_one
def FC:=@List.take_length
def FD:=@List.mem_of_getElem?
def FE:=@List.mem_singleton
def FF:=@Option.some.inj
def FG:=@Heap.get?_push_of_some
def FH:=@List.length_singleton
def FI:=@Nat.ne_of_lt
def FJ:=@Bool.eq_false_iff
def FK:=@List.mem_map
def FL:=@PassesOwn.never
def FM:=@Nat.lt_irrefl
def FN:=@List.size_toArray
def FO:=@Option.map_eq_some_iff
def FP:=@Nat.lt_of_lt_of_le
def FQ:=@Nat.le_trans
def FR:=@List.mem_append
def FS:=@List.mem_cons
def FT:=@Bool.false_ne_true
def FU:=@Int.emod_nonneg
def FV:=@wpAny_mono
def FW:=@Int.emod_lt_of_pos
def FX:=@List.length_take
def FY:=@Heap.get?_push_size
def FZ:=@Nat.zero_le
def F0:=@Bool.eq_iff_iff
def F1:=@List.mem_filter
def F3:=@PySem.F.plainAttrs_list
def F4:=@List.mem_append_right
def F5:=@List.map_cons
def F6:=@decide_eq_false
def F7:=@PySem.F.slot_list_append
def F8:=@PySem.F.type_list_append
def F9:=@List.mem_cons_of_mem
def Ea:=@List.mem_cons_self
def Eb:=@Ne.symm
def Ec:=@List.append_nil
def Ed:=@List.getElem?_append_right
def Ee:=@List.getElem?_of_mem
def Ef:=@List.getD_eq_getElem?_getD
def Eg:=@PyProof.Rows.boot_list
def Eh:=@boot_len
def Ei:=@List.getElem?_append_left
def Ej:=@List.getElem?_eq_none
def El:=@List.map_map
def Em:=@decide_eq_true_eq
def En:=@List.length_cons
def Eo:=@Bool.and_eq_true
def Ep:=@Nat.lt_of_le_of_lt
def Er:=@Nat.sub_self
def Es:=@List.map_id
def Et:=@List.length_drop
def Eu:=@List.all_eq_true
def Ew:=@Int.zero_add
def Ex:=@Classical.byContradiction
def Ey:=@List.length_filter_le
def Ez:=@List.mem_append_left
def EA:=@Nat.le_succ
def EB:=@List.nodup_cons
def EC:=@decide_eq_true
def ED:=@List.filter_append
def EE:=@List.ext_getElem?
def EF:=@sizeLine_eq
def EG:=@PySem.mem_of_lookup
def EH:=@Int.natAbs_mul
def EI:=@Int.eq_ofNat_of_zero_le
def EJ:=@List.getElem?_eq_some_iff
def EK:=@wpAny_truthy_bool
def EL:=@Bool.and_false
def EM:=@decide_eq_true_iff
def EN:=@Int.mul_assoc
def EO:=@Bool.not_eq_true'
def ER:=@List.nodup_append
def ES:=@List.take_append_drop
def ET:=@List.filter_cons_of_pos
def EU:=@List.filter_cons_of_neg
def EV:=@Option.map_some
def EW:=@codeAny_mono
def EX:=@List.take_of_length_le
def EY:=@Nat.lt_or_ge
def EZ:=@Heap.get?_update_of_ne
def E3:=@List.filter_nil
def E4:=@List.getElem?_take
def E5:=@List.getElem?_cons_succ
def E6:=@wpAny_passesOwn
def E7:=@wpAny_Call_Name_kw
def E8:=@decide_eq_false_iff_not
def E9:=@List.length_range
def Da:=@Nat.mod_eq_of_lt
def Dc:=@Nat.le_of_lt
def Dd:=@wpAny_execs_nil
def De:=@Nat.lt_succ_self
def Df:=@Classical.choose_spec
def Dg:=@Int.mul_ne_zero
def Dh:=@List.find?_cons
def Di:=@List.getElem_map
def Dj:=@List.flatten_append
def Dk:=@List.filter_sublist
def Dm:=@List.getElem?_range
def Dn:=@Int.gcd_dvd_right
def Do:=@Rat.num_divInt_den
def Dp:=@of_decide_eq_true
def Dq:=@List.length_eq_zero_iff
def Dr:=@List.mem_of_find?_eq_some
def Ds:=@List.find?_some
def Dt:=@PyProof.Rows.callWith_type1
def Du:=@Heap.get?_update_self
def Dv:=@List.getElem?_eq_none_iff
def Dw:=@List.nodup_nil
def Dx:=@List.pairwise_singleton
def Dy:=@List.find?_eq_none
def Dz:=@Nat.ne_of_gt
def DA:=@plainObj_wpAny_Assign_Attribute
def DC:=@Nat.not_lt
def DD:=@Nat.le_antisymm
def DE:=@List.filter_eq_nil_iff
def DF:=@List.getElem?_cons_zero
def DG:=@List.length_pos_iff
noncomputable section
namespace Hd
open PySem PySem.W PySem.Calls PyProof.Rows
section
variable {α β:Type}
def ap (k:α->β) (x:α):β:=k x
def fB (b:Bool) (k:Bool->β):β:=@Bool.rec (fun _=>β) (ap k false) (ap k true) b
theorem Ry (b:Bool) (k:Bool->β):fB b k=k b:=by cases b <;> rfl
def fN (n:Nat) (k:Nat->β):β:=@Nat.rec (fun _=>β) (ap k 0) (fun m _=>ap k (Nat.succ m)) n
theorem Yi (n:Nat) (k:Nat->β):fN n k=k n:=by cases n <;> rfl
def fL (f:α->(α->β)->β) (l:List α):(List α->β)->β:=
 @List.rec α (fun _=>(List α->β)->β) (fun k=>ap k []) (fun a _ ih k=>f a fun a'=>ih fun l'=>ap k (a' :: l')) l
theorem Gw {f:α->(α->β)->β}(hf:∀ a k,f a k=k a):∀ (l:List α) (k:List α->β),fL f l k=k l
 | [],_=>rfl
 | a :: l,k=>by show f a (fun a'=>fL f l fun l'=>ap k (a' :: l'))=_;rw [hf,Gw hf l];rfl
def fA (f:α->(α->β)->β) (x:Array α) (k:Array α->β):β:=@Array.rec α (fun _=>β) (fun l=>fL f l fun l'=>ap k ⟨l'⟩) x
theorem VY {f:α->(α->β)->β}(hf:∀ a k,f a k=k a) (x:Array α) (k:Array α->β):fA f x k=k x:=by
 cases x with | mk l=>exact Gw hf l _
def fO (f:α->(α->β)->β) (x:Option α) (k:Option α->β):β:=@Option.rec α (fun _=>β) (ap k none) (fun a=>f a fun a'=>ap k (some a')) x
theorem Gv {f:α->(α->β)->β}(hf:∀ a k,f a k=k a) (x:Option α) (k:Option α->β):fO f x k=k x:=by
 cases x with
 | none=>rfl
 | some a=>exact hf a _
def fV (v:Value) (k:Value->β):β:=@Value.rec (fun _=>β) (ap k .none) (ap k .ellipsis) (ap k .notImplemented) (fun b=>fB b fun b=>ap k (.bool b)) (fun i t=>fN t fun t=>ap k (.int i t)) (fun i t=>ap k (.float i t))
 (fun s t=>fN t fun t=>ap k (.str s t)) (fun b t=>ap k (.bytes b t)) (fun s=>ap k (.type s)) (fun s=>ap k (.builtin s)) (fun a=>fN a fun a=>ap k (.ref a)) v
theorem YC (v:Value) (k:Value->β):fV v k=k v:=by
 cases v <;> first | rfl | exact Ry _ _ | exact Yi _ _
def fE (e:DictEntry) (k:DictEntry->β):β:=@DictEntry.rec (fun _=>β) (fun h a b=>fV a fun a=>fV b fun b=>ap k ⟨h,a,b⟩) e
theorem S5 (e:DictEntry) (k:DictEntry->β):fE e k=k e:=by
 cases e with | mk h a b=>show fV a _=_;rw [YC,YC];rfl
def fF (f:FuncData) (k:FuncData->β):β:=@FuncData.rec (fun _=>β) (fun nm qn pa bo sc gl cl de kw doc pm an cd ct bu=>fN gl fun gl=>fV de fun de=>fV kw fun kw=>fV doc fun doc=>fV pm fun pm=>fO fN an fun an=>fV cd fun cd=>fV ct fun ct=>fN bu fun bu=>ap k ⟨nm,qn,pa,bo,sc,gl,cl,de,kw,doc,pm,an,cd,ct,bu⟩) f
theorem S4 (f:FuncData) (k:FuncData->β):fF f k=k f:=by
 cases f;show fN _ _=_;simp only [Yi,YC,Gv Yi];rfl
def fC (c:ClassData) (k:ClassData->β):β:=@ClassData.rec (fun _=>β) (fun nm ba mr ns qn hd sl su ab co de=>fL fV ba fun ba=>fL fV mr fun mr=>fN ns fun ns=>fB hd fun hd=>fL fV su fun su=>fB ab fun ab=>fB de fun de=>ap k ⟨nm,ba,mr,ns,qn,hd,sl,su,ab,co,de⟩) c
theorem S7 (c:ClassData) (k:ClassData->β):fC c k=k c:=by
 cases c;show fL _ _ _=_;simp only [Yi,Ry,Gw YC];rfl
def fD (d:Data) (k:Data->β):β:=@Data.rec (fun _=>β) (ap k .plain) (fun v=>fV v fun v=>ap k (.prim v)) (fun x n=>fA fV x fun x=>fN n fun n=>ap k (.seq x n)) (fun x n=>fA fE x fun x=>fN n fun n=>ap k (.dict x n))
 (fun x n t=>ap k (.set x n t)) (fun b n=>ap k (.bytearray b n)) (fun v=>fO fV v fun v=>ap k (.cell v)) (fun f=>fF f fun f=>ap k (.func f)) (fun c=>fC c fun c=>ap k (.cls c)) (fun x=>fA fV x fun x=>ap k (.fields x)) (ap k .freed) d
theorem S6 (d:Data) (k:Data->β):fD d k=k d:=by
 cases d with
 | plain | set | bytearray | freed=>rfl
 | prim v=>exact YC _ _
 | seq x n=>show fA fV _ _=_;rw [VY YC,Yi];rfl
 | dict x n=>show fA fE _ _=_;rw [VY S5,Yi];rfl
 | cell v=>exact Gv YC _ _
 | func f=>exact S4 _ _
 | cls f=>exact S7 _ _
 | fields f=>exact VY YC _ _
def fObj (o:Obj) (k:Obj->β):β:=@Obj.rec (fun _=>β) (fun c d x s=>fV c fun c=>fO fN d fun d=>fD x fun x=>fA (fO fV) s fun s=>ap k ⟨c,d,x,s⟩) o
theorem Vm (o:Obj) (k:Obj->β):fObj o k=k o:=by
 cases o;show fV _ _=_;rw [YC,Gv Yi,S6,VY (Gv YC)];rfl
def fT (t:BT):(BT->β)->β:=@BT.rec (fun _=>(BT->β)->β) (fun k=>ap k .nil) (fun v _ _ l r k=>fObj v fun v=>l fun l=>r fun r=>ap k (.node v l r)) t
theorem MW:∀ (t:BT) (k:BT->β),fT t k=k t
 | .nil,_=>rfl
 | .node v l r,k=>by show fObj v (fun v=>fT l fun l=>fT r fun r=>ap k (.node v l r))=_;rw [Vm,MW l,MW r];rfl
def fP (p:Pos) (k:Pos->β):β:=@Pos.rec (fun _=>β) (fun a b c d=>fN a fun a=>fN b fun b=>fN c fun c=>fN d fun d=>ap k ⟨a,b,c,d⟩) p
theorem S2 (p:Pos) (k:Pos->β):fP p k=k p:=by
 cases p;show fN _ _=_;simp only [Yi];rfl
def fS (s:SharedT) (k:SharedT->β):β:=@SharedT.rec (fun _=>β) (fun t n li g d tk os=>fT t fun t=>fN n fun n=>fN tk fun tk=>ap k ⟨t,n,li,g,d,tk,os⟩) s
theorem Rx (s:SharedT) (k:SharedT->β):fS s k=k s:=by
 cases s;show fT _ _=_;rw [MW,Yi,Yi];rfl
def fH (s:Shared) (k:Shared->β):β:=@Shared.rec (fun _=>β) (fun h g d tk os=>@Heap.rec (fun _=>β) (fun x li=>fA fObj x fun x=>fN tk fun tk=>ap k ⟨⟨x,li⟩,g,d,tk,os⟩) h) s
theorem S3 (s:Shared) (k:Shared->β):fH s k=k s:=by
 cases s with | mk h=>cases h;show fA _ _ _=_;rw [VY Vm,Yi];rfl
end
def sp {α:Type}:List α->List α×List α
 | []=>([],[])
 | x :: xs=>(x :: (sp xs).2,(sp xs).1)
theorem U6 {α:Type}:∀ (l:List α) (i:Nat),(sp l).1[i]?=l[2*i]?/\(sp l).2[i]?=l[2*i+1]?
 | [],i=>by simp [sp]
 | x :: xs,i=>by
  obtain ⟨a,b⟩:=U6 xs i;constructor
  ·cases i with
   | zero=>rfl
   | succ j=>show (sp xs).2[j]?=_;rw [(U6 xs j).2,show 2*(j+1)=2*j+1+1 by omega,E5]
  ·show (sp xs).1[i]?=_;rw [a,E5]
theorem Rf {α:Type}:∀ (l:List α),(sp l).1.length<=l.length/\(sp l).2.length<=l.length
 | []=>by simp [sp]
 | x :: xs=>by
  obtain ⟨a,b⟩:=Rf xs;constructor <;> simp [sp] <;> omega
def JM:Nat->List Obj->BT
 | 0,_=>.nil
 | _+1,[]=>.nil
 | n+1,x :: xs=>.node x (JM n (sp xs).1) (JM n (sp xs).2)
theorem WR:∀ (n:Nat) (l:List Obj),l.length<=n->∀ i,(JM n l).get i=l[i]?
 | 0,l,h,i=>by
  have:l=[]:=List.eq_nil_of_length_eq_zero (by omega);subst this;simp [JM,BT.get]
 | n+1,[],h,i=>by simp [JM,BT.get]
 | n+1,x :: xs,h,i=>by
  have hs:=Rf xs;have h':xs.length<=n:=by simpa using h
  rw [JM,BT.get_node,WR n _ (by omega),WR n _ (by omega),(U6 xs _).1,(U6 xs _).2];by_cases h0:i=0
  ·subst h0;rfl
  ·rw [Fl h0];obtain ⟨j,rfl⟩:∃ j,i=j+1:=⟨i-1,by omega⟩
   rw [E5];by_cases h1:(j+1) % 2=1
   ·rw [Fs h1,show 2*((j+1) / 2)=j by omega]
   ·rw [Fl h1,show 2*((j+1) / 2-1)+1=j by omega]
theorem Bq (l:List Obj) (t:BT) (h:∀ i,t.get i=l[i]?):t.list l.length=l:=by
 unfold BT.list;apply EE;intro i;rw [Fx];by_cases hi:i<l.length
 ·rw [Dm hi,EV,h,Fu hi];rfl
 ·rw [Ej (by simpa using hi),Ej (by omega)];rfl
def toT (s:Shared):SharedT:=⟨JM s.heap.objs.toList.length s.heap.objs.toList,s.heap.objs.toList.length,s.heap.life,s.gens,s.drawn,s.toks,s.os⟩
theorem LF (s:Shared):(toT s).abs=s:=by
 obtain ⟨⟨⟨l⟩,li⟩,g,d,tk,os⟩:=s;show (⟨absHeap _ _ _,_,_,_,_⟩:Shared)=_;simp only [toT,absHeap];rw [Bq l _ (WR _ l (Ft _))]
section
variable {β:Type}
def stp (x:Option (Flow×SharedT×Code×Pos)) (k:SharedT->Code->Pos->Option β):Option β:=match x with
 | some (.next,s,c,p)=>k s c p
 | _=>none
def go (seg:List Stmt->SharedT->Pos->Option (Flow×SharedT×Code×Pos)) (gs:List (List Stmt)):List Code->SharedT->Pos->(List Code->SharedT->Pos->Option β)->Option β:=
 @List.rec (List Stmt) (fun _=>List Code->SharedT->Pos->(List Code->SharedT->Pos->Option β)->Option β) (fun cs s p k=>k cs s p)
  (fun g _ ih cs s p k=>stp (seg g s p) fun s c p=>fS s fun s=>fP p fun p=>ih (c :: cs) s p k) gs
theorem VF {x:Option (Flow×SharedT×Code×Pos)}{k:SharedT->Code->Pos->Option β}{a:β}(h:stp x k=some a):∃ s c p,x=some (.next,s,c,p)/\k s c p=some a:=by
 unfold stp at h;split at h
 ·exact ⟨_,_,_,rfl,h⟩
 ·cases h
theorem Gj {seg:List Stmt->SharedT->Pos->Option (Flow×SharedT×Code×Pos)}{g:List Stmt}{gs:List (List Stmt)}{cs:List Code}{s:SharedT}{p:Pos}{k:List Code->SharedT->Pos->Option β} :
  go seg (g :: gs) cs s p k=stp (seg g s p) fun s c p=>go seg gs (c :: cs) s p k:=by
 show stp (seg g s p) (fun s c p=>fS s fun s=>fP p fun p=>go seg gs (c :: cs) s p k)=_
 congr 1;funext s c p;rw [Rx,S2]
theorem MI {seg:List Stmt->SharedT->Pos->Option (Flow×SharedT×Code×Pos)}{k:List Code->SharedT->Pos->Option (List Code×β)}{a:List Code×β}(hk:∀ cs s p,k cs s p=some a->a.1=cs) :
  ∀ (gs:List (List Stmt)) (cs:List Code) (s:SharedT) (p:Pos),go seg gs cs s p k=some a->∀ d∈cs,d∈a.1
 | [],cs,s,p,h,d,hd=>by rw [hk cs s p h];exact hd
 | g :: gs,cs,s,p,h,d,hd=>by
  rw [Gj] at h;obtain ⟨s',c',p',_,h2⟩:=VF h;exact MI hk gs _ s' p' h2 d (F9 _ hd)
variable {tb:String->Option Builtin} {p:Program} {w:World} {n₀:Nat} {ann:Option Value} {env:Env} {q:Pos}
theorem Rv {F M:Nat}{c:Code}{Z:Shared->Prop}{k:List Code->SharedT->Pos->Option (List Code×β)}{a:List Code×β}(hk:∀ cs s p,k cs s p=some a->a.1=cs) (hc:∀ d∈a.1,d=c)
  (fin:∀ cs s pos,k cs s pos=some a->∃ r,topRun tb p w n₀ ann M s.abs (restOf [] env c pos [topFrame q])=some r/\Z r) :
  ∀ (gs:List (List Stmt)) (cs:List Code) (s:SharedT) (pos:Pos),go (fun g s pos=>segRunT tb p w n₀ ann 1 F s (piecesOf g env c pos [topFrame q])) gs cs s pos k=some a ->
   ∃ r,topRun tb p w n₀ ann (gs.length*F+M) s.abs (restOf gs.flatten env c pos [topFrame q])=some r/\Z r
 | [],cs,s,pos,h=>by
  obtain ⟨r,h1,h2⟩:=fin cs s pos h;exact ⟨r,by simpa using h1,h2⟩
 | g :: gs,cs,s,pos,h=>by
  rw [Gj] at h;obtain ⟨s',c',p',h1,h2⟩:=VF h;have hc':c'=c:=hc _ (MI hk gs _ s' p' h2 c' (.head _));subst hc';obtain ⟨r,h3,h4⟩:=Rv hk hc fin gs _ s' p' h2;refine ⟨r,?_,h4⟩;have:=piece_app (rest:=gs.flatten) (segRun_of h1) h3;rw [List.flatten_cons,show (g :: gs).length*F+M=F+(gs.length*F+M) by rw [En,Nat.add_mul];omega];exact this
end
def WZ {α:Type}(c:Nat):Nat->List α->List (List α)
 | 0,l=>[l]
 | _+1,[]=>[]
 | n+1,x :: xs=>(x :: xs.take c) :: WZ c n (xs.drop c)
theorem JK {α:Type}(c:Nat):∀ (n:Nat) (l:List α),(WZ c n l).flatten=l
 | 0,l=>by simp [WZ]
 | n+1,[]=>rfl
 | n+1,x :: xs=>by rw [WZ,List.flatten_cons,JK c n];simp
def env0 (p:Program):Env:={ scope:=p.main.scope,locals:=mainNs,globals:=mainNs,cells:=[],code:=.ref 13,frame:=some 14 }
def Wk (p:Program):Code:=.body (behindTheImports p) (env0 p)
abbrev KW:Pos:=⟨0,0,0,0⟩
noncomputable abbrev start0 (P:Params) (os:OsState):Shared:=⟨boot_heap P,Array.mk [],boot_drawn,boot_toks,os⟩
section
variable {β:Type}
def fin0 (p:Program) (w:World) (M:Nat) (look:Shared->β) (cs:List Code) (s:SharedT) (pos:Pos):Option (List Code×β):=
 fL fObj (s.tree.list s.n) fun l=>match topRun treeTable p w 11 (some (.ref 6)) M ⟨⟨⟨l⟩,s.life⟩,s.gens,s.drawn,s.toks,s.os⟩ (restOf [] (env0 p) (Wk p) pos [topFrame KW]) with
 | some r=>fH r fun r=>some (cs,look r)
 | none=>none
theorem Gp {p:Program}{M:Nat}{look:Shared->β}{cs:List Code}{s:SharedT}{a:List Code×β}(h:fin0 p w M look cs s pos=some a) :
  a.1=cs/\∃ r,topRun treeTable p w 11 (some (.ref 6)) M s.abs (restOf [] (env0 p) (Wk p) pos [topFrame KW])=some r/\look r=a.2:=by
 unfold fin0 at h;rw [Gw Vm] at h;have e:(⟨⟨⟨s.tree.list s.n⟩,s.life⟩,s.gens,s.drawn,s.toks,s.os⟩:Shared)=s.abs:=rfl;rw [e] at h;split at h
 ·rename_i r hr;rw [S3] at h;cases h;exact ⟨rfl,r,hr,rfl⟩
 ·cases h
def answer (p:Program) (c F M:Nat) (look:Shared->β) (w:World) (os:OsState):Option (Thread×Code×Pos×List Code×β):=
 match topGo treeTable p w 11 (some (.ref 6)) 12 (start0 w.params os) (topStub p) with
 | some (sa,ta)=>match segRun treeTable p w 11 (some (.ref 6)) 1 1 sa (blockOf (behindTheImports p) (env0 p) (Wk p) KW [topFrame KW]) with
  | some (.next,sb,cb,pb)=>(fS (toT sb) fun st=>go (fun g s pos=>segRunT treeTable p w 11 (some (.ref 6)) 1 F s (piecesOf g (env0 p) (Wk p) pos [topFrame KW])) (WZ c 200 (behindTheImports p)) [] st pb (fin0 p w M look)).map fun a=>(ta,cb,pb,a)
  | _=>none
 | none=>none
def answer0 (p:Program) (n:Nat) (b:β):Option (Thread×Code×Pos×List Code×β):=some (⟨denote treeTable (Wk p),Wk p,KW,[topFrame KW]⟩,Wk p,KW,List.replicate n (Wk p),b)
theorem Xd {p:Program}{c F M:Nat}{look:Shared->β}{os:OsState}{b:β}(h:answer p c F M look w os=answer0 p n b) :
  ∃ r,topRun treeTable p w 11 (some (.ref 6)) (12+(1+((WZ c 200 (behindTheImports p)).length*F+M))) (start0 w.params os) (topStub p)=some r/\look r=b:=by
 unfold answer answer0 at h;split at h
 ·rename_i sa ta hg;split at h
  ·rename_i sb cb pb hs;rw [Rx] at h;obtain ⟨a,h1,h2⟩:=FO.mp h;simp only [Prod.mk.injEq] at h2;obtain ⟨rfl,rfl,rfl,h3,h4⟩:ta=_/\cb=_/\pb=_/\a.1=_/\a.2=_:=by
    obtain ⟨x1,x2,x3,x4⟩:=h2;exact ⟨x1,x2,x3,congrArg Prod.fst x4,congrArg Prod.snd x4⟩
   obtain ⟨r,k1,k2⟩:=Rv (Z:=fun r=>look r=a.2) (c:=Wk p) (q:=KW) (env:=env0 p) (fun cs s p e=>(Gp e).1) (fun d hd=>List.eq_of_mem_replicate (h3 ▸ hd)) (fun cs s pos e=>(Gp e).2) _ _ _ _ h1;rw [LF,JK] at k1;exact ⟨r,go_top hg (piece_block hs k1),k2.trans h4⟩
  ·cases h
 ·cases h
end
theorem left_ok6 {p q:Program}{Xt:Shared->Bool}{Yf:Shared->α}{Ya:World->α}{N c F M:Nat}(e:opening p=plainProg p.main.scope.names) (hN:Nat.ble 600 N=true) (f:∀ s,fenceModules? p s=some s)
  (size:∀ w:World,((boot_heap w.params).isNs mainGlobals&&(Array.mk []:Array GenState).size == 0,(boot_heap w.params).objs.size,(boot_heap w.params).nsMap mainGlobals "__annotations__")=(true,11,some (Value.ref 6)))
  (ans:∀ (w:World) (os:OsState),answer p c F M (fun s=>((staticsOk (importedModules p.main.body) (boot_heap w.params) s.heap&&namesBound p s.heap&&gensDone s&&laidKept (boot_heap w.params) s.heap),Yf s)) w os=answer0 p n (true,Ya w))
  (ans2:∀ (w:World) (os:OsState),answer p c F M (fun s=>(openSeen q loose (importedModules p.main.body) Xt true s).1) w os=answer0 p n (openGood q loose).1)
  (ans3a:∀ (w:World) (os:OsState),answer p c F M (fun s=>(openSeen q loose (importedModules p.main.body) Xt true s).2.1) w os=answer0 p n (openGood q loose).2.1)
  (ans3b:∀ (w:World) (os:OsState),answer p c F M (fun s=>(openSeen q loose (importedModules p.main.body) Xt true s).2.2.1) w os=answer0 p n (openGood q loose).2.2.1)
  (ans3c:∀ (w:World) (os:OsState),answer p c F M (fun s=>(openSeen q loose (importedModules p.main.body) Xt true s).2.2.2.1) w os=answer0 p n (openGood q loose).2.2.2.1)
  (ans4:∀ (w:World) (os:OsState),answer p c F M (fun s=>(openSeen q loose (importedModules p.main.body) Xt true s).2.2.2.2) w os=answer0 p n (openGood q loose).2.2.2.2) (le:Nat.ble (12+(1+((WZ c 200 (behindTheImports p)).length*F+M))) N=true):LeftO p q loose Xt Yf Ya N:=fun w=>by
 obtain ⟨⟨h,gs,d,k,os⟩,e1,e2⟩:=FO.mp (boot_open e hN f w);obtain ⟨rfl,rfl,rfl,rfl⟩:h=boot_heap w.params/\gs=Array.mk []/\d=boot_drawn/\k=boot_toks:=by simpa using e2
 obtain ⟨z1,z2,z3⟩:_/\_/\_:=by simpa only [Prod.mk.injEq] using size w
 obtain ⟨r,h1,h2⟩:=Xd (ans w os);simp only [Prod.mk.injEq] at h2;obtain ⟨l1,l3⟩:=h2;obtain ⟨r',h1',h2'⟩:=Xd (ans2 w os);obtain ⟨ra,ha1,ha2⟩:=Xd (ans3a w os);obtain ⟨rb,hb1,hb2⟩:=Xd (ans3b w os);obtain ⟨rc,hc1,hc2⟩:=Xd (ans3c w os);obtain ⟨r3,h3,h4⟩:=Xd (ans4 w os);rw [FF (h1'.symm.trans h1)] at h2';rw [FF (ha1.symm.trans h1)] at ha2;rw [FF (hb1.symm.trans h1)] at hb2;rw [FF (hc1.symm.trans h1)] at hc2;rw [FF (h3.symm.trans h1)] at h4;have l2:openSeen q loose (importedModules p.main.body) Xt true r=openGood q loose:=Prod.ext h2' (Prod.ext ha2 (Prod.ext hb2 (Prod.ext hc2 h4)));have r1:=topRun_mono (N-(12+(1+((WZ c 200 (behindTheImports p)).length*F+M)))) _ _ _ _ h1;rw [Nat.add_sub_cancel' (Nat.le_of_ble_eq_true le)] at r1;have t:topFrom treeTable p w N ⟨boot_heap w.params,Array.mk [],boot_drawn,boot_toks,os⟩=some r:=by
  unfold topFrom;rw [z1];simp only;rw [z2,z3,r1];simp only [Option.bind_some];rw [l1]
 unfold openEnds;rw [e1];simp only [Option.bind_some];rw [t];simp only [EV,l2,l3]
end Hd
namespace Hd
open PySem PySem.W
theorem size (w:World):((boot_heap w.params).isNs mainGlobals&&(Array.mk []:Array GenState).size == 0,(boot_heap w.params).objs.size,(boot_heap w.params).nsMap mainGlobals "__annotations__")=(true,11,some (Value.ref 6)):=by
 kernel_rfl
end Hd
namespace Hd
theorem len1 {P:List α->Prop}(h:∀ a0,P [a0]):∀ us:List α,us.length=1->P us
 | [a0],_=>h a0
theorem len2 {P:List α->Prop}(h:∀ a0 a1,P [a0,a1]):∀ us:List α,us.length=2->P us
 | [a0,a1],_=>h a0 a1
theorem len3 {P:List α->Prop}(h:∀ a0 a1 a2,P [a0,a1,a2]):∀ us:List α,us.length=3->P us
 | [a0,a1,a2],_=>h a0 a1 a2
theorem len4 {P:List α->Prop}(h:∀ a0 a1 a2 a3,P [a0,a1,a2,a3]):∀ us:List α,us.length=4->P us
 | [a0,a1,a2,a3],_=>h a0 a1 a2 a3
theorem len10 {P:List α->Prop}(h:∀ a0 a1 a2 a3 a4 a5 a6 a7 a8 a9,P [a0,a1,a2,a3,a4,a5,a6,a7,a8,a9]):∀ us:List α,us.length=10->P us
 | [a0,a1,a2,a3,a4,a5,a6,a7,a8,a9],_=>h a0 a1 a2 a3 a4 a5 a6 a7 a8 a9
end Hd
namespace L2
open PySem
def Zp (s:Stmt) (j:Nat):Stmt:=match s with
 | .ClassDef _ _ _ body _ _ _ _ _ _ _=>body.getD j (.Pass ⟨0,0,0,0⟩)
 | _=>.Pass ⟨0,0,0,0⟩
def Za (s:Stmt):Arguments:=match s with
 | .FunctionDef _ a _ _ _ _ _ _ _ _=>a
 | _=>{ posonlyargs:=[],args:=[],vararg:=none,kwonlyargs:=[],kw_defaults:=[],kwarg:=none,defaults:=[] }
def QT (s:Stmt):List Stmt:=match s with
 | .FunctionDef _ _ b _ _ _ _ _ _ _=>b
 | _=>[]
def Qh (s:Stmt):Scope:=match s with
 | .FunctionDef _ _ _ _ _ _ sc _ _ _=>sc
 | _=>{ kind:=.function,names:=[],isGenerator:=false,isCoroutine:=false }
end L2
namespace My
open PySem PyProof.Rows L2
def top (i:Nat):Stmt:=PySem.Challenge.pw_doletaper_k46_whole_order.main.body.getD i (.Pass ⟨0,0,0,0⟩)
abbrev Zk:Stmt:=Zp (top 10) 0
abbrev Zw:Stmt:=Zp (top 11) 0
abbrev Zm:Stmt:=Zp (top 12) 0
abbrev Zv:Stmt:=top 18
abbrev XW:Stmt:=top 19
abbrev KI:Stmt:=top 20
abbrev XS:Stmt:=top 21
abbrev W7:Stmt:=top 22
abbrev Jd:Stmt:=top 23
abbrev Yu:Stmt:=top 24
abbrev Z5:Stmt:=top 26
abbrev Z8:Stmt:=top 28
abbrev W9:Stmt:=top 29
abbrev XT:Stmt:=top 30
abbrev Jc:Stmt:=top 32
abbrev Zu:Stmt:=top 33
abbrev Yt:Stmt:=top 34
abbrev Xo:Stmt:=top 35
abbrev Yl:Stmt:=top 36
abbrev Z9:Stmt:=top 37
abbrev XX:Stmt:=top 38
abbrev W8:Stmt:=top 39
abbrev Ym:Stmt:=top 40
abbrev QI:Stmt:=Zp (top 42) 0
abbrev Q6:Stmt:=Zp (top 42) 5
abbrev ZO:Stmt:=Zp (top 43) 0
abbrev Zn:Stmt:=Zp (top 44) 0
abbrev ZY:Stmt:=Zp (top 44) 1
abbrev ZN:Stmt:=Zp (top 44) 2
abbrev ZE:Stmt:=Zp (top 47) 0
abbrev ZD:Stmt:=Zp (top 48) 0
abbrev ZA:Stmt:=Zp (top 49) 0
abbrev ZC:Stmt:=Zp (top 51) 0
abbrev Zz:Stmt:=Zp (top 52) 0
abbrev Xs:Stmt:=top 54
abbrev Xr:Stmt:=top 55
abbrev Ja:Stmt:=top 56
abbrev Yq:Stmt:=top 57
abbrev YW:Stmt:=top 58
abbrev YY:Stmt:=top 59
abbrev Z6:Stmt:=top 60
abbrev Xq:Stmt:=top 61
abbrev Y2:Stmt:=top 62
abbrev Y3:Stmt:=top 63
abbrev Xp:Stmt:=top 64
abbrev Y0:Stmt:=top 65
abbrev XU:Stmt:=top 66
abbrev Yp:Stmt:=top 67
abbrev Yn:Stmt:=top 68
abbrev Z7:Stmt:=top 69
abbrev YX:Stmt:=top 70
abbrev Yo:Stmt:=top 71
abbrev Y1:Stmt:=top 72
abbrev YV:Stmt:=top 73
abbrev Yr:Stmt:=top 74
abbrev YZ:Stmt:=top 75
abbrev Ys:Stmt:=top 76
abbrev Jb:Stmt:=top 77
abbrev Jr:Stmt:=top 78
abbrev Ek (P:Params) (x:Str) (t:Tok) (v:Value):DictEntry:=⟨PyData.keyHash P x,.str x t,v⟩
abbrev fO (m:Str) (t:Tok) (n q:Str) (s:Stmt) (d:Value) (c:Nat):Obj:=⟨.type "function",none,.func (W.fnOf n q (Za s) (QT s) (Qh s) d .none .none (.str m t) none (.ref c) .none),#[]⟩
abbrev fO0:=fO "doletaper.errors" 194
abbrev fO1:=fO "doletaper.ratios" 462
abbrev fO2:=fO "doletaper.steps" 529
abbrev fO3:=fO "doletaper.leans" 544
abbrev fO4:=fO "doletaper.order" 567
abbrev fO5:=fO "doletaper.kinds" 636
abbrev fO6:=fO "doletaper.parts" 819
abbrev fO7:=fO "law_doletaper_k46_whole_order" 1105
abbrev cO (n q:Str) (t:Nat) (l k:Int) (a b:Nat) (x y z:Value) (c u:Nat):Obj:=⟨.type "code",none,.fields #[.str n t,.str q (t+1),.str "/claim/cut.py" (t+2),.int l 0,.int k 0,.int 0 0,.int 0 0,.int 3 0,.ref a,.bool true,.int 181 0,.ref b,x,y,z,.ref c,.int u 0,.int l 0,.str "/claim/cut.py" (u+1)],#[]⟩
def hko_2 (P:Params):Obj:=⟨.none,none,(.dict #[] 0),#[]⟩
def hko_3_0 (P:Params):List DictEntry:=[Ek P "__name__" 165 (.str "law_doletaper_k46_whole_order" 1105),Ek P "__doc__" 166 .none,Ek P "__package__" 167 .none,Ek P "__loader__" 168 (.builtin "__main__.__loader__#opaque"),Ek P "__spec__" 169 .none,Ek P "__annotations__" 170 (.ref 6),Ek P "__builtins__" 171 (.ref 4),Ek P "__file__" 173 (.str "/claim/cut.py" 172)]
def hko_3_1 (P:Params):List DictEntry:=[Ek P "__cached__" 174 .none,Ek P "_wall" 193 (.ref 21),Ek P "HelpError" 213 (.ref 31),Ek P "NoAmount" 229 (.ref 44),Ek P "NoBend" 245 (.ref 56),Ek P "NoPerson" 261 (.ref 68),Ek P "Unknown" 286 (.ref 87),Ek P "Twice" 311 (.ref 106)]
def hko_3_2 (P:Params):List DictEntry:=[Ek P "NoWord" 327 (.ref 118),Ek P "NoRow" 352 (.ref 137),Ek P "Tangled" 377 (.ref 156),Ek P "Jumps" 402 (.ref 175),Ek P "Widens" 429 (.ref 194),Ek P "TooMany" 445 (.ref 206),Ek P "NoNews" 461 (.ref 218),Ek P "NOUGHT" 466 (.ref 221)]
def hko_3_3 (P:Params):List DictEntry:=[Ek P "ONE" 469 (.ref 222),Ek P "common_divisor" 478 (.ref 229),Ek P "fraction" 487 (.ref 236),Ek P "plus" 495 (.ref 243),Ek P "total_of" 504 (.ref 250),Ek P "times" 512 (.ref 257),Ek P "below" 520 (.ref 264),Ek P "greater" 528 (.ref 271)]
def hko_3_4 (P:Params):List DictEntry:=[Ek P "steps_from" 543 (.ref 278),Ek P "count_rate" 551 (.ref 283),Ek P "leans" 557 (.ref 288),Ek P "leads_to" 566 (.ref 295),Ek P "knots" 574 (.ref 300),Ek P "counted_within" 580 (.ref 305),Ek P "is_free" 586 (.ref 310),Ek P "ring_from" 597 (.ref 317)]
def hko_3_5 (P:Params):List DictEntry:=[Ek P "pull_of" 610 (.ref 324),Ek P "check_ring" 616 (.ref 329),Ek P "block_of" 622 (.ref 334),Ek P "order" 628 (.ref 339),Ek P "narrows" 635 (.ref 346),Ek P "Kind" 731 (.ref 406),Ek P "Cap" 772 (.ref 434),Ek P "Office" 818 (.ref 467)]
def hko_3_6 (P:Params):List DictEntry:=[Ek P "Part" 855 (.ref 495),Ek P "Base" 895 (.ref 530),Ek P "Each" 939 (.ref 563),Ek P "Rent" 981 (.ref 596),Ek P "Term" 1016 (.ref 622),Ek P "From" 1060 (.ref 657),Ek P "Upto" 1104 (.ref 690),Ek P "_law_cell_at" 1114 (.ref 699)]
def hko_3_7 (P:Params):List DictEntry:=[Ek P "_law_divisor" 1122 (.ref 706),Ek P "_law_low" 1131 (.ref 713),Ek P "_law_names" 1137 (.ref 718),Ek P "_law_rate" 1145 (.ref 725),Ek P "_law_offs" 1156 (.ref 732),Ek P "_law_segments" 1162 (.ref 737),Ek P "_law_earlier" 1175 (.ref 744),Ek P "_law_jump" 1182 (.ref 751)]
def hko_3_8 (P:Params):List DictEntry:=[Ek P "_law_free" 1188 (.ref 756),Ek P "_law_planted" 1194 (.ref 761),Ek P "_law_kind" 1206 (.ref 768),Ek P "_law_office" 1212 (.ref 773),Ek P "_law_reach" 1218 (.ref 778),Ek P "_law_times" 1226 (.ref 785),Ek P "_law_greatest" 1236 (.ref 792),Ek P "_law_pull" 1242 (.ref 797)]
def hko_3_9 (P:Params):List DictEntry:=[Ek P "_law_shape" 1248 (.ref 802),Ek P "_law_just" 1254 (.ref 807),Ek P "_law_told" 1263 (.ref 814),Ek P "_law_knots" 1269 (.ref 819),Ek P "_law_next" 1283 (.ref 826),Ek P "_law_block" 1289 (.ref 831),Ek P "_law_due" 1303 (.ref 838),Ek P "law" 1309 (.ref 843)]
def hko_3 (P:Params):Obj:=⟨(.type "dict"),none,(.dict (hko_3_0 P++hko_3_1 P++hko_3_2 P++hko_3_3 P++hko_3_4 P++hko_3_5 P++hko_3_6 P++hko_3_7 P++hko_3_8 P++hko_3_9 P).toArray 80),#[]⟩
def hko_30 (P:Params):Obj:=⟨(.type "dict"),none,(.dict #[Ek P "__module__" 203 (.str "doletaper.errors" 194),Ek P "__firstlineno__" 207 (.int 5 206),Ek P "__static_attributes__" 208 (.ref 29),Ek P "__weakref__" 210 (.ref 32),Ek P "__doc__" 211 .none] 3),#[]⟩
def hko_31 (P:Params):Obj:=⟨(.type "type"),none,(.cls ⟨"HelpError",[(.type "ValueError")],[(.ref 31),(.type "ValueError"),(.type "Exception"),(.type "BaseException"),(.type "object")],30,"HelpError",true,[],[(.ref 44),(.ref 56),(.ref 68),(.ref 87),(.ref 106),(.ref 118),(.ref 137),(.ref 156),(.ref 175),(.ref 194),(.ref 206),(.ref 218)],false,none,false⟩),#[(some (.ref 22)),none,(some (.str "HelpError" 196)),(some (.str "HelpError" 204)),(some (.builtin "ValueError.__new__")),(some (.bool true))]⟩
def hko_43 (P:Params):Obj:=⟨(.type "dict"),none,(.dict #[Ek P "__module__" 221 (.str "doletaper.errors" 194),Ek P "__firstlineno__" 225 (.int 7 224),Ek P "__static_attributes__" 226 (.ref 42),Ek P "__doc__" 227 .none] 2),#[]⟩
def hko_44 (P:Params):Obj:=⟨(.type "type"),none,(.cls ⟨"NoAmount",[(.ref 31)],[(.ref 44),(.ref 31),(.type "ValueError"),(.type "Exception"),(.type "BaseException"),(.type "object")],43,"NoAmount",true,[],[],false,none,false⟩),#[(some (.ref 35)),none,(some (.str "NoAmount" 214)),(some (.str "NoAmount" 222)),(some (.builtin "ValueError.__new__")),(some (.bool true))]⟩
def hko_55 (P:Params):Obj:=⟨(.type "dict"),none,(.dict #[Ek P "__module__" 237 (.str "doletaper.errors" 194),Ek P "__firstlineno__" 241 (.int 9 240),Ek P "__static_attributes__" 242 (.ref 54),Ek P "__doc__" 243 .none] 2),#[]⟩
def hko_56 (P:Params):Obj:=⟨(.type "type"),none,(.cls ⟨"NoBend",[(.ref 31)],[(.ref 56),(.ref 31),(.type "ValueError"),(.type "Exception"),(.type "BaseException"),(.type "object")],55,"NoBend",true,[],[],false,none,false⟩),#[(some (.ref 47)),none,(some (.str "NoBend" 230)),(some (.str "NoBend" 238)),(some (.builtin "ValueError.__new__")),(some (.bool true))]⟩
def hko_67 (P:Params):Obj:=⟨(.type "dict"),none,(.dict #[Ek P "__module__" 253 (.str "doletaper.errors" 194),Ek P "__firstlineno__" 257 (.int 11 256),Ek P "__static_attributes__" 258 (.ref 66),Ek P "__doc__" 259 .none] 2),#[]⟩
def hko_68 (P:Params):Obj:=⟨(.type "type"),none,(.cls ⟨"NoPerson",[(.ref 31)],[(.ref 68),(.ref 31),(.type "ValueError"),(.type "Exception"),(.type "BaseException"),(.type "object")],67,"NoPerson",true,[],[],false,none,false⟩),#[(some (.ref 59)),none,(some (.str "NoPerson" 246)),(some (.str "NoPerson" 254)),(some (.builtin "ValueError.__new__")),(some (.bool true))]⟩
def hko_86 (P:Params):Obj:=⟨(.type "dict"),none,(.dict #[Ek P "__module__" 269 (.str "doletaper.errors" 194),Ek P "__firstlineno__" 273 (.int 13 272),Ek P "__init__" 281 (.ref 84),Ek P "__static_attributes__" 283 (.ref 85),Ek P "__doc__" 284 .none] 2),#[]⟩
def hko_87 (P:Params):Obj:=⟨(.type "type"),none,(.cls ⟨"Unknown",[(.ref 31)],[(.ref 87),(.ref 31),(.type "ValueError"),(.type "Exception"),(.type "BaseException"),(.type "object")],86,"Unknown",true,[],[],false,none,false⟩),#[(some (.ref 71)),none,(some (.str "Unknown" 262)),(some (.str "Unknown" 270)),(some (.builtin "ValueError.__new__")),(some (.bool true))]⟩
def hko_105 (P:Params):Obj:=⟨(.type "dict"),none,(.dict #[Ek P "__module__" 294 (.str "doletaper.errors" 194),Ek P "__firstlineno__" 298 (.int 17 297),Ek P "__init__" 306 (.ref 103),Ek P "__static_attributes__" 308 (.ref 104),Ek P "__doc__" 309 .none] 2),#[]⟩
def hko_106 (P:Params):Obj:=⟨(.type "type"),none,(.cls ⟨"Twice",[(.ref 31)],[(.ref 106),(.ref 31),(.type "ValueError"),(.type "Exception"),(.type "BaseException"),(.type "object")],105,"Twice",true,[],[],false,none,false⟩),#[(some (.ref 90)),none,(some (.str "Twice" 287)),(some (.str "Twice" 295)),(some (.builtin "ValueError.__new__")),(some (.bool true))]⟩
def hko_117 (P:Params):Obj:=⟨(.type "dict"),none,(.dict #[Ek P "__module__" 319 (.str "doletaper.errors" 194),Ek P "__firstlineno__" 323 (.int 21 322),Ek P "__static_attributes__" 324 (.ref 116),Ek P "__doc__" 325 .none] 2),#[]⟩
def hko_118 (P:Params):Obj:=⟨(.type "type"),none,(.cls ⟨"NoWord",[(.ref 31)],[(.ref 118),(.ref 31),(.type "ValueError"),(.type "Exception"),(.type "BaseException"),(.type "object")],117,"NoWord",true,[],[],false,none,false⟩),#[(some (.ref 109)),none,(some (.str "NoWord" 312)),(some (.str "NoWord" 320)),(some (.builtin "ValueError.__new__")),(some (.bool true))]⟩
def hko_136 (P:Params):Obj:=⟨(.type "dict"),none,(.dict #[Ek P "__module__" 335 (.str "doletaper.errors" 194),Ek P "__firstlineno__" 339 (.int 23 338),Ek P "__init__" 347 (.ref 134),Ek P "__static_attributes__" 349 (.ref 135),Ek P "__doc__" 350 .none] 2),#[]⟩
def hko_137 (P:Params):Obj:=⟨(.type "type"),none,(.cls ⟨"NoRow",[(.ref 31)],[(.ref 137),(.ref 31),(.type "ValueError"),(.type "Exception"),(.type "BaseException"),(.type "object")],136,"NoRow",true,[],[],false,none,false⟩),#[(some (.ref 121)),none,(some (.str "NoRow" 328)),(some (.str "NoRow" 336)),(some (.builtin "ValueError.__new__")),(some (.bool true))]⟩
def hko_152 (P:Params):Obj:=cO "__init__" "Tangled.__init__" 365 29 2 147 148 .none (.ref 149) (.ref 150) 151 370
def hko_153 (P:Params):Obj:=fO0 "__init__" "Tangled.__init__" Zk .none 152
def hko_155 (P:Params):Obj:=⟨(.type "dict"),none,(.dict #[Ek P "__module__" 360 (.str "doletaper.errors" 194),Ek P "__firstlineno__" 364 (.int 27 363),Ek P "__init__" 372 (.ref 153),Ek P "__static_attributes__" 374 (.ref 154),Ek P "__doc__" 375 .none] 2),#[]⟩
def hko_156 (P:Params):Obj:=⟨(.type "type"),none,(.cls ⟨"Tangled",[(.ref 31)],[(.ref 156),(.ref 31),(.type "ValueError"),(.type "Exception"),(.type "BaseException"),(.type "object")],155,"Tangled",true,[],[],false,none,false⟩),#[(some (.ref 140)),none,(some (.str "Tangled" 353)),(some (.str "Tangled" 361)),(some (.builtin "ValueError.__new__")),(some (.bool true))]⟩
def hko_171 (P:Params):Obj:=cO "__init__" "Jumps.__init__" 390 33 2 166 167 .none (.ref 168) (.ref 169) 170 395
def hko_172 (P:Params):Obj:=fO0 "__init__" "Jumps.__init__" Zw .none 171
def hko_174 (P:Params):Obj:=⟨(.type "dict"),none,(.dict #[Ek P "__module__" 385 (.str "doletaper.errors" 194),Ek P "__firstlineno__" 389 (.int 31 388),Ek P "__init__" 397 (.ref 172),Ek P "__static_attributes__" 399 (.ref 173),Ek P "__doc__" 400 .none] 2),#[]⟩
def hko_175 (P:Params):Obj:=⟨(.type "type"),none,(.cls ⟨"Jumps",[(.ref 31)],[(.ref 175),(.ref 31),(.type "ValueError"),(.type "Exception"),(.type "BaseException"),(.type "object")],174,"Jumps",true,[],[],false,none,false⟩),#[(some (.ref 159)),none,(some (.str "Jumps" 378)),(some (.str "Jumps" 386)),(some (.builtin "ValueError.__new__")),(some (.bool true))]⟩
def hko_190 (P:Params):Obj:=cO "__init__" "Widens.__init__" 415 37 3 185 186 .none (.ref 187) (.ref 188) 189 421
def hko_191 (P:Params):Obj:=fO0 "__init__" "Widens.__init__" Zm .none 190
def hko_193 (P:Params):Obj:=⟨(.type "dict"),none,(.dict #[Ek P "__module__" 410 (.str "doletaper.errors" 194),Ek P "__firstlineno__" 414 (.int 35 413),Ek P "__init__" 423 (.ref 191),Ek P "__static_attributes__" 426 (.ref 192),Ek P "__doc__" 427 .none] 2),#[]⟩
def hko_194 (P:Params):Obj:=⟨(.type "type"),none,(.cls ⟨"Widens",[(.ref 31)],[(.ref 194),(.ref 31),(.type "ValueError"),(.type "Exception"),(.type "BaseException"),(.type "object")],193,"Widens",true,[],[],false,none,false⟩),#[(some (.ref 178)),none,(some (.str "Widens" 403)),(some (.str "Widens" 411)),(some (.builtin "ValueError.__new__")),(some (.bool true))]⟩
def hko_205 (P:Params):Obj:=⟨(.type "dict"),none,(.dict #[Ek P "__module__" 437 (.str "doletaper.errors" 194),Ek P "__firstlineno__" 441 (.int 40 440),Ek P "__static_attributes__" 442 (.ref 204),Ek P "__doc__" 443 .none] 2),#[]⟩
def hko_206 (P:Params):Obj:=⟨(.type "type"),none,(.cls ⟨"TooMany",[(.ref 31)],[(.ref 206),(.ref 31),(.type "ValueError"),(.type "Exception"),(.type "BaseException"),(.type "object")],205,"TooMany",true,[],[],false,none,false⟩),#[(some (.ref 197)),none,(some (.str "TooMany" 430)),(some (.str "TooMany" 438)),(some (.builtin "ValueError.__new__")),(some (.bool true))]⟩
def hko_217 (P:Params):Obj:=⟨(.type "dict"),none,(.dict #[Ek P "__module__" 453 (.str "doletaper.errors" 194),Ek P "__firstlineno__" 457 (.int 42 456),Ek P "__static_attributes__" 458 (.ref 216),Ek P "__doc__" 459 .none] 2),#[]⟩
def hko_218 (P:Params):Obj:=⟨(.type "type"),none,(.cls ⟨"NoNews",[(.ref 31)],[(.ref 218),(.ref 31),(.type "ValueError"),(.type "Exception"),(.type "BaseException"),(.type "object")],217,"NoNews",true,[],[],false,none,false⟩),#[(some (.ref 209)),none,(some (.str "NoNews" 446)),(some (.str "NoNews" 454)),(some (.builtin "ValueError.__new__")),(some (.bool true))]⟩
def hko_221 (P:Params):Obj:=⟨(.type "tuple"),none,(.seq #[(.int 0 464),(.int 1 465)] 0),#[]⟩
def hko_222 (P:Params):Obj:=⟨(.type "tuple"),none,(.seq #[(.int 1 467),(.int 1 468)] 0),#[]⟩
def hko_228 (P:Params):Obj:=cO "common_divisor" "common_divisor" 470 47 2 223 224 .none (.ref 225) (.ref 226) 227 476
def hko_229 (P:Params):Obj:=fO1 "common_divisor" "common_divisor" Zv .none 228
def hko_235 (P:Params):Obj:=cO "fraction" "fraction" 479 53 2 230 231 .none (.ref 232) (.ref 233) 234 485
def hko_236 (P:Params):Obj:=fO1 "fraction" "fraction" XW .none 235
def hko_242 (P:Params):Obj:=cO "plus" "plus" 488 60 2 237 238 .none (.ref 239) (.ref 240) 241 493
def hko_243 (P:Params):Obj:=fO1 "plus" "plus" KI .none 242
def hko_249 (P:Params):Obj:=cO "total_of" "total_of" 496 62 1 244 245 .none (.ref 246) (.ref 247) 248 502
def hko_250 (P:Params):Obj:=fO1 "total_of" "total_of" XS .none 249
def hko_256 (P:Params):Obj:=cO "times" "times" 505 67 2 251 252 .none (.ref 253) (.ref 254) 255 510
def hko_257 (P:Params):Obj:=fO1 "times" "times" W7 .none 256
def hko_263 (P:Params):Obj:=cO "below" "below" 513 69 2 258 259 .none (.ref 260) (.ref 261) 262 518
def hko_264 (P:Params):Obj:=fO1 "below" "below" Jd .none 263
def hko_270 (P:Params):Obj:=cO "greater" "greater" 521 71 2 265 266 .none (.ref 267) (.ref 268) 269 526
def hko_271 (P:Params):Obj:=fO1 "greater" "greater" Yu .none 270
def hko_277 (P:Params):Obj:=cO "steps_from" "steps_from" 531 74 2 272 273 .none (.ref 274) (.ref 275) 276 541
def hko_278 (P:Params):Obj:=fO2 "steps_from" "steps_from" Z5 .none 277
def hko_282 (P:Params):Obj:=cO "count_rate" "count_rate" 546 87 2 279 280 .none .none .none 281 549
def hko_283 (P:Params):Obj:=fO3 "count_rate" "count_rate" Z8 .none 282
def hko_287 (P:Params):Obj:=cO "leans" "leans" 552 89 1 284 285 .none .none .none 286 555
def hko_288 (P:Params):Obj:=fO3 "leans" "leans" W9 .none 287
def hko_294 (P:Params):Obj:=cO "leads_to" "leads_to" 558 94 2 289 290 .none (.ref 291) (.ref 292) 293 564
def hko_295 (P:Params):Obj:=fO3 "leads_to" "leads_to" XT .none 294
def hko_299 (P:Params):Obj:=cO "knots" "knots" 569 100 1 296 297 .none .none .none 298 572
def hko_300 (P:Params):Obj:=fO4 "knots" "knots" Jc .none 299
def hko_304 (P:Params):Obj:=cO "counted_within" "counted_within" 575 110 3 301 302 .none .none .none 303 578
def hko_305 (P:Params):Obj:=fO4 "counted_within" "counted_within" Zu .none 304
def hko_309 (P:Params):Obj:=cO "is_free" "is_free" 581 112 3 306 307 .none .none .none 308 584
def hko_310 (P:Params):Obj:=fO4 "is_free" "is_free" Yt .none 309
def hko_316 (P:Params):Obj:=cO "ring_from" "ring_from" 587 115 3 311 312 .none (.ref 313) (.ref 314) 315 595
def hko_317 (P:Params):Obj:=fO4 "ring_from" "ring_from" Xo .none 316
def hko_323 (P:Params):Obj:=cO "pull_of" "pull_of" 598 122 2 318 319 .none (.ref 320) (.ref 321) 322 608
def hko_324 (P:Params):Obj:=fO4 "pull_of" "pull_of" Yl .none 323
def hko_328 (P:Params):Obj:=cO "check_ring" "check_ring" 611 129 3 325 326 .none .none .none 327 614
def hko_329 (P:Params):Obj:=fO4 "check_ring" "check_ring" Z9 .none 328
def hko_333 (P:Params):Obj:=cO "block_of" "block_of" 617 135 3 330 331 .none .none .none 332 620
def hko_334 (P:Params):Obj:=fO4 "block_of" "block_of" XX .none 333
def hko_338 (P:Params):Obj:=cO "order" "order" 623 145 1 335 336 .none .none .none 337 626
def hko_339 (P:Params):Obj:=fO4 "order" "order" W8 .none 338
def hko_345 (P:Params):Obj:=cO "narrows" "narrows" 629 156 1 340 341 .none (.ref 342) (.ref 343) 344 633
def hko_346 (P:Params):Obj:=fO4 "narrows" "narrows" Ym .none 345
def hko_354 (P:Params):Obj:=⟨(.type "tuple"),none,(.seq #[.none,.none,(.str "down" 650)] 0),#[]⟩
def hko_360 (P:Params):Obj:=cO "__init__" "Kind.__init__" 651 161 10 355 356 .none (.ref 357) (.ref 358) 359 664
def hko_361 (P:Params):Obj:=fO5 "__init__" "Kind.__init__" QI (.ref 354) 360
def hko_395 (P:Params):Obj:=cO "greatest_rate" "Kind.greatest_rate" 698 184 1 390 391 .none (.ref 392) (.ref 393) 394 704
def hko_396 (P:Params):Obj:=fO5 "greatest_rate" "Kind.greatest_rate" Q6 .none 395
def hko_405_0 (P:Params):List DictEntry:=[Ek P "__module__" 645 (.str "doletaper.kinds" 636),Ek P "__firstlineno__" 649 (.int 159 648),Ek P "__init__" 666 (.ref 361),Ek P "full_of" 674 (.ref 368),Ek P "may_have" 682 (.ref 375),Ek P "owns" 690 (.ref 382),Ek P "taken_off" 697 (.ref 389),Ek P "greatest_rate" 706 (.ref 396)]
def hko_405_1 (P:Params):List DictEntry:=[Ek P "amount_from" 714 (.ref 403),Ek P "__static_attributes__" 724 (.ref 404),Ek P "__dict__" 726 (.ref 407),Ek P "__weakref__" 728 (.ref 408),Ek P "__doc__" 729 .none]
def hko_405 (P:Params):Obj:=⟨(.type "dict"),none,(.dict (hko_405_0 P++hko_405_1 P).toArray 4),#[]⟩
def hko_406 (P:Params):Obj:=⟨(.type "type"),none,(.cls ⟨"Kind",[(.type "object")],[(.ref 406),(.type "object")],405,"Kind",true,[],[],false,none,false⟩),#[none,none,(some (.str "Kind" 638)),(some (.str "Kind" 646)),(some (.builtin "object.__new__")),(some (.bool true))]⟩
def hko_423 (P:Params):Obj:=cO "__init__" "Cap.__init__" 744 196 4 418 419 .none (.ref 420) (.ref 421) 422 751
def hko_424 (P:Params):Obj:=fO5 "__init__" "Cap.__init__" ZO .none 423
def hko_433 (P:Params):Obj:=⟨(.type "dict"),none,(.dict #[Ek P "__module__" 739 (.str "doletaper.kinds" 636),Ek P "__firstlineno__" 743 (.int 194 742),Ek P "__init__" 753 (.ref 424),Ek P "room_for" 761 (.ref 431),Ek P "__static_attributes__" 765 (.ref 432),Ek P "__dict__" 767 (.ref 435),Ek P "__weakref__" 769 (.ref 436),Ek P "__doc__" 770 .none] 4),#[]⟩
def hko_434 (P:Params):Obj:=⟨(.type "type"),none,(.cls ⟨"Cap",[(.type "object")],[(.ref 434),(.type "object")],433,"Cap",true,[],[],false,none,false⟩),#[none,none,(some (.str "Cap" 732)),(some (.str "Cap" 740)),(some (.builtin "object.__new__")),(some (.bool true))]⟩
def hko_451 (P:Params):Obj:=cO "__init__" "Office.__init__" 785 205 3 446 447 .none (.ref 448) (.ref 449) 450 791
def hko_452 (P:Params):Obj:=fO5 "__init__" "Office.__init__" Zn .none 451
def hko_458 (P:Params):Obj:=cO "kind" "Office.kind" 794 209 2 453 454 .none (.ref 455) (.ref 456) 457 800
def hko_459 (P:Params):Obj:=fO5 "kind" "Office.kind" ZY .none 458
def hko_463 (P:Params):Obj:=cO "named" "Office.named" 803 215 1 460 461 .none .none .none 462 806
def hko_464 (P:Params):Obj:=fO5 "named" "Office.named" ZN .none 463
def hko_466 (P:Params):Obj:=⟨(.type "dict"),none,(.dict #[Ek P "__module__" 780 (.str "doletaper.kinds" 636),Ek P "__firstlineno__" 784 (.int 203 783),Ek P "__init__" 793 (.ref 452),Ek P "kind" 802 (.ref 459),Ek P "named" 808 (.ref 464),Ek P "__static_attributes__" 811 (.ref 465),Ek P "__dict__" 813 (.ref 468),Ek P "__weakref__" 815 (.ref 469),Ek P "__doc__" 816 .none] 4),#[]⟩
def hko_467 (P:Params):Obj:=⟨(.type "type"),none,(.cls ⟨"Office",[(.type "object")],[(.ref 467),(.type "object")],466,"Office",true,[],[],false,none,false⟩),#[none,none,(some (.str "Office" 773)),(some (.str "Office" 781)),(some (.builtin "object.__new__")),(some (.bool true))]⟩
def hko_494 (P:Params):Obj:=⟨(.type "dict"),none,(.dict #[Ek P "__module__" 828 (.str "doletaper.parts" 819),Ek P "__firstlineno__" 832 (.int 218 831),Ek P "worth" 840 (.ref 485),Ek P "row" 847 (.ref 492),Ek P "__static_attributes__" 848 (.ref 493),Ek P "__dict__" 850 (.ref 496),Ek P "__weakref__" 852 (.ref 497),Ek P "__doc__" 853 .none] 4),#[]⟩
def hko_495 (P:Params):Obj:=⟨(.type "type"),none,(.cls ⟨"Part",[(.type "object")],[(.ref 495),(.type "object")],494,"Part",true,[],[(.ref 530),(.ref 563),(.ref 596)],false,none,false⟩),#[none,none,(some (.str "Part" 821)),(some (.str "Part" 829)),(some (.builtin "object.__new__")),(some (.bool true))]⟩
def hko_512 (P:Params):Obj:=cO "__init__" "Base.__init__" 868 227 2 507 508 .none (.ref 509) (.ref 510) 511 873
def hko_513 (P:Params):Obj:=fO6 "__init__" "Base.__init__" ZE .none 512
def hko_529 (P:Params):Obj:=⟨(.type "dict"),none,(.dict #[Ek P "__module__" 863 (.str "doletaper.parts" 819),Ek P "__firstlineno__" 867 (.int 225 866),Ek P "__init__" 875 (.ref 513),Ek P "worth" 883 (.ref 520),Ek P "row" 890 (.ref 527),Ek P "__static_attributes__" 892 (.ref 528),Ek P "__doc__" 893 .none] 2),#[]⟩
def hko_530 (P:Params):Obj:=⟨(.type "type"),none,(.cls ⟨"Base",[(.ref 495)],[(.ref 530),(.ref 495),(.type "object")],529,"Base",true,[],[],false,none,false⟩),#[(some (.ref 500)),none,(some (.str "Base" 856)),(some (.str "Base" 864)),(some (.builtin "object.__new__")),(some (.bool true))]⟩
def hko_545 (P:Params):Obj:=cO "__init__" "Each.__init__" 908 237 4 540 541 .none (.ref 542) (.ref 543) 544 915
def hko_546 (P:Params):Obj:=fO6 "__init__" "Each.__init__" ZD .none 545
def hko_562 (P:Params):Obj:=⟨(.type "dict"),none,(.dict #[Ek P "__module__" 903 (.str "doletaper.parts" 819),Ek P "__firstlineno__" 907 (.int 235 906),Ek P "__init__" 917 (.ref 546),Ek P "worth" 925 (.ref 553),Ek P "row" 932 (.ref 560),Ek P "__static_attributes__" 936 (.ref 561),Ek P "__doc__" 937 .none] 2),#[]⟩
def hko_563 (P:Params):Obj:=⟨(.type "type"),none,(.cls ⟨"Each",[(.ref 495)],[(.ref 563),(.ref 495),(.type "object")],562,"Each",true,[],[],false,none,false⟩),#[(some (.ref 533)),none,(some (.str "Each" 896)),(some (.str "Each" 904)),(some (.builtin "object.__new__")),(some (.bool true))]⟩
def hko_578 (P:Params):Obj:=cO "__init__" "Rent.__init__" 952 249 3 573 574 .none (.ref 575) (.ref 576) 577 958
def hko_579 (P:Params):Obj:=fO6 "__init__" "Rent.__init__" ZA .none 578
def hko_595 (P:Params):Obj:=⟨(.type "dict"),none,(.dict #[Ek P "__module__" 947 (.str "doletaper.parts" 819),Ek P "__firstlineno__" 951 (.int 247 950),Ek P "__init__" 960 (.ref 579),Ek P "worth" 968 (.ref 586),Ek P "row" 975 (.ref 593),Ek P "__static_attributes__" 978 (.ref 594),Ek P "__doc__" 979 .none] 2),#[]⟩
def hko_596 (P:Params):Obj:=⟨(.type "type"),none,(.cls ⟨"Rent",[(.ref 495)],[(.ref 596),(.ref 495),(.type "object")],595,"Rent",true,[],[],false,none,false⟩),#[(some (.ref 566)),none,(some (.str "Rent" 940)),(some (.str "Rent" 948)),(some (.builtin "object.__new__")),(some (.bool true))]⟩
def hko_621 (P:Params):Obj:=⟨(.type "dict"),none,(.dict #[Ek P "__module__" 989 (.str "doletaper.parts" 819),Ek P "__firstlineno__" 993 (.int 258 992),Ek P "met" 1001 (.ref 612),Ek P "row" 1008 (.ref 619),Ek P "__static_attributes__" 1009 (.ref 620),Ek P "__dict__" 1011 (.ref 623),Ek P "__weakref__" 1013 (.ref 624),Ek P "__doc__" 1014 .none] 4),#[]⟩
def hko_622 (P:Params):Obj:=⟨(.type "type"),none,(.cls ⟨"Term",[(.type "object")],[(.ref 622),(.type "object")],621,"Term",true,[],[(.ref 657),(.ref 690)],false,none,false⟩),#[none,none,(some (.str "Term" 982)),(some (.str "Term" 990)),(some (.builtin "object.__new__")),(some (.bool true))]⟩
def hko_639 (P:Params):Obj:=cO "__init__" "From.__init__" 1029 267 4 634 635 .none (.ref 636) (.ref 637) 638 1036
def hko_640 (P:Params):Obj:=fO6 "__init__" "From.__init__" ZC .none 639
def hko_656 (P:Params):Obj:=⟨(.type "dict"),none,(.dict #[Ek P "__module__" 1024 (.str "doletaper.parts" 819),Ek P "__firstlineno__" 1028 (.int 265 1027),Ek P "__init__" 1038 (.ref 640),Ek P "met" 1046 (.ref 647),Ek P "row" 1053 (.ref 654),Ek P "__static_attributes__" 1057 (.ref 655),Ek P "__doc__" 1058 .none] 2),#[]⟩
def hko_657 (P:Params):Obj:=⟨(.type "type"),none,(.cls ⟨"From",[(.ref 622)],[(.ref 657),(.ref 622),(.type "object")],656,"From",true,[],[],false,none,false⟩),#[(some (.ref 627)),none,(some (.str "From" 1017)),(some (.str "From" 1025)),(some (.builtin "object.__new__")),(some (.bool true))]⟩
def hko_672 (P:Params):Obj:=cO "__init__" "Upto.__init__" 1073 279 4 667 668 .none (.ref 669) (.ref 670) 671 1080
def hko_673 (P:Params):Obj:=fO6 "__init__" "Upto.__init__" Zz .none 672
def hko_689 (P:Params):Obj:=⟨(.type "dict"),none,(.dict #[Ek P "__module__" 1068 (.str "doletaper.parts" 819),Ek P "__firstlineno__" 1072 (.int 277 1071),Ek P "__init__" 1082 (.ref 673),Ek P "met" 1090 (.ref 680),Ek P "row" 1097 (.ref 687),Ek P "__static_attributes__" 1101 (.ref 688),Ek P "__doc__" 1102 .none] 2),#[]⟩
def hko_690 (P:Params):Obj:=⟨(.type "type"),none,(.cls ⟨"Upto",[(.ref 622)],[(.ref 690),(.ref 622),(.type "object")],689,"Upto",true,[],[],false,none,false⟩),#[(some (.ref 660)),none,(some (.str "Upto" 1061)),(some (.str "Upto" 1069)),(some (.builtin "object.__new__")),(some (.bool true))]⟩
def hko_698 (P:Params):Obj:=cO "_law_cell_at" "_law_cell_at" 1107 290 2 693 694 .none (.ref 695) (.ref 696) 697 1112
def hko_699 (P:Params):Obj:=fO7 "_law_cell_at" "_law_cell_at" Xs .none 698
def hko_705 (P:Params):Obj:=cO "_law_divisor" "_law_divisor" 1115 294 2 700 701 .none (.ref 702) (.ref 703) 704 1120
def hko_706 (P:Params):Obj:=fO7 "_law_divisor" "_law_divisor" Xr .none 705
def hko_712 (P:Params):Obj:=cO "_law_low" "_law_low" 1123 298 2 707 708 .none (.ref 709) (.ref 710) 711 1129
def hko_713 (P:Params):Obj:=fO7 "_law_low" "_law_low" Ja .none 712
def hko_717 (P:Params):Obj:=cO "_law_names" "_law_names" 1132 301 1 714 715 .none .none .none 716 1135
def hko_718 (P:Params):Obj:=fO7 "_law_names" "_law_names" Yq .none 717
def hko_724 (P:Params):Obj:=cO "_law_rate" "_law_rate" 1138 316 2 719 720 .none (.ref 721) (.ref 722) 723 1143
def hko_725 (P:Params):Obj:=fO7 "_law_rate" "_law_rate" YW .none 724
def hko_731 (P:Params):Obj:=cO "_law_offs" "_law_offs" 1146 322 2 726 727 .none (.ref 728) (.ref 729) 730 1154
def hko_732 (P:Params):Obj:=fO7 "_law_offs" "_law_offs" YY .none 731
def hko_736 (P:Params):Obj:=cO "_law_segments" "_law_segments" 1157 329 2 733 734 .none .none .none 735 1160
def hko_737 (P:Params):Obj:=fO7 "_law_segments" "_law_segments" Z6 .none 736
def hko_743 (P:Params):Obj:=cO "_law_earlier" "_law_earlier" 1163 341 4 738 739 .none (.ref 740) (.ref 741) 742 1173
def hko_744 (P:Params):Obj:=fO7 "_law_earlier" "_law_earlier" Xq .none 743
def hko_750 (P:Params):Obj:=cO "_law_jump" "_law_jump" 1176 348 1 745 746 .none (.ref 747) (.ref 748) 749 1180
def hko_751 (P:Params):Obj:=fO7 "_law_jump" "_law_jump" Y2 .none 750
def hko_755 (P:Params):Obj:=cO "_law_free" "_law_free" 1183 356 3 752 753 .none .none .none 754 1186
def hko_756 (P:Params):Obj:=fO7 "_law_free" "_law_free" Y3 .none 755
def hko_760 (P:Params):Obj:=cO "_law_planted" "_law_planted" 1189 368 4 757 758 .none .none .none 759 1192
def hko_761 (P:Params):Obj:=fO7 "_law_planted" "_law_planted" Xp .none 760
def hko_767 (P:Params):Obj:=cO "_law_kind" "_law_kind" 1195 386 2 762 763 .none (.ref 764) (.ref 765) 766 1204
def hko_768 (P:Params):Obj:=fO7 "_law_kind" "_law_kind" Y0 .none 767
def hko_772 (P:Params):Obj:=cO "_law_office" "_law_office" 1207 392 2 769 770 .none .none .none 771 1210
def hko_773 (P:Params):Obj:=fO7 "_law_office" "_law_office" XU .none 772
def hko_777 (P:Params):Obj:=cO "_law_reach" "_law_reach" 1213 404 2 774 775 .none .none .none 776 1216
def hko_778 (P:Params):Obj:=fO7 "_law_reach" "_law_reach" Yp .none 777
def hko_784 (P:Params):Obj:=cO "_law_times" "_law_times" 1219 415 2 779 780 .none (.ref 781) (.ref 782) 783 1224
def hko_785 (P:Params):Obj:=fO7 "_law_times" "_law_times" Yn .none 784
def hko_791 (P:Params):Obj:=cO "_law_greatest" "_law_greatest" 1227 417 1 786 787 .none (.ref 788) (.ref 789) 790 1234
def hko_792 (P:Params):Obj:=fO7 "_law_greatest" "_law_greatest" Z7 .none 791
def hko_796 (P:Params):Obj:=cO "_law_pull" "_law_pull" 1237 423 2 793 794 .none .none .none 795 1240
def hko_797 (P:Params):Obj:=fO7 "_law_pull" "_law_pull" YX .none 796
def hko_801 (P:Params):Obj:=cO "_law_shape" "_law_shape" 1243 430 1 798 799 .none .none .none 800 1246
def hko_802 (P:Params):Obj:=fO7 "_law_shape" "_law_shape" Yo .none 801
def hko_806 (P:Params):Obj:=cO "_law_just" "_law_just" 1249 439 1 803 804 .none .none .none 805 1252
def hko_807 (P:Params):Obj:=fO7 "_law_just" "_law_just" Y1 .none 806
def hko_813 (P:Params):Obj:=cO "_law_told" "_law_told" 1255 446 1 808 809 .none (.ref 810) (.ref 811) 812 1261
def hko_814 (P:Params):Obj:=fO7 "_law_told" "_law_told" YV .none 813
def hko_818 (P:Params):Obj:=cO "_law_knots" "_law_knots" 1264 456 1 815 816 .none .none .none 817 1267
def hko_819 (P:Params):Obj:=fO7 "_law_knots" "_law_knots" Yr .none 818
def hko_825 (P:Params):Obj:=cO "_law_next" "_law_next" 1270 467 3 820 821 .none (.ref 822) (.ref 823) 824 1281
def hko_826 (P:Params):Obj:=fO7 "_law_next" "_law_next" YZ .none 825
def hko_830 (P:Params):Obj:=cO "_law_block" "_law_block" 1284 477 2 827 828 .none .none .none 829 1287
def hko_831 (P:Params):Obj:=fO7 "_law_block" "_law_block" Ys .none 830
def hko_837 (P:Params):Obj:=cO "_law_due" "_law_due" 1290 495 2 832 833 .none (.ref 834) (.ref 835) 836 1301
def hko_838 (P:Params):Obj:=fO7 "_law_due" "_law_due" Jb .none 837
def hko_842 (P:Params):Obj:=cO "law" "law" 1304 507 1 839 840 .none .none .none 841 1307
def hko_843 (P:Params):Obj:=fO7 "law" "law" Jr .none 842
def HK:Params->W.Frag:=fun P=>(nat_lit 2,hko_2 P) :: (nat_lit 3,hko_3 P) :: (nat_lit 30,hko_30 P) :: (nat_lit 31,hko_31 P) :: (nat_lit 43,hko_43 P) :: (nat_lit 44,hko_44 P) :: (nat_lit 55,hko_55 P) :: (nat_lit 56,hko_56 P) :: (nat_lit 67,hko_67 P) :: (nat_lit 68,hko_68 P) :: (nat_lit 86,hko_86 P) :: (nat_lit 87,hko_87 P) :: (nat_lit 105,hko_105 P) :: (nat_lit 106,hko_106 P) :: (nat_lit 117,hko_117 P) :: (nat_lit 118,hko_118 P) :: (nat_lit 136,hko_136 P) :: (nat_lit 137,hko_137 P) :: (nat_lit 152,hko_152 P) :: (nat_lit 153,hko_153 P) :: (nat_lit 155,hko_155 P) :: (nat_lit 156,hko_156 P) :: (nat_lit 171,hko_171 P) :: (nat_lit 172,hko_172 P) :: (nat_lit 174,hko_174 P) :: (nat_lit 175,hko_175 P) :: (nat_lit 190,hko_190 P) :: (nat_lit 191,hko_191 P) :: (nat_lit 193,hko_193 P) :: (nat_lit 194,hko_194 P) :: (nat_lit 205,hko_205 P) :: (nat_lit 206,hko_206 P) :: (nat_lit 217,hko_217 P) :: (nat_lit 218,hko_218 P) :: (nat_lit 221,hko_221 P) :: (nat_lit 222,hko_222 P) :: (nat_lit 228,hko_228 P) :: (nat_lit 229,hko_229 P) :: (nat_lit 235,hko_235 P) :: (nat_lit 236,hko_236 P) :: (nat_lit 242,hko_242 P) :: (nat_lit 243,hko_243 P) :: (nat_lit 249,hko_249 P) :: (nat_lit 250,hko_250 P) :: (nat_lit 256,hko_256 P) :: (nat_lit 257,hko_257 P) :: (nat_lit 263,hko_263 P) :: (nat_lit 264,hko_264 P) :: (nat_lit 270,hko_270 P) :: (nat_lit 271,hko_271 P) :: (nat_lit 277,hko_277 P) :: (nat_lit 278,hko_278 P) :: (nat_lit 282,hko_282 P) :: (nat_lit 283,hko_283 P) :: (nat_lit 287,hko_287 P) :: (nat_lit 288,hko_288 P) :: (nat_lit 294,hko_294 P) :: (nat_lit 295,hko_295 P) :: (nat_lit 299,hko_299 P) :: (nat_lit 300,hko_300 P) :: (nat_lit 304,hko_304 P) :: (nat_lit 305,hko_305 P) :: (nat_lit 309,hko_309 P) :: (nat_lit 310,hko_310 P) :: (nat_lit 316,hko_316 P) :: (nat_lit 317,hko_317 P) :: (nat_lit 323,hko_323 P) :: (nat_lit 324,hko_324 P) :: (nat_lit 328,hko_328 P) :: (nat_lit 329,hko_329 P) :: (nat_lit 333,hko_333 P) :: (nat_lit 334,hko_334 P) :: (nat_lit 338,hko_338 P) :: (nat_lit 339,hko_339 P) :: (nat_lit 345,hko_345 P) :: (nat_lit 346,hko_346 P) :: (nat_lit 354,hko_354 P) :: (nat_lit 360,hko_360 P) :: (nat_lit 361,hko_361 P) :: (nat_lit 395,hko_395 P) :: (nat_lit 396,hko_396 P) :: (nat_lit 405,hko_405 P) :: (nat_lit 406,hko_406 P) :: (nat_lit 423,hko_423 P) :: (nat_lit 424,hko_424 P) :: (nat_lit 433,hko_433 P) :: (nat_lit 434,hko_434 P) :: (nat_lit 451,hko_451 P) :: (nat_lit 452,hko_452 P) :: (nat_lit 458,hko_458 P) :: (nat_lit 459,hko_459 P) :: (nat_lit 463,hko_463 P) :: (nat_lit 464,hko_464 P) :: (nat_lit 466,hko_466 P) :: (nat_lit 467,hko_467 P) :: (nat_lit 494,hko_494 P) :: (nat_lit 495,hko_495 P) :: (nat_lit 512,hko_512 P) :: (nat_lit 513,hko_513 P) :: (nat_lit 529,hko_529 P) :: (nat_lit 530,hko_530 P) :: (nat_lit 545,hko_545 P) :: (nat_lit 546,hko_546 P) :: (nat_lit 562,hko_562 P) :: (nat_lit 563,hko_563 P) :: (nat_lit 578,hko_578 P) :: (nat_lit 579,hko_579 P) :: (nat_lit 595,hko_595 P) :: (nat_lit 596,hko_596 P) :: (nat_lit 621,hko_621 P) :: (nat_lit 622,hko_622 P) :: (nat_lit 639,hko_639 P) :: (nat_lit 640,hko_640 P) :: (nat_lit 656,hko_656 P) :: (nat_lit 657,hko_657 P) :: (nat_lit 672,hko_672 P) :: (nat_lit 673,hko_673 P) :: (nat_lit 689,hko_689 P) :: (nat_lit 690,hko_690 P) :: (nat_lit 698,hko_698 P) :: (nat_lit 699,hko_699 P) :: (nat_lit 705,hko_705 P) :: (nat_lit 706,hko_706 P) :: (nat_lit 712,hko_712 P) :: (nat_lit 713,hko_713 P) :: (nat_lit 717,hko_717 P) :: (nat_lit 718,hko_718 P) :: (nat_lit 724,hko_724 P) :: (nat_lit 725,hko_725 P) :: (nat_lit 731,hko_731 P) :: (nat_lit 732,hko_732 P) :: (nat_lit 736,hko_736 P) :: (nat_lit 737,hko_737 P) :: (nat_lit 743,hko_743 P) :: (nat_lit 744,hko_744 P) :: (nat_lit 750,hko_750 P) :: (nat_lit 751,hko_751 P) :: (nat_lit 755,hko_755 P) :: (nat_lit 756,hko_756 P) :: (nat_lit 760,hko_760 P) :: (nat_lit 761,hko_761 P) :: (nat_lit 767,hko_767 P) :: (nat_lit 768,hko_768 P) :: (nat_lit 772,hko_772 P) :: (nat_lit 773,hko_773 P) :: (nat_lit 777,hko_777 P) :: (nat_lit 778,hko_778 P) :: (nat_lit 784,hko_784 P) :: (nat_lit 785,hko_785 P) :: (nat_lit 791,hko_791 P) :: (nat_lit 792,hko_792 P) :: (nat_lit 796,hko_796 P) :: (nat_lit 797,hko_797 P) :: (nat_lit 801,hko_801 P) :: (nat_lit 802,hko_802 P) :: (nat_lit 806,hko_806 P) :: (nat_lit 807,hko_807 P) :: (nat_lit 813,hko_813 P) :: (nat_lit 814,hko_814 P) :: (nat_lit 818,hko_818 P) :: (nat_lit 819,hko_819 P) :: (nat_lit 825,hko_825 P) :: (nat_lit 826,hko_826 P) :: (nat_lit 830,hko_830 P) :: (nat_lit 831,hko_831 P) :: (nat_lit 837,hko_837 P) :: (nat_lit 838,hko_838 P) :: (nat_lit 842,hko_842 P) :: (nat_lit 843,hko_843 P) :: []
def hkA:List Addr:=[2,3,30,31,43,44,55,56,67,68,86,87,105,106,117,118,136,137,152,153,155,156,171,172,174,175,190,191,193,194,205,206,217,218,221,222,228,229,235,236,242,243,249,250,256,257,263,264,270,271,277,278,282,283,287,288,294,295,299,300,304,305,309,310,316,317,323,324,328,329,333,334,338,339,345,346,354,360,361,395,396,405,406,423,424,433,434,451,452,458,459,463,464,466,467,494,495,512,513,529,530,545,546,562,563,578,579,595,596,621,622,639,640,656,657,672,673,689,690,698,699,705,706,712,713,717,718,724,725,731,732,736,737,743,744,750,751,755,756,760,761,767,768,772,773,777,778,784,785,791,792,796,797,801,802,806,807,813,814,818,819,825,826,830,831,837,838,842,843]
theorem hkA_eq:∀ P,hkA=(HK P).map (·.1):=fun _=>by kernel_rfl
def hkV:Program:=W.view PySem.Challenge.pw_doletaper_k46_whole_order [0,2,3,4,5,6,7,8,9,10,11,12,13,14,16,17,18,19,20,21,22,23,24,26,28,29,30,32,33,34,35,36,37,38,39,40,42,43,44,46,47,48,49,50,51,52,54,55,56,57,58,59,60,61,62,63,64,65,66,67,68,69,70,71,72,73,74,75,76,77,78]
open PySem PySem.W in
def hdL1 (p q:Program) (A:List Addr) (rs:W.WRecords) (w:World) (os:OsState):=Hd.answer p 21 4000 10 (fun s=>((W.staticsOk (importedModules p.main.body) (W.boot_heap w.params) s.heap&&W.namesBound p s.heap&&W.gensDone s&&W.laidKept (W.boot_heap w.params) s.heap),A.map s.heap.get?)) w os
open PySem PySem.W in
def hdR1 (p q:Program) (f:Params->W.Frag) (w:World):=Hd.answer0 p 4 (true,(f w.params).map fun p=>some p.2)
theorem qL1:hdL1=hdL1:=rfl
theorem qR1:hdR1=hdR1:=rfl
name_quick hdL1 for hdL1 by qL1
name_quick hdR1 for hdR1 by qR1
theorem By (w:World) (os:OsState):hdL1 PySem.Challenge.pw_doletaper_k46_whole_order hkV hkA (W.RowW.records (W.OpenRow.toRowW PySem.Challenge.rw_doletaper_k46_whole_order.row)) w os=hdR1 PySem.Challenge.pw_doletaper_k46_whole_order hkV HK w:=by
 rw [PySem.W.Fast.hdL1_eq,PySem.W.Fast.hdR1_eq]
 (kernel_rfl)
open PySem PySem.W in
def hdL2 (p q:Program) (A:List Addr) (rs:W.WRecords) (w:World) (os:OsState):=Hd.answer p 21 4000 10 (fun s=>seen ((recsOf q).map (·.name)) (ownsOf q) [] { s with gens:=#[] }) w os
open PySem PySem.W in
def hdR2 (p q:Program) (f:Params->W.Frag) (w:World):=Hd.answer0 p 4 (expectedOf q)
theorem qL2:hdL2=hdL2:=rfl
theorem qR2:hdR2=hdR2:=rfl
name_quick hdL2 for hdL2 by qL2
name_quick hdR2 for hdR2 by qR2
theorem Bx (w:World) (os:OsState):hdL2 PySem.Challenge.pw_doletaper_k46_whole_order hkV hkA (W.RowW.records (W.OpenRow.toRowW PySem.Challenge.rw_doletaper_k46_whole_order.row)) w os=hdR2 PySem.Challenge.pw_doletaper_k46_whole_order hkV HK w:=by
 rw [PySem.W.Fast.hdL2_eq,PySem.W.Fast.hdR2_eq]
 (kernel_rfl)
open PySem PySem.W in
def hdL31 (p q:Program) (A:List Addr) (rs:W.WRecords) (w:World) (os:OsState):=Hd.answer p 21 4000 10 (fun s=>(s.heap.bltView)) w os
open PySem PySem.W in
def hdR31 (p q:Program) (f:Params->W.Frag) (w:World):=Hd.answer0 p 4 bltViewBooted
theorem HP:hdL31=hdL31:=rfl
theorem HL:hdR31=hdR31:=rfl
name_quick hdL31 for hdL31 by HP
name_quick hdR31 for hdR31 by HL
theorem MD (w:World) (os:OsState):hdL31 PySem.Challenge.pw_doletaper_k46_whole_order hkV hkA (W.RowW.records (W.OpenRow.toRowW PySem.Challenge.rw_doletaper_k46_whole_order.row)) w os=hdR31 PySem.Challenge.pw_doletaper_k46_whole_order hkV HK w:=by
 rw [PySem.W.Fast.hdL31_eq,PySem.W.Fast.hdR31_eq]
 (kernel_rfl)
open PySem PySem.W in
def hdL32 (p q:Program) (A:List Addr) (rs:W.WRecords) (w:World) (os:OsState):=Hd.answer p 21 4000 10 (fun s=>(s.heap.keysOk (looseW q []) ((recsOf q).map (·.name)) ((litsOf q).map (·.1)) ((clssOf q (looseW q [])).map (·.name))&&s.heap.accountedOkI (importedModules p.main.body)&&s.heap.isNs mainGlobals&&s.heap.isNs builtinsNs&&tablesOk q s.heap&&(fun s=>W.xlAt q [] s&&W.recOk rs s) s&&(if true then s.gens.size == 0 else !leftWithCleanup s.gens))) w os
open PySem PySem.W in
def hdR32 (p q:Program) (f:Params->W.Frag) (w:World):=Hd.answer0 p 4 true
theorem HN:hdL32=hdL32:=rfl
theorem HJ:hdR32=hdR32:=rfl
name_quick hdL32 for hdL32 by HN
name_quick hdR32 for hdR32 by HJ
theorem MC (w:World) (os:OsState):hdL32 PySem.Challenge.pw_doletaper_k46_whole_order hkV hkA (W.RowW.records (W.OpenRow.toRowW PySem.Challenge.rw_doletaper_k46_whole_order.row)) w os=hdR32 PySem.Challenge.pw_doletaper_k46_whole_order hkV HK w:=by
 rw [PySem.W.Fast.hdL32_eq,PySem.W.Fast.hdR32_eq]
 (kernel_rfl)
open PySem PySem.W in
def hdL33 (p q:Program) (A:List Addr) (rs:W.WRecords) (w:World) (os:OsState):=Hd.answer p 21 4000 10 (fun s=>(tabsOk q s)) w os
open PySem PySem.W in
def hdR33 (p q:Program) (f:Params->W.Frag) (w:World):=Hd.answer0 p 4 true
theorem HM:hdL33=hdL33:=rfl
theorem HI:hdR33=hdR33:=rfl
name_quick hdL33 for hdL33 by HM
name_quick hdR33 for hdR33 by HI
theorem MB (w:World) (os:OsState):hdL33 PySem.Challenge.pw_doletaper_k46_whole_order hkV hkA (W.RowW.records (W.OpenRow.toRowW PySem.Challenge.rw_doletaper_k46_whole_order.row)) w os=hdR33 PySem.Challenge.pw_doletaper_k46_whole_order hkV HK w:=by
 rw [PySem.W.Fast.hdL33_eq,PySem.W.Fast.hdR33_eq]
 (kernel_rfl)
open PySem PySem.W in
def hdL4 (p q:Program) (A:List Addr) (rs:W.WRecords) (w:World) (os:OsState):=Hd.answer p 21 4000 10 (fun s=>(pinSeenD q (drecsOf q) s,plainSeenE q (looseW q []) s,plainSeenD q [] s,wideSeen q s,clsSeenW q [] s)) w os
open PySem PySem.W in
def hdR4 (p q:Program) (f:Params->W.Frag) (w:World):=Hd.answer0 p 4 (pinGoodD (drecsOf q),plainGoodE q (looseW q []),plainGoodD q [],wideGood q,clsGoodW q [])
theorem qL4:hdL4=hdL4:=rfl
theorem qR4:hdR4=hdR4:=rfl
name_quick hdL4 for hdL4 by qL4
name_quick hdR4 for hdR4 by qR4
theorem Bw (w:World) (os:OsState):hdL4 PySem.Challenge.pw_doletaper_k46_whole_order hkV hkA (W.RowW.records (W.OpenRow.toRowW PySem.Challenge.rw_doletaper_k46_whole_order.row)) w os=hdR4 PySem.Challenge.pw_doletaper_k46_whole_order hkV HK w:=by
 rw [PySem.W.Fast.hdL4_eq,PySem.W.Fast.hdR4_eq]
 (kernel_rfl)
theorem hd_left:W.LeftO PySem.Challenge.pw_doletaper_k46_whole_order hkV [] (fun s=>W.xlAt hkV [] s&&W.recOk (W.RowW.records (W.OpenRow.toRowW PySem.Challenge.rw_doletaper_k46_whole_order.row)) s) (W.Hook.obs (W.kHook HK hkA hkA_eq)) (W.Hook.val (W.kHook HK hkA hkA_eq)) 400000:=
 Hd.left_ok6 (c:=21) (F:=4000) (M:=10) (n:=4) (by kernel_rfl) rfl (fun s=>by kernel_rfl) Hd.size By Bx MD MC MB Bw (by kernel_rfl)
end My
namespace L2
open PySem PySem.Spec PyProof.Rows
abbrev Key:=Sum Int Str
def JA:Key->Value->Bool
 | .inl k,v=>Value.isInt k v
 | .inr x,v=>Value.isStrOf x v
def HQ (w:World):Key->Int
 | .inl k=>hashInt k
 | .inr x=>hashStr w x
theorem Q0:∀ {k:Key}{v:Value},JA k v=true->(∃ i t,k=Sum.inl i/\v=Value.int i t)∨(∃ x t,k=Sum.inr x/\v=Value.str x t)
 | .inl i,v,h=>by
  obtain ⟨t,e⟩:=Value.isInt_shape (k:=i) (v:=v) h;exact .inl ⟨i,t,rfl,e⟩
 | .inr x,v,h=>by
  obtain ⟨t,e⟩:=Value.isStrOf_shape (x:=x) (v:=v) h;exact .inr ⟨x,t,rfl,e⟩
theorem Nd (i:Int) (t:Tok):JA (.inl i) (.int i t)=true:=by simp [JA,Value.isInt]
theorem Nc (x:Str) (t:Tok):JA (.inr x) (.str x t)=true:=by simp [JA,Value.isStrOf]
theorem PM (a b:Int):decide ((Sum.inl a:Key)=Sum.inl b)=(a == b):=by
 by_cases e:a=b
 ·subst e;simp
 ·have h:¬ (Sum.inl a:Key)=Sum.inl b:=fun q=>e (Sum.inl.inj q)
  rw [F6 h];exact (beq_eq_false_iff_ne.mpr e).symm
theorem PJ (a b:Str):decide ((Sum.inr a:Key)=Sum.inr b)=decide (a=b):=by
 by_cases e:a=b
 ·subst e;simp
 ·have h:¬ (Sum.inr a:Key)=Sum.inr b:=fun q=>e (Sum.inr.inj q)
  rw [F6 h,F6 e]
theorem PL (a:Int) (b:Str):decide ((Sum.inl a:Key)=Sum.inr b)=false:=F6 (fun q=>nomatch q)
theorem PK (a:Str) (b:Int):decide ((Sum.inr a:Key)=Sum.inl b)=false:=F6 (fun q=>nomatch q)
def QX (prog:Program) (w:World):PySem.KeyKind prog w Key where
 is:=JA
 hash:=HQ w
 inj:=fun v a b ha hb=>by
  rcases Q0 ha with ⟨i,t,rfl,rfl⟩ | ⟨x,t,rfl,rfl⟩
  ·rcases Q0 hb with ⟨j,u,rfl,e⟩ | ⟨y,u,rfl,e⟩
   ·injection e with e1 _;rw [e1]
   ·exact nomatch e
  ·rcases Q0 hb with ⟨j,u,rfl,e⟩ | ⟨y,u,rfl,e⟩
   ·exact nomatch e
   ·injection e with e1 _;rw [e1]
 byValue:=fun k v h=>by
  rcases Q0 h with ⟨i,t,rfl,rfl⟩ | ⟨x,t,rfl,rfl⟩ <;> rfl
 pyHash:=fun hv h=>by
  rcases Q0 hv with ⟨i,t,rfl,rfl⟩ | ⟨x,t,rfl,rfl⟩
  ·exact wpAny_pyHash_int h
  ·exact wpAny_pyHash_str h
 eqBool:=fun hu hv h=>by
  rcases Q0 hu with ⟨i,t,rfl,rfl⟩ | ⟨x,t,rfl,rfl⟩
  ·rcases Q0 hv with ⟨j,u,rfl,rfl⟩ | ⟨y,u,rfl,rfl⟩
   ·rw [PM] at h;exact wpAny_eqBool_int h
   ·rw [PL] at h;exact SeqAt.EqAt.int_str i t y u _ _ _ _ h
  ·rcases Q0 hv with ⟨j,u,rfl,rfl⟩ | ⟨y,u,rfl,rfl⟩
   ·rw [PK] at h;exact SeqAt.EqAt.str_int x t j u _ _ _ _ h
   ·rw [PJ] at h;exact wpAny_eqBool_str h
 «strs»:=fun k x t v h=>by
  rcases Q0 h with ⟨i,u,rfl,e⟩ | ⟨y,u,rfl,e⟩
  ·exact nomatch e
  ·injection e with e1 _
   subst e1;cases v <;> rfl
theorem VS (prog:Program) (w:World) (i:Int) (t:Tok):(QX prog w).is (.inl i) (.int i t)=true:=Nd i t
theorem VR (prog:Program) (w:World) (x:Str) (t:Tok):(QX prog w).is (.inr x) (.str x t)=true:=Nc x t
inductive V where
 | non | bl (b:Bool) | int (i:Int) | str (x:Str) | byt (b:Array UInt8) | flt (b:UInt64) | ref (a:Addr) | ty (n:String)
 deriving DecidableEq
def RelV:V->Value->Prop
 | .non,u=>u=Value.none
 | .bl b,u=>u=Value.bool b
 | .int i,u=>∃ t,u=Value.int i t
 | .str x,u=>∃ t,u=Value.str x t
 | .byt b,u=>∃ t,u=Value.bytes b t
 | .flt b,u=>∃ t,u=Value.float b t
 | .ref a,u=>u=Value.ref a
 | .ty n,u=>u=Value.type n
abbrev Vals:List V->List Value->Prop:=Paired RelV
theorem Vals.length {xs:List V}(r:Vals xs us):xs.length=us.length:=Paired.length r
theorem Vals.get:∀ {xs:List V}{us:List Value}{i:Nat}{x:V},Vals xs us->xs[i]?=some x->∃ u,us[i]?=some u/\RelV x u
 | _,_,_,_,.nil,e=>by simp at e
 | _,_,0,_,.cons r _,e=>by simp at e;subst e;exact ⟨_,rfl,r⟩
 | _,_,i+1,x,.cons _ t,e=>by
  obtain ⟨u,h1,h2⟩:=Vals.get (i:=i) (x:=x) t (by simpa using e);exact ⟨u,by simpa using h1,h2⟩
theorem Vals.append:∀ {xs ys:List V}{us ws:List Value},Vals xs us->Vals ys ws->Vals (xs++ys) (us++ws)
 | _,_,_,_,.nil,s=>s
 | _,_,_,_,.cons r t,s=>.cons r (Vals.append t s)
theorem Vals.take:∀ {xs:List V}{us:List Value}(n:Nat),Vals xs us->Vals (xs.take n) (us.take n)
 | _,_,0,_=>.nil
 | _,_,_+1,.nil=>.nil
 | _,_,n+1,.cons r t=>.cons r (Vals.take n t)
theorem Vals.drop:∀ {xs:List V}{us:List Value}(n:Nat),Vals xs us->Vals (xs.drop n) (us.drop n)
 | _,_,0,r=>r
 | _,_,_+1,.nil=>.nil
 | _,_,n+1,.cons _ t=>Vals.drop n t
def RelO:Option V->Option Value->Prop
 | some v,some u=>RelV v u
 | none,none=>True
 | _,_=>False
def KV {κ:Type}:List (κ×V)->List (κ×Value)->Prop:=Paired fun (p:κ×V) (q:κ×Value)=>p.1=q.1/\RelV p.2 q.2
def kV:Key->V
 | .inl i=>.int i
 | .inr x=>.str x
inductive HO where
 | lst (xs:List V)
 | tup (xs:List V)
 | dK (kvs:List (Key×V)) | dT (kvs:List (List Key×V))
 | set (S:Int->Bool) (n:Nat)
 | ins (C dx:Addr) (fs:List (Str×V))
 | own (x:Addr)
 | xd (fs:List (Str×V))
 | met (f x:Addr)
 | rng (lo hi:Int)
 | frz (o:Obj) (u:HO)
 | tbl (ps:Array Value)
 | ext (φ:Heap->Prop)
abbrev Hp:=Addr->Option HO
def upd (H:Hp) (a:Addr) (o:HO):Hp:=fun b=>if b=a then some o else H b
theorem Qe {H:Hp}{o:HO}:upd H a o a=some o:=by unfold upd;rw [Fs rfl]
theorem Qj {H:Hp}{b:Addr}{o:HO}(h:b≠a):upd H a o b=H b:=by unfold upd;rw [Fl h]
theorem VQ {H:Hp}{b:Addr}{o u:HO}(h:H a=some o) (h':H b=some u) (d:o≠u):a≠b:=by
 intro e;subst e;rw [h] at h';exact d (FF h')
theorem Zc {H:Hp}{b:Addr}{o:HO}(h:H a=some o) (h':H b=none):a≠b:=by
 intro e;subst e;rw [h] at h';cases h'
section
variable (P:Program) (w:World)
def ObjOk (H:Hp) (h:Heap) (a:Addr):HO->Prop
 | .lst xs=>xs.length<=sizeLine/\∃ (its:List Value) (n:Nat),Vals xs its/\h.get? a=some { cls:=.type "list",data:=.seq its.toArray n }
 | .tup xs=>xs.length<=sizeLine/\∃ its:List Value,Vals xs its/\IsTup h a its.toArray
 | .dK kvs=>kvs.length<=sizeLine/\(a == sysModules)=false/\∃ vs,KV kvs vs/\h.DictOf (QX P w) a vs
 | .dT kvs=>kvs.length<=sizeLine/\(a == sysModules)=false/\∃ xs:List (List Key×Addr×Value),
   Paired (fun (p:List Key×V) (q:List Key×Addr×Value)=>p.1=q.1/\H q.2.1=some (.tup (p.1.map kV))/\RelV p.2 q.2.2) kvs xs /\
   ∃ o es ep,h.get? a=some o/\o.ExactDict/\o.data=.dict es ep/\es.toList=xs.map (entryOfKey (tupleKind (QX P w)))/\(xs.map (·.1)).Nodup
 | .set S n=>h.SetOf (intKind P w) a S n
 | .ins C dx fs=>H dx=some (.own a)/\fs.length<=1000/\dx≠a/\h.get? a=some (W.instObj C dx) /\
   ∃ mA,h.Ns1 dx mA/\(∀ f,RelO (fs.lookup f) (mA f))/\PySem.Within mA (fs.map (·.1))
 | .own _=>∃ o,h.get? a=some o
 | .xd fs=>∃ mA,h.Ns1 a mA/\∀ f,RelO (fs.lookup f) (mA f)
 | .rng lo hi=>∃ t u v,h.get? a=some { cls:=.type "range",data:=.fields #[.int lo t,.int hi u,.int 1 v] }
 | .frz o u=>h.get? a=some o/\ObjOk H h a u
 | .tbl ps=>h.get? a=some { cls:=.none,data:=.fields ps }
 | .met f x=>h.get? a=some (W.methodObj (.ref f) (.ref x))
 | .ext φ=>φ h/\(∃ o,h.get? a=some o)/\∀ h1 h2:Heap,φ h1->(∀ o,h1.get? a=some o->h2.get? a=some o)->φ h2
def HOk (H:Hp) (h:Heap):Prop:=∀ a o,H a=some o->ObjOk P w H h a o
end
section
variable {P:Program} {w:World} {H H':Hp} {h h':Heap} {a:Addr} {o:HO}
theorem ObjOk.lt (x:ObjOk P w H h a o):a<h.objs.size:=by
 cases o with
 | lst xs=>obtain ⟨_,_,_,_,e⟩:=x;exact Fy e
 | tup xs=>obtain ⟨_,_,_,p⟩:=x;exact p.lt
 | dK kvs=>obtain ⟨_,_,_,_,o,_,_,e,_⟩:=x;exact Fy e
 | dT kvs=>obtain ⟨_,_,_,_,o,_,_,e,_⟩:=x;exact Fy e
 | set S n=>obtain ⟨o,_,_,_,e,_⟩:=x;exact Fy e
 | ins C dx fs=>obtain ⟨_,_,_,e,_⟩:=x;exact Fy e
 | own y=>obtain ⟨_,e⟩:=x;exact Fy e
 | xd fs=>obtain ⟨_,⟨_,_,_,e,_⟩,_⟩:=x;exact Fy e
 | rng lo hi=>obtain ⟨_,_,_,e⟩:=x;exact Fy e
 | frz ob u=>obtain ⟨e,_⟩:=x;exact Fy e
 | tbl ps=>exact Fy (show h.get? a=some _ from x)
 | met f y=>exact Fy (show h.get? a=some _ from x)
 | ext φ=>obtain ⟨_,⟨_,e⟩,_⟩:=x;exact Fy e
theorem Paired.mapP {F G:α->β->Prop}:∀ {l₁:List α}{l₂:List β},Paired F l₁ l₂->(∀ a b,F a b->G a b)->Paired G l₁ l₂
 | _,_,.nil,_=>.nil
 | _,_,.cons r t,f=>.cons (f _ _ r) (Paired.mapP t f)
theorem ObjOk.stay (x:ObjOk P w H h a o) (k:∀ b u,(b=a∨H b=some (.own a))->h.get? b=some u->h'.get? b=some u)
  (ho:∀ b,H b=some (.own a)->H' b=some (.own a)) (ht:∀ b xs,H b=some (.tup xs)->H' b=some (.tup xs)):ObjOk P w H' h' a o:=by
 induction o with
 | lst xs=>obtain ⟨z,its,n,r,e⟩:=x;exact ⟨z,its,n,r,k _ _ (.inl rfl) e⟩
 | tup xs=>obtain ⟨z,its,r,ob,e,c⟩:=x;exact ⟨z,its,r,ob,k _ _ (.inl rfl) e,c⟩
 | dK kvs=>obtain ⟨z,y,vs,r,ob,es,ep,e,c⟩:=x;exact ⟨z,y,vs,r,ob,es,ep,k _ _ (.inl rfl) e,c⟩
 | dT kvs=>
  obtain ⟨z,y,xs,r,ob,es,ep,e,c⟩:=x;exact ⟨z,y,xs,Paired.mapP r fun p q z=>⟨z.1,ht _ _ z.2.1,z.2.2⟩,ob,es,ep,k _ _ (.inl rfl) e,c⟩
 | set S n=>obtain ⟨ob,es,ep,t,e,c⟩:=x;exact ⟨ob,es,ep,t,k _ _ (.inl rfl) e,c⟩
 | ins C dx fs=>
  obtain ⟨d,z,ne,e,mA,⟨od,es,ep,e2,c⟩,r⟩:=x;exact ⟨ho _ d,z,ne,k _ _ (.inl rfl) e,mA,⟨od,es,ep,k _ _ (.inr d) e2,c⟩,r⟩
 | own y=>obtain ⟨ob,e⟩:=x;exact ⟨ob,k _ _ (.inl rfl) e⟩
 | xd fs=>obtain ⟨mA,⟨od,es,ep,e,c⟩,r⟩:=x;exact ⟨mA,⟨od,es,ep,k _ _ (.inl rfl) e,c⟩,r⟩
 | rng lo hi=>obtain ⟨t,u,v,e⟩:=x;exact ⟨t,u,v,k _ _ (.inl rfl) e⟩
 | frz ob u ih=>obtain ⟨e,q⟩:=x;exact ⟨k _ _ (.inl rfl) e,ih q⟩
 | tbl ps=>
  have e:h.get? a=some { cls:=.none,data:=.fields ps }:=x;show h'.get? a=some { cls:=.none,data:=.fields ps };exact k a _ (.inl rfl) e
 | met f y=>
  have e:h.get? a=some (W.methodObj (.ref f) (.ref y)):=x;show h'.get? a=some (W.methodObj (.ref f) (.ref y));exact k a _ (.inl rfl) e
 | ext φ=>obtain ⟨p,⟨o,e⟩,st⟩:=x;exact ⟨st _ _ p fun o q=>k _ _ (.inl rfl) q,⟨o,k _ _ (.inl rfl) e⟩,st⟩
theorem HOk.lt (x:HOk P w H h) (e:H a=some o):a<h.objs.size:=(x a o e).lt
theorem HOk.fresh (x:HOk P w H h) (e:h.objs.size<=a):H a=none:=by
 cases q:H a with
 | none=>rfl
 | some u=>exact absurd (FP (x.lt q) e) (FM _)
theorem HOk.kept (x:HOk P w H h) (k:∀ b u,h.get? b=some u->h'.get? b=some u):HOk P w H h':=fun a o e=>
 (x a o e).stay (fun b u _ q=>k b u q) (fun _ q=>q) fun _ _ q=>q
theorem HOk.laid (x:HOk P w H h) (k:∀ b u,h.get? b=some u->h'.get? b=some u) (hp:h.objs.size<=a) (new:ObjOk P w (upd H a o) h' a o):HOk P w (upd H a o) h':=fun b u e=>by
 have hn:=x.fresh hp;by_cases hb:b=a
 ·subst hb;rw [Qe] at e;cases e;exact new
 ·rw [Qj hb] at e;exact (x b u e).stay (fun c v _ q=>k c v q) (fun c q=>by rw [Qj (Zc q hn)];exact q) fun c xs q=>by rw [Qj (Zc q hn)];exact q
end
def Rd (H:Hp) (a:Addr) (u:HO):Prop:=H a=some u∨∃ o,H a=some (.frz o u)
theorem Rd.ok {H:Hp}{u:HO}(r:Rd H a u) (x:HOk P w H h):ObjOk P w H h a u:=by
 rcases r with r | ⟨o,r⟩
 ·exact x a u r
 ·obtain ⟨_,q⟩:=x a _ r;exact q
def Mut:Option HO->Prop
 | some (.lst _)=>True
 | some (.dK _)=>True
 | some (.dT _)=>True
 | some (.set _ _)=>True
 | some (.ins _ _ _)=>True
 | some (.ext _)=>True
 | _=>False
section
variable {P:Program} {w:World} {H:Hp} {h h':Heap} {x e:Addr} {o':HO}
theorem HOk.write (ok:HOk P w H h) (mu:Mut (H x)) (he:e=x∨H e=some (.own x)) (k:∀ b u,b≠e->h.get? b=some u->h'.get? b=some u) (heo:∃ u,h'.get? e=some u)
  (new:ObjOk P w (upd H x o') h' x o'):HOk P w (upd H x o') h':=fun b u q=>by
 have nown:∀ c y,H c=some (.own y)->c≠x:=fun c y r z=>by subst z;rw [r] at mu;exact mu
 have ntup:∀ c xs,H c=some (.tup xs)->c≠x:=fun c xs r z=>by subst z;rw [r] at mu;exact mu
 by_cases hb:b=x
 ·subst hb;rw [Qe] at q;cases q;exact new
 ·rw [Qj hb] at q;by_cases hbe:b=e
  ·have q':H b=some (.own x):=by
    rcases he with z | z
    ·exact absurd (hbe.trans z) hb
    ·rw [hbe];exact z
   rw [q] at q';cases q';obtain ⟨v,hv⟩:=heo;exact ⟨v,by rw [hbe];exact hv⟩
  ·refine (ok b u q).stay (fun c v hc r=>k c v ?_ r) (fun c r=>by rw [Qj (nown c b r)];exact r) fun c xs r=>by rw [Qj (ntup c xs r)];exact r
   rcases hc with rfl | hc
   ·exact hbe
   ·rintro rfl;rcases he with z | z
    ·exact nown c b hc z
    ·rw [hc] at z;cases z;exact hb rfl
end
structure Un (fs ex:List Addr) (H H':Hp) (h h':Heap):Prop where
 keep:∀ b o,h.get? b=some o->H b=none->b ∉ fs->b ∉ ex->h'.get? b=some o
 slot:∀ b o,h.get? b=some o->H b=none->b∈fs->b ∉ ex->∃ sl,h'.get? b=some { o with slots:=sl }
 free:∀ b o,h.get? b=some o->H b=none->b ∉ ex->H' b=none
 there:∀ b o,h.get? b=some o->b ∉ ex->∃ o',h'.get? b=some o'
 tups:∀ b xs,H b=some (.tup xs)->H' b=some (.tup xs)
 frzs:∀ b o u,H b=some (.frz o u)->H' b=some (.frz o u)
 tbls:∀ b ps,H b=some (.tbl ps)->∃ more,H' b=some (.tbl (ps++more))
section
variable {fs fs' ex ex':List Addr} {H H1 H2:Hp} {h h1 h2 h':Heap} {a x e:Addr} {o:HO}
theorem Un.any (u:Un fs ex H H1 h h1) {b:Addr}{ob:Obj}(q:h.get? b=some ob) (n:H b=none) (hx:b ∉ ex):∃ sl,h1.get? b=some { ob with slots:=sl }:=by
 by_cases hb:b∈fs
 ·exact u.slot b ob q n hb hx
 ·exact ⟨ob.slots,u.keep b ob q n hb hx⟩
theorem Un.kept (k:∀ b u,h.get? b=some u->h'.get? b=some u):Un fs ex H H h h':=
 ⟨fun b ob q _ _ _=>k b ob q,fun b ob q _ _ _=>⟨ob.slots,k b ob q⟩,fun _ _ _ n _=>n,fun b ob q _=>⟨ob,k b ob q⟩,fun _ _ q=>q,fun _ _ _ q=>q,fun _ ps q=>⟨#[],by rw [q];simp⟩⟩
theorem Un.refl:Un fs ex H H h h:=Un.kept fun _ _ q=>q
theorem Un.laid (k:∀ b u,h.get? b=some u->h'.get? b=some u) (hp:h.objs.size<=a) (hn:H a=none):Un fs ex H (upd H a o) h h' where
 keep:=fun b u q _ _ _=>k b u q
 slot:=fun b u q _ _ _=>⟨u.slots,k b u q⟩
 free:=fun b u q n _=>by rw [Qj (FI (FP (Fy q) hp))];exact n
 there:=fun b u q _=>⟨u,k b u q⟩
 tups:=fun b xs q=>by rw [Qj (Zc q hn)];exact q
 frzs:=fun b u xs q=>by rw [Qj (Zc q hn)];exact q
 tbls:=fun b ps q=>⟨#[],by rw [Qj (Zc q hn),q];simp⟩
theorem Un.write (mu:Mut (H x)) (he:e=x∨H e=some (.own x)) (k:∀ b u,b≠e->h.get? b=some u->h'.get? b=some u) (heo:∃ u,h'.get? e=some u):Un fs ex H (upd H x o) h h':=by
 have hx:∀ b,H b=none->b≠x:=fun b n z=>by subst z;rw [n] at mu;exact mu
 have hb:∀ b,H b=none->b≠e:=fun b n z=>by
  subst z;rcases he with r | r
  ·exact hx b n r
  ·rw [n] at r;cases r
 have hm:∀ b u,H b=some u->¬ Mut (some u)->b≠x:=fun b u q nm z=>by subst z;rw [q] at mu;exact nm mu
 refine ⟨fun b u q n _ _=>k b u (hb b n) q,fun b u q n _ _=>⟨u.slots,k b u (hb b n) q⟩,fun b u q n _=>by rw [Qj (hx b n)];exact n,fun b u q _=>?_,
  fun b xs q=>by rw [Qj (hm b _ q fun z=>z)];exact q,fun b u xs q=>by rw [Qj (hm b _ q fun z=>z)];exact q,fun b ps q=>⟨#[],by rw [Qj (hm b _ q fun z=>z),q];simp⟩⟩
 by_cases hbe:b=e
 ·subst hbe;exact heo
 ·exact ⟨u,k b u hbe q⟩
end
def trk (h:Heap) (H:Hp):List Addr:=(List.range h.objs.size).filter fun a=>(H a).isSome
def Vj (h:Heap) (H:Hp):Heap:=W.hideAll h (trk h H)
theorem Nh (h:Heap) (H:Hp):(Vj h H).objs.size=h.objs.size:=W.hideAll_size _ _
theorem MA {H:Hp}{b:Addr}{o:Obj}(e:h.get? b=some o) (n:H b=none):(Vj h H).get? b=some o:=
 W.hideAll_get _ e fun hm=>by
  have q:(H b).isSome=true:=(F1.mp hm).2;rw [n] at q;simp at q
theorem Bi {H:Hp}{b:Addr}{o:Obj}(e:(Vj h H).get? b=some o):h.get? b=some o/\H b=none:=by
 have e':h.get? b=some o:=W.of_hideAll (trk h H) e;refine ⟨e',?_⟩;cases q:H b with
 | none=>rfl
 | some x=>
  have hm:b∈trk h H:=F1.mpr ⟨List.mem_range.mpr (Fy e'),by simp [q]⟩;have z:(Vj h H).get? b=none:=W.hideAll_none (trk h H) hm;rw [z] at e;cases e
def BV (g h:Heap) (L:Addr):List (Addr×Obj):=(List.range h.objs.size).filterMap fun a=>if a=L∨(g.get? a).isSome=true then none else (h.get? a).map fun o=>(a,o)
def rest (g h:Heap) (L d:Addr):List (Addr×Obj):=(BV g h L).filter fun p=>decide (p.1≠d)
structure Mod (K:W.Frag) (mg:Str->Option Value) (base:Heap):Prop where
 kin:K.In base
 glob:base.Ns mainGlobals mg
 blt:∃ mb,base.Ns builtinsNs mb/\∀ x:Str,x≠"__name__"->mb x=bootBuiltins x
 nolimit:base.NoLimit
structure Cx where
 prog:Program
 w:World
 K:W.Frag
 mg:Str->Option Value
 base:Heap
 A:Around
 N:List Str
 s₀:Shared
 H₀:Hp
 env:Env
 outer:List Env
 stack:List Env
 ex:List Addr
 fn:Str->Bool
 calm:Bool
 pn:List (Addr×Obj)
 xe:Value->Shared->Prop
def frs (l:List Env):List Addr:=l.filterMap (·.frame)
abbrev Cx.fs (X:Cx):List Addr:=frs X.outer
def Vis (sc:Scope) (x:Str):Prop:=sc.names.lookup x=some .local∨sc.names.lookup x=some .cell∨sc.names.lookup x=some .free
def Loc (sc:Scope) (x:Str):Prop:=sc.names.lookup x=some .local∨sc.names.lookup x=some .cell
def Fh (env:Env) (h:Heap) (m:Str->Option Value) (x:Str) (u:Value):Prop:=
 (env.kindOf x=some .local/\m x=some u)∨((env.kindOf x=some .cell∨env.kindOf x=some .free)/\∃ c,env.cells.lookup x=some c/\h.IsCell c (some u))
structure Cx.Ok (X:Cx):Prop where
 mod:Mod X.K X.mg X.base
 kind:X.env.scope.kind=.function
 glob:X.env.globals=mainGlobals
 blt:X.env.builtins=builtinsNs
 above:X.s₀.heap.objs.size<=X.env.locals
 inj:∀ x y c,X.env.cells.lookup x=some c->X.env.cells.lookup y=some c->x=y
 has:∀ x,(X.env.kindOf x=some .cell∨X.env.kindOf x=some .free)->∃ c,X.env.cells.lookup x=some c
 cab:∀ x c,X.fn x=true->X.env.cells.lookup x=some c->X.s₀.heap.objs.size<=c
 hd:X.calm=true->X.A.handled=none
 frames:X.A.frames=some X.stack
 stk:X.stack=X.outer∨(X.stack=X.env :: X.outer/\X.env.frame=some X.env.locals)
 exf:∀ b∈X.ex,b≠X.env.locals/\∀ x c,X.env.cells.lookup x=some c->c≠b
 bs:∀ b o,X.base.get? b=some o->X.s₀.heap.get? b=some o/\X.H₀ b=none
 bsz:X.base.objs.size<=X.s₀.heap.objs.size
 noex:∀ b o,X.base.get? b=some o->b ∉ X.ex
 exfs:∀ b∈X.ex,b ∉ X.fs
 funs:X.s₀.heap.FunFrames X.base X.outer
 frf:∀ b∈X.fs,X.H₀ b=none
structure Inv (X:Cx) (pins:List (Addr×Obj)) (σ:List (Option V)) (H:Hp) (s:Shared):Prop where
 ok:X.Ok
 os:s.os=X.s₀.os
 bare:AllBare s.gens
 base:Un X.fs X.ex X.H₀ H X.s₀.heap s.heap
 loc:∃ m,s.heap.Ns X.env.locals m/\∀ (i:Nat) (x:Str) (v:V),X.N[i]?=some x->σ[i]?=some (some v)->Vis X.env.scope x->∃ u,RelV v u/\Fh X.env s.heap m x u
 cell:∀ x c,X.env.cells.lookup x=some c->∃ v,s.heap.IsCell c v
 free:H X.env.locals=none
 freeC:∀ x c,X.env.cells.lookup x=some c->H c=none
 pin:∀ p∈X.pn++pins,s.heap.get? p.1=some p.2/\H p.1=none/\p.1≠X.env.locals/\p.1 ∉ X.fs/\∀ v,p.2.data≠.cell v
 hok:HOk X.prog X.w H s.heap
 len:σ.length=X.N.length
section
variable {X:Cx} {pins:List (Addr×Obj)} {σ:List (Option V)} {H H':Hp} {s:Shared} {h':Heap}
theorem Cx.Ok.nofr (ok:X.Ok) {b:Addr}{o:Obj}(e:X.base.get? b=some o):b ∉ X.fs:=fun hb=>by
 have:=(ok.funs.mem hb).1;rw [e] at this;cases this
theorem Inv.bs (I:Inv X pins σ H s):∀ b o,X.base.get? b=some o->s.heap.get? b=some o/\H b=none:=fun b o e=>
 ⟨I.base.keep b o (I.ok.bs b o e).1 (I.ok.bs b o e).2 (I.ok.nofr e) (I.ok.noex b o e),I.base.free b o (I.ok.bs b o e).1 (I.ok.bs b o e).2 (I.ok.noex b o e)⟩
theorem Inv.bk (I:Inv X pins σ H s):∀ b o,X.base.get? b=some o->s.heap.get? b=some o:=fun b o e=>(I.bs b o e).1
theorem Inv.mod (I:Inv X pins σ H s):Mod X.K X.mg X.base:=I.ok.mod
theorem Inv.kIn (I:Inv X pins σ H s):X.K.In s.heap:=I.ok.mod.kin.keeps I.bk
theorem Inv.lt (I:Inv X pins σ H s):X.env.locals<s.heap.objs.size:=let ⟨_,hn,_⟩:=I.loc;hn.lt
theorem Inv.sz (I:Inv X pins σ H s):X.s₀.heap.objs.size<=s.heap.objs.size:=FQ I.ok.above (Dc I.lt)
theorem Inv.nofs (I:Inv X pins σ H s) {a:Addr}(h:s.heap.objs.size<=a):a ∉ X.fs:=fun hb=>by
 obtain ⟨_,o,ho,_⟩:=I.ok.funs.mem hb;exact absurd (FP (Fy ho) (FQ I.sz h)) (FM _)
theorem Inv.cne (I:Inv X pins σ H s):∀ x c,X.env.cells.lookup x=some c->c≠X.env.locals:=fun x c e z=>by
 obtain ⟨v,o,ho,hd⟩:=I.cell x c e;obtain ⟨m,⟨o',es,ep,ho',hd',_⟩,_⟩:=I.loc;rw [z,ho'] at ho;cases ho;rw [hd'] at hd;cases hd
theorem Inv.funs (I:Inv X pins σ H s):s.heap.FunFrames X.base X.outer:=by
 have all:∀ (l:List Env),(∀ b∈frs l,b∈X.fs)->X.s₀.heap.FunFrames X.base l->s.heap.FunFrames X.base l:=by
  intro l
  induction l with
  | nil=>intro _ _;trivial
  | cons env r ih=>
   intro hs hl;obtain ⟨hk,⟨L,o,hf,hn,ho,hd⟩,hr⟩:=hl;have hL:L∈X.fs:=hs L (by unfold frs;rw [List.filterMap_cons,hf];exact Ea);obtain ⟨sl,e⟩:=I.base.slot L o ho (I.ok.frf L hL) hL fun z=>I.ok.exfs L z hL
   exact ⟨hk,⟨L,_,hf,hn,e,hd⟩,ih (fun b hb=>hs b (by unfold frs;rw [List.filterMap_cons,hf];exact F9 _ hb)) hr⟩
 exact all X.outer (fun _ hb=>hb) I.ok.funs
theorem Inv.stack (I:Inv X pins σ H s):s.heap.FunFrames X.base X.stack:=by
 rcases I.ok.stk with e | ⟨e,hf⟩
 ·rw [e];exact I.funs
 ·rw [e];obtain ⟨m,hn,_⟩:=I.loc;refine .cons (by rw [I.ok.kind];decide) hf hn ?_ I.funs;exact Heap.get?_none_of_le (FQ I.ok.bsz I.ok.above)
theorem Inv.stkSub (I:Inv X pins σ H s):∀ b∈frs X.stack,b∈X.env.locals :: X.fs:=fun b hb=>by
 rcases I.ok.stk with e | ⟨e,hf⟩
 ·rw [e] at hb;exact F9 _ hb
 ·rw [e] at hb;unfold frs at hb;rw [List.filterMap_cons,hf] at hb;exact hb
theorem Inv.stkFree (I:Inv X pins σ H s):∀ b∈frs X.stack,H b=none:=fun b hb=>by
 rcases FS.mp (I.stkSub b hb) with e | hb
 ·rw [e];exact I.free
 ·obtain ⟨_,o,ho,_⟩:=I.ok.funs.mem hb;exact I.base.free b o ho (I.ok.frf b hb) fun z=>I.ok.exfs b z hb
theorem Inv.step {g':Array GenState}{d':Drawn}(I:Inv X pins σ H s)
  (hch:∀ b∈ch,(b∈X.ex∨X.s₀.heap.objs.size<=b)/\b≠X.env.locals/\(∀ x c,X.env.cells.lookup x=some c->c≠b)/\∀ p∈X.pn++pins,p.1≠b)
  (keep:∀ b o,b≠X.env.locals->b ∉ X.fs->b ∉ ch->s.heap.get? b=some o->H b=none->h'.get? b=some o)
  (slot:∀ b o,b≠X.env.locals->b∈X.fs->b ∉ ch->s.heap.get? b=some o->H b=none->∃ sl,h'.get? b=some { o with slots:=sl }) (free:∀ b o,b ∉ ch->s.heap.get? b=some o->H b=none->H' b=none)
  (there:∀ b o,b ∉ ch->s.heap.get? b=some o->∃ o',h'.get? b=some o')
  (tups:∀ b xs,H b=some (.tup xs)->H' b=some (.tup xs)) (frzs:∀ b o u,H b=some (.frz o u)->H' b=some (.frz o u)) (tbls:∀ b ps,H b=some (.tbl ps)->∃ more,H' b=some (.tbl (ps++more)))
  (ns:∀ m,s.heap.Ns X.env.locals m->h'.Ns X.env.locals m) (hok:HOk X.prog X.w H' h') (hg:AllBare g') :
  Inv X pins σ H' { s with heap:=h',gens:=g',drawn:=d',toks:=t' }:=by
 have neL:∀ b o,X.s₀.heap.get? b=some o->b≠X.env.locals:=fun b o e=>FI (FP (Fy e) I.ok.above)
 have neC:∀ b o,X.s₀.heap.get? b=some o->b ∉ X.ex->b ∉ ch:=fun b o e hx hb=>by
  rcases (hch b hb).1 with z | z
  ·exact hx z
  ·exact absurd (FP (Fy e) z) (FM _)
 have cellK:∀ x c,X.env.cells.lookup x=some c->∀ v,s.heap.IsCell c v->h'.IsCell c v:=fun x c e v ⟨o,ho,hd⟩=>by
  have nch:c ∉ ch:=fun z=>(hch c z).2.2.1 x c e rfl
  by_cases hc:c∈X.fs
  ·obtain ⟨sl,q⟩:=slot c o (I.cne x c e) hc nch ho (I.freeC x c e);exact ⟨_,q,hd⟩
  ·exact ⟨o,keep c o (I.cne x c e) hc nch ho (I.freeC x c e),hd⟩
 refine ⟨I.ok,I.os,hg,⟨fun b o e n hb hx=>?_,fun b o e n hb hx=>?_,fun b o e n hx=>?_,fun b o e hx=>?_,fun b xs e=>tups b xs (I.base.tups b xs e),fun b o xs e=>frzs b o xs (I.base.frzs b o xs e),fun b ps e=>?_⟩,?_,fun x c e=>?_,?_,fun x c e=>?_,fun p hp=>?_,hok,I.len⟩
 ·exact keep b o (neL b o e) hb (neC b o e hx) (I.base.keep b o e n hb hx) (I.base.free b o e n hx)
 ·obtain ⟨sl,e1⟩:=I.base.slot b o e n hb hx;obtain ⟨sl',e2⟩:=slot b _ (neL b o e) hb (neC b o e hx) e1 (I.base.free b o e n hx);exact ⟨sl',e2⟩
 ·obtain ⟨o',e1⟩:=I.base.there b o e hx;exact free b o' (neC b o e hx) e1 (I.base.free b o e n hx)
 ·obtain ⟨o',e1⟩:=I.base.there b o e hx;exact there b o' (neC b o e hx) e1
 ·obtain ⟨m1,e1⟩:=I.base.tbls b ps e;obtain ⟨m2,e2⟩:=tbls b _ e1;exact ⟨m1++m2,by rw [e2,Array.append_assoc]⟩
 ·obtain ⟨m,hn,hl⟩:=I.loc;refine ⟨m,ns m hn,fun i x v e1 e2 e3=>?_⟩;obtain ⟨u,r,l⟩:=hl i x v e1 e2 e3;refine ⟨u,r,?_⟩;rcases l with l | ⟨k,c,e,z⟩
  ·exact .inl l
  ·exact .inr ⟨k,c,e,cellK x c e _ z⟩
 ·obtain ⟨v,z⟩:=I.cell x c e;exact ⟨v,cellK x c e v z⟩
 ·obtain ⟨m,⟨o,_,_,ho,_⟩,_⟩:=I.loc;exact free _ o (fun z=>(hch _ z).2.1 rfl) ho I.free
 ·obtain ⟨v,o,ho,hd⟩:=I.cell x c e;exact free c o (fun z=>(hch c z).2.2.1 x c e rfl) ho (I.freeC x c e)
 ·obtain ⟨e,n,ne,nf,d⟩:=I.pin p hp;have nch:p.1 ∉ ch:=fun z=>(hch p.1 z).2.2.2 p hp rfl
  exact ⟨keep p.1 p.2 ne nf nch e n,free p.1 p.2 nch e n,ne,nf,d⟩
theorem Inv.un (I:Inv X pins σ H s) (u:Un X.fs [] H H' s.heap h') (hok:HOk X.prog X.w H' h'):Inv X pins σ H' { s with heap:=h',toks:=t' }:=by
 obtain ⟨m,⟨o,es,ep,ho,r⟩,_⟩:=id I.loc;obtain ⟨sl,hL⟩:=u.any ho I.free (by simp);exact I.step (g':=s.gens) (d':=s.drawn) (ch:=[]) (fun _ z=>nomatch z) (fun b o _ hb _ e n=>u.keep b o e n hb (by simp)) (fun b o _ hb _ e n=>u.slot b o e n hb (by simp)) (fun b o _ e n=>u.free b o e n (by simp)) (fun b o _ e=>u.there b o e (by simp)) u.tups u.frzs u.tbls (fun m' hm=>by
  obtain ⟨o',es',ep',ho',r'⟩:=hm;rw [ho] at ho';cases ho';exact ⟨_,es',ep',hL,r'⟩) hok I.bare
theorem Inv.call {g':Array GenState}{d':Drawn}(I:Inv X pins σ H s) (u:Un (frs X.stack) ch H H' s.heap h') (hok:HOk X.prog X.w H' h') (hg:AllBare g')
  (hch:∀ b∈ch,(b∈X.ex∨X.s₀.heap.objs.size<=b)/\b≠X.env.locals/\(∀ x c,X.env.cells.lookup x=some c->c≠b)/\∀ p∈X.pn++pins,p.1≠b) :
  Inv X pins σ H' { s with heap:=h',gens:=g',drawn:=d',toks:=t' }:=by
 obtain ⟨m,⟨o,es,ep,ho,r⟩,_⟩:=id I.loc;obtain ⟨sl,hL⟩:=u.any ho I.free fun z=>(hch _ z).2.1 rfl
 exact I.step (ch:=ch) hch (fun b o hL hb hc e n=>u.keep b o e n (fun z=>(FS.mp (I.stkSub b z)).elim hL hb) hc) (fun b o _ _ hc e n=>u.any e n hc) (fun b o hc e n=>u.free b o e n hc) (fun b o hc e=>u.there b o e hc) u.tups u.frzs u.tbls (fun m' hm=>by
  obtain ⟨o',es',ep',ho',r'⟩:=hm;rw [ho] at ho';cases ho';exact ⟨_,es',ep',hL,r'⟩) hok hg
theorem Inv.turned (I:Inv X pins σ H s) (k:∀ b o,b≠it->s.heap.get? b=some o->h'.get? b=some o) (hn:H it=none) (hL:it≠X.env.locals)
  (h1:it∈X.ex∨X.s₀.heap.objs.size<=it) (h2:∀ x c,X.env.cells.lookup x=some c->c≠it) (h3:∀ p∈X.pn++pins,p.1≠it):Inv X pins σ H { s with heap:=h',toks:=t' }:=by
 have nit:∀ b u,H b=some u->b≠it:=fun b u e z=>by rw [z,hn] at e;cases e
 refine I.step (g':=s.gens) (d':=s.drawn) (ch:=[it]) (fun b hb=>?_) (fun b o _ _ hc e _=>k b o (fun z=>hc (by simp [z])) e) (fun b o _ _ hc e _=>⟨o.slots,k b o (fun z=>hc (by simp [z])) e⟩) (fun _ _ _ _ n=>n)
  (fun b o hc e=>⟨o,k b o (fun z=>hc (by simp [z])) e⟩) (fun _ _ e=>e) (fun _ _ _ e=>e) (fun b ps e=>⟨#[],by rw [e];simp⟩) (fun m hm=>?_) (fun b u e=>?_) I.bare
 ·have e:b=it:=by simpa using hb
  subst e;exact ⟨h1,hL,h2,h3⟩
 ·obtain ⟨o,es,ep,ho,r⟩:=hm;exact ⟨o,es,ep,k _ o (Eb hL) ho,r⟩
 ·refine (I.hok b u e).stay (fun c v hc q=>k c v ?_ q) (fun _ q=>q) fun _ _ q=>q
  rcases hc with z | z
  ·rw [z];exact nit b u e
  ·exact nit c _ z
theorem Inv.tok (I:Inv X pins σ H s) (t:Nat):Inv X pins σ H { s with toks:=t }:=I.un (h':=s.heap) (t':=t) Un.refl I.hok
theorem Inv.kept (I:Inv X pins σ H s) (k:∀ b u,s.heap.get? b=some u->h'.get? b=some u):Inv X pins σ H { s with heap:=h',toks:=t' }:=I.un (Un.kept k) (I.hok.kept k)
theorem Inv.laid {o:HO}(I:Inv X pins σ H s) (k:∀ b u,s.heap.get? b=some u->h'.get? b=some u) (hp:s.heap.objs.size<=a) (new:ObjOk X.prog X.w (upd H a o) h' a o) :
  Inv X pins σ (upd H a o) { s with heap:=h',toks:=t' }:=I.un (Un.laid k hp (I.hok.fresh hp)) (I.hok.laid k hp new)
theorem Inv.write {x:Addr}{o:HO}(I:Inv X pins σ H s) (mu:Mut (H x)) (he:e=x∨H e=some (.own x)) (k:∀ b u,b≠e->s.heap.get? b=some u->h'.get? b=some u) (heo:∃ u,h'.get? e=some u)
  (new:ObjOk X.prog X.w (upd H x o) h' x o):Inv X pins σ (upd H x o) { s with heap:=h',toks:=t' }:=I.un (Un.write mu he k heo) (I.hok.write mu he k heo new)
theorem Inv.pins_of {pins':List (Addr×Obj)}(I:Inv X pins σ H s) (h:∀ p∈pins',s.heap.get? p.1=some p.2/\H p.1=none/\p.1≠X.env.locals/\p.1 ∉ X.fs/\∀ v,p.2.data≠.cell v):Inv X pins' σ H s:=
 ⟨I.ok,I.os,I.bare,I.base,I.loc,I.cell,I.free,I.freeC,fun p hp=>(FR.mp hp).elim (fun z=>I.pin p (Ez _ z)) (h p),I.hok,I.len⟩
theorem Jx (hN:N.Nodup) {i j:Nat}{x:Str}(a:N[i]?=some x) (b:N[j]?=some x):i=j:=by
 obtain ⟨h1,e1⟩:=EJ.mp a;obtain ⟨h2,e2⟩:=EJ.mp b;exact (List.getElem_inj hN).mp (e1.trans e2.symm)
theorem Ki {v:V}{Q:Unit->Shared->Prop}(I:Inv X pins σ H s) (hN:X.N.Nodup) (hi:X.N[i]?=some x) (hx:Loc X.env.scope x) (r:RelV v u)
  (h:∀ s',Inv X pins (σ.set i (some v)) H s'->(∃ a,Heap.SameBut a s.heap s'.heap/\(a=X.env.locals∨X.env.cells.lookup x=some a))->Q () s') (hf:X.fn x=true∨X.env.scope.names.lookup x=some .local:=by first | exact .inl rfl | exact .inr rfl | assumption):wpAny M A (storeName X.env x u) Q E s:=by
 obtain ⟨m,hn,hl⟩:=id I.loc;have hcls:(X.env.scope.kind == .class||(X.env.scope.kind == .module&&X.env.locals != X.env.globals))=false:=by rw [I.ok.kind];rfl
 have hiσ:i<σ.length:=by rw [I.len];exact (EJ.mp hi).1
 have cne:=I.cne;have tracked:∀ {a:Addr} {h':Heap},(∃ o,s.heap.get? a=some o/\H a=none)->Heap.SameBut a s.heap h'->HOk X.prog X.w H h':=fun {a h'} ha hs b ob e=>by
  obtain ⟨_,_,hfree⟩:=ha;refine (I.hok b ob e).stay (fun c w' hc q=>(hs.2 c ?_).trans q) (fun _ q=>q) fun _ _ q=>q
  rintro rfl;rcases hc with rfl | hc
  ·rw [hfree] at e;cases e
  ·rw [hfree] at hc;cases hc
 rcases hx with hk | hk
 ·refine wpAny_storeName_local hk hn (fun h' hn' hs=>?_) hcls;obtain ⟨oL,_,_,hoL,_⟩:=id hn;refine h _ ⟨I.ok,I.os,I.bare,⟨fun b o e n hb hx=>?_,fun b o e n hb hx=>?_,I.base.free,fun b o e hx=>?_,I.base.tups,I.base.frzs,I.base.tbls⟩,⟨_,hn',fun j y v' e1 e2 e3=>?_⟩,fun y c e=>?_,I.free,I.freeC,fun p hp=>?_,tracked ⟨oL,hoL,I.free⟩ hs,by simpa using I.len⟩ ⟨_,hs,.inl rfl⟩
  ·exact (hs.2 b (FI (FP (Fy e) I.ok.above))).trans (I.base.keep b o e n hb hx)
  ·obtain ⟨sl,e1⟩:=I.base.slot b o e n hb hx;exact ⟨sl,(hs.2 b (FI (FP (Fy e) I.ok.above))).trans e1⟩
  ·obtain ⟨o',e1⟩:=I.base.there b o e hx;exact ⟨o',(hs.2 b (FI (FP (Fy e) I.ok.above))).trans e1⟩
  ·by_cases hj:j=i
   ·subst hj;rw [hi] at e1;cases e1;rw [List.getElem?_set_self hiσ] at e2;cases e2;exact ⟨u,r,.inl ⟨hk,by simp⟩⟩
   ·rw [List.getElem?_set_ne (Eb hj)] at e2;obtain ⟨u',r',q⟩:=hl j y v' e1 e2 e3;refine ⟨u',r',?_⟩;rcases q with ⟨k,e⟩ | ⟨k,c,e,z⟩
    ·refine .inl ⟨k,?_⟩;have:y≠x:=fun e=>hj (Jx hN e1 (e ▸ hi))
     simp [this,e]
    ·exact .inr ⟨k,c,e,z.sameBut hs (cne y c e)⟩
  ·obtain ⟨w',z⟩:=I.cell y c e;exact ⟨w',z.sameBut hs (cne y c e)⟩
  ·obtain ⟨e,n,ne,nf,d⟩:=I.pin p hp;exact ⟨(hs.2 p.1 ne).trans e,n,ne,nf,d⟩
 ·have hfn:X.fn x=true:=by
   rcases hf with z | z
   ·exact z
   ·rw [z] at hk;cases hk
  obtain ⟨c,hc⟩:=I.ok.has x (.inl hk);obtain ⟨w',z⟩:=I.cell x c hc;refine wpAny_storeName_cell I.ok.kind hk hc z (fun h' hc' hs=>?_);obtain ⟨oc,hoc,hocd⟩:=id z;refine h { s with heap:=h' } ⟨I.ok,I.os,I.bare,⟨fun b o e n hb hx=>?_,fun b o e n hb hx=>?_,I.base.free,fun b o e hx=>?_,I.base.tups,I.base.frzs,I.base.tbls⟩,⟨m,hn.sameBut hs (Eb (cne x c hc)),fun j y v' e1 e2 e3=>?_⟩,fun y c' e=>?_,I.free,I.freeC,fun p hp=>?_,tracked ⟨oc,hoc,I.freeC x c hc⟩ hs,by simpa using I.len⟩ ⟨c,hs,.inr hc⟩
  ·exact (hs.2 b (FI (FP (Fy e) (I.ok.cab x c hfn hc)))).trans (I.base.keep b o e n hb hx)
  ·obtain ⟨sl,e1⟩:=I.base.slot b o e n hb hx;exact ⟨sl,(hs.2 b (FI (FP (Fy e) (I.ok.cab x c hfn hc)))).trans e1⟩
  ·obtain ⟨o',e1⟩:=I.base.there b o e hx;exact ⟨o',(hs.2 b (FI (FP (Fy e) (I.ok.cab x c hfn hc)))).trans e1⟩
  ·by_cases hj:j=i
   ·subst hj;rw [hi] at e1;cases e1;rw [List.getElem?_set_self hiσ] at e2;cases e2;exact ⟨u,r,.inr ⟨.inl hk,c,hc,hc'⟩⟩
   ·rw [List.getElem?_set_ne (Eb hj)] at e2;obtain ⟨u',r',q⟩:=hl j y v' e1 e2 e3;refine ⟨u',r',?_⟩;rcases q with q | ⟨k,c',e,z'⟩
    ·exact .inl q
    ·refine .inr ⟨k,c',e,z'.sameBut hs ?_⟩;rintro rfl;exact hj (Jx hN e1 (I.ok.inj _ _ _ e hc ▸ hi))
  ·by_cases hcc:c'=c
   ·subst hcc;exact ⟨_,hc'⟩
   ·obtain ⟨w2,z2⟩:=I.cell y c' e;exact ⟨w2,z2.sameBut hs hcc⟩
  ·obtain ⟨e,n,ne,nf,d⟩:=I.pin p hp;refine ⟨(hs.2 p.1 ?_).trans e,n,ne,nf,d⟩;intro q;rw [q,hoc] at e;have q':oc=p.2:=FF e;exact d w' (by rw [<-q'];exact hocd)
theorem XI {v:V}{Q:Unit->Shared->Prop}(I:Inv X pins σ H s) (hN:X.N.Nodup) (hi:X.N[i]?=some x) (hx:Loc X.env.scope x) (r:RelV v u)
  (h:∀ s',Inv X pins (σ.set i (some v)) H s'->Q () s') (hf:X.fn x=true∨X.env.scope.names.lookup x=some .local:=by first | exact .inl rfl | exact .inr rfl | assumption):wpAny M A (storeName X.env x u) Q E s:=
 Ki I hN hi hx r (fun s' I' _=>h s' I') hf
theorem Inv.call' {s':Shared}(I:Inv X pins σ H s) (ho:s'.os=s.os) (u:Un (frs X.stack) ch H H' s.heap s'.heap) (hok:HOk X.prog X.w H' s'.heap) (hg:AllBare s'.gens)
  (hch:∀ b∈ch,(b∈X.ex∨X.s₀.heap.objs.size<=b)/\b≠X.env.locals/\(∀ x c,X.env.cells.lookup x=some c->c≠b)/\∀ p∈X.pn++pins,p.1≠b):Inv X pins σ H' s':=by
 obtain ⟨h',g',d',t',o'⟩:=s';have e:o'=s.os:=ho;subst e;exact I.call (g':=g') (t':=t') (d':=d') u hok hg hch
end
abbrev XK:=Value->Option Addr->Hp->Prop
abbrev St:=List (Option V)
abbrev VK:=V->Hp->Prop
abbrev TE:=St->Hp->VK->Prop
abbrev TT:=St->Hp->(Bool->Hp->Prop)->Prop
abbrev TA:=St->Hp->(List V->Hp->Prop)->Prop
structure Q3 where
 nx:St->Hp->Prop
 rt:VK
 bk:St->Hp->Prop:=fun _ _=>False
 ct:St->Hp->Prop:=fun _ _=>False
abbrev TS:=Q3->St->Hp->Prop
def EP (X:Cx) (pins:List (Addr×Obj)) (σ:St) (Q:VK) (u:Value) (s':Shared):Prop:=∃ v H',Inv X pins σ H' s'/\RelV v u/\Q v H'
def TP (X:Cx) (pins:List (Addr×Obj)) (σ:St) (Q:Bool->Hp->Prop) (b:Bool) (s':Shared):Prop:=∃ H',Inv X pins σ H' s'/\Q b H'
def AP (X:Cx) (pins:List (Addr×Obj)) (σ:St) (Q:List V->Hp->Prop) (us:List Value) (s':Shared):Prop:=∃ vs H',Inv X pins σ H' s'/\Vals vs us/\Q vs H'
def SP (X:Cx) (pins:List (Addr×Obj)) (D:Q3) (f:Flow) (s':Shared):Prop:=
 match f with
 | .next=>∃ σ' H',Inv X pins σ' H' s'/\D.nx σ' H'
 | .brk=>∃ σ' H',Inv X pins σ' H' s'/\D.bk σ' H'
 | .cont=>∃ σ' H',Inv X pins σ' H' s'/\D.ct σ' H'
 | .ret u=>∃ v σ' H',Inv X pins σ' H' s'/\RelV v u/\D.rt v H'
def PE (X:Cx) (e:Expr) (t:TE):Prop:=
 ∀ (pins:List (Addr×Obj)) (s:Shared) (σ:St) (H:Hp) (Q:VK),Inv X pins σ H s->t σ H Q->wpAny (model X.prog X.w) X.A (eval e X.env) (EP X pins σ Q) X.xe s
def PT (X:Cx) (e:Expr) (t:TT):Prop:=
 ∀ (pins:List (Addr×Obj)) (s:Shared) (σ:St) (H:Hp) (Q:Bool->Hp->Prop),Inv X pins σ H s->t σ H Q->wpAny (model X.prog X.w) X.A (isTrue e X.env (eval e X.env)) (TP X pins σ Q) X.xe s
def PW (X:Cx) (e:Expr) (t:TT):Prop:=
 ∀ (whole:Sem Value) (pins:List (Addr×Obj)) (s:Shared) (σ:St) (H:Hp) (Q:Bool->Hp->Prop),Inv X pins σ H s->t σ H Q->wpAny (model X.prog X.w) X.A (isTrue e X.env whole) (TP X pins σ Q) X.xe s
theorem PW.pt {X:Cx}{e:Expr}{t:TT}(h:PW X e t):PT X e t:=h _
def PA (X:Cx) (es:List Expr) (t:TA):Prop:=
 ∀ (pos:Pos) (pins:List (Addr×Obj)) (s:Shared) (σ:St) (H:Hp) (Q:List V->Hp->Prop),Inv X pins σ H s->t σ H Q->wpAny (model X.prog X.w) X.A (spliced (backTo pos (starEach es X.env))) (AP X pins σ Q) X.xe s
def PS (X:Cx) (st:Stmt) (t:TS):Prop:=
 ∀ (pins:List (Addr×Obj)) (s:Shared) (σ:St) (H:Hp) (D:Q3),Inv X pins σ H s->t D σ H->wpAny (model X.prog X.w) X.A (exec st X.env) (SP X pins D) X.xe s
def PSs (X:Cx) (st:List Stmt) (t:TS):Prop:=
 ∀ (pins:List (Addr×Obj)) (s:Shared) (σ:St) (H:Hp) (D:Q3),Inv X pins σ H s->t D σ H->wpAny (model X.prog X.w) X.A (execs st X.env) (SP X pins D) X.xe s
theorem thn {t:Sem α}{Q Q':α->Shared->Prop}(h:wpAny M A t Q E s) (hQ:∀ a s,Q a s->Q' a s):wpAny M A t Q' E s:=FV h hQ fun _ _ x=>x
section
variable {X:Cx}
theorem bin {a b:Expr}{ta tb:TE}(ha:PE X a ta) (hb:PE X b tb) {pins:List (Addr×Obj)}{s:Shared}{σ:St}{H:Hp}{R:V->V->Hp->Prop}(I:Inv X pins σ H s) (h:ta σ H fun x H1=>tb σ H1 fun y H2=>R x y H2)
  {α:Type} {Q:α->Shared->Prop} {f:Value->Value->Sem α}
  (hf:∀ v u s2 x y H2,Inv X pins σ H2 s2->RelV x v->RelV y u->R x y H2->wpAny (model X.prog X.w) X.A (f v u) Q X.xe s2) :
  wpAny (model X.prog X.w) X.A (eval a X.env) (fun v s₁=>wpAny (model X.prog X.w) X.A (eval b X.env) (fun u s₂=>wpAny (model X.prog X.w) X.A (f v u) Q X.xe s₂) X.xe s₁) X.xe s:=by
 refine thn (ha pins s σ H _ I h) fun v s1 ⟨x,H1,I1,r1,q1⟩=>?_
 refine thn (hb pins s1 σ H1 _ I1 q1) fun u s2 ⟨y,H2,I2,r2,q2⟩=>?_
 exact hf v u s2 x y H2 I2 r1 r2 q2
def Su (i:Nat):TE:=fun σ H Q=>∃ v,σ[i]?=some (some v)/\Q v H
def tC (v:V):TE:=fun _ H Q=>Q v H
theorem Pk (hN:X.N[i]?=some x) (hv:Vis X.env.scope x) (hd:(x == ("__debug__":Str))=false:=by decide) (hcd:(x == ("__classdict__":Str))=false:=by decide):PE X (.Name x pos) (Su i):=by
 intro pins s σ H Q I h;obtain ⟨v,e,h⟩:=h;obtain ⟨m,hn,hl⟩:=I.loc;obtain ⟨u,r,l⟩:=hl i x v hN e hv;have fin:EP X pins σ Q u s:=⟨v,H,I,r,h⟩
 rcases l with ⟨hk,hm⟩ | ⟨hk,c,hc,hcell⟩
 ·exact wpAny_Name (wpAny_loadName_local I.ok.kind hk hn hm fin) hd
 ·rcases hk with hk | hk
  ·exact wpAny_Name (wpAny_loadName_cell I.ok.kind hk hc hcell fin) hd
  ·exact wpAny_Name (wpAny_loadName_free I.ok.kind hk hc hcell fin hcd) hd
theorem Qb {i j pos}:PE X (.Constant (.int i) j pos) (tC (.int i)):=fun _ _ _ H _ I h=>wpAny_Constant_int ⟨.int i,H,I.tok _,⟨_,rfl⟩,h⟩
theorem Xu {b j pos}:PE X (.Constant (.bool b) j pos) (tC (.bl b)):=fun _ _ _ H _ I h=>Constant_bool ⟨.bl b,H,I,rfl,h⟩
theorem Zh {j pos}:PE X (.Constant .none j pos) (tC .non):=fun _ _ _ H _ I h=>Constant_none ⟨.non,H,I,rfl,h⟩
theorem QR {x j pos}:PE X (.Constant (.str x) j pos) (tC (.str x)):=fun _ _ _ H _ I h=>Calls.Constant_str ⟨.str x,H,I.tok _,⟨_,rfl⟩,h⟩
def Gl (X:Cx) (x:Str):Prop:=X.env.kindOf x=some .globalImplicit
theorem X1 {σ:St}{H:Hp}{Q:Value->Shared->Prop}(I:Inv X pins σ H s) (hg:Gl X x) (hm:X.mg x=some u) (h:Q u s)
  (hd:(x == ("__debug__":Str))=false:=by decide):wpAny (model X.prog X.w) X.A (eval (.Name x pos) X.env) Q E s:=
 Calls.Name_function_global I.ok.kind hg (Calls.loadGlobal_global (by rw [I.ok.glob];exact I.mod.glob.keeps I.bk) hm h) hd
theorem WK {σ:St}{H:Hp}{Q:Value->Shared->Prop}(I:Inv X pins σ H s) (hg:Gl X x) (hm:X.mg x=none) (hv:bootBuiltins x=some u) (h:Q u s)
  (hn:x≠"__name__":=by decide) (hd:(x == ("__debug__":Str))=false:=by decide):wpAny (model X.prog X.w) X.A (eval (.Name x pos) X.env) Q E s:=by
 obtain ⟨mb,h1,h2⟩:=I.mod.blt;exact Calls.Name_function_global I.ok.kind hg (Calls.loadGlobal_builtin (by rw [I.ok.glob];exact I.mod.glob.keeps I.bk) hm (by rw [I.ok.blt];exact h1.keeps I.bk) ((h2 x hn).trans hv) h) hd
theorem Zo {v:V}(hg:Gl X x) (hm:X.mg x=some u) (r:RelV v u) (hd:(x == ("__debug__":Str))=false:=by decide):PE X (.Name x pos) (tC v):=
 fun _ _ _ H _ I h=>X1 I hg hm ⟨v,H,I,r,h⟩ hd
theorem Bc {v:V}(hg:Gl X x) (hm:X.mg x=none) (hv:bootBuiltins x=some u) (r:RelV v u) (hn:x≠"__name__":=by decide) (hd:(x == ("__debug__":Str))=false:=by decide):PE X (.Name x pos) (tC v):=
 fun _ _ _ H _ I h=>WK I hg hm hv ⟨v,H,I,r,h⟩ hn hd
variable {a b:Expr} {ta tb:TE} {pos:Pos}
def PC (X:Cx) (op:CmpOp) (a b:Expr) (t:TE):Prop:=
 ∀ (pins:List (Addr×Obj)) (s:Shared) (σ:St) (H:Hp) (Q:VK),Inv X pins σ H s->t σ H Q ->
  wpAny (model X.prog X.w) X.A (eval a X.env) (fun v s₁=>wpAny (model X.prog X.w) X.A (eval b X.env) (fun u s₂=>wpAny (model X.prog X.w) X.A (compareOp op v u) (EP X pins σ Q) X.xe s₂) X.xe s₁) X.xe s
theorem Mq (b:Expr) {op:CmpOp}(h:op≠.In) (h2:op≠.NotIn):behindInMarks op b=false:=by
 have e1:(op == CmpOp.In)=false:=by cases op <;> first | rfl | exact absurd rfl h
 have e2:(op == CmpOp.NotIn)=false:=by cases op <;> first | rfl | exact absurd rfl h2
 cases b <;> simp [behindInMarks,e1,e2]
def tB (t:TE):TT:=fun σ H Q=>t σ H fun x H1=>∃ c,x=.bl c/\Q c H1
theorem N4 {t:TE}(h:PC X op a b t) (h1:behindInMarks op b=false:=by first | exact Mq _ (by decide) (by decide) | rfl):PT X (.Compare a [op] [b] pos) (tB t):=by
 intro pins s σ H Q I hw;refine wpAny_isTrue_Compare1 (thn (h pins s σ H _ I hw) fun v s1 h1=>thn h1 fun u s2 h2=>thn h2 fun c s3 ⟨x,H1,I1,r1,q1⟩=>?_) h1;obtain ⟨d,rfl,q⟩:=q1;cases r1;exact EK ⟨H1,I1,q⟩
variable {tA tB':TT} {rest:List Expr}
def SA (t u:TT):TT:=fun σ H Q=>t σ H fun c H1=>if c=true then u σ H1 Q else Q false H1
def tOr (t u:TT):TT:=fun σ H Q=>t σ H fun c H1=>if c=true then Q true H1 else u σ H1 Q
def Sx (t:TT):TT:=fun σ H Q=>t σ H fun c H1=>Q (!c) H1
theorem ZP (ha:PT X a tA):PW X (.BoolOp .And [a] pos) tA:=by
 intro wh pins s σ H Q I h;refine isTrue_and (thn (ha pins s σ H Q I h) fun c s1 e=>?_);cases c with
 | true=>exact isTrue_and_nil e
 | false=>exact e
theorem Xy (ha:PT X a tA):PW X (.BoolOp .Or [a] pos) tA:=by
 intro wh pins s σ H Q I h;refine isTrue_or (thn (ha pins s σ H Q I h) fun c s1 e=>?_);cases c with
 | false=>exact isTrue_or_nil e
 | true=>exact e
theorem Xf (ha:PT X a tA) (hb:PW X (.BoolOp .And (b :: rest) pos) tB'):PW X (.BoolOp .And (a :: b :: rest) pos) (SA tA tB'):=by
 intro wh pins s σ H Q I h;refine isTrue_and (thn (ha pins s σ H _ I h) fun c s1 ⟨H1,I1,q1⟩=>?_);cases c with
 | true=>exact hb wh pins s1 σ H1 Q I1 q1
 | false=>exact ⟨H1,I1,q1⟩
theorem X7 (ha:PT X a tA) (hb:PW X (.BoolOp .Or (b :: rest) pos) tB'):PW X (.BoolOp .Or (a :: b :: rest) pos) (tOr tA tB'):=by
 intro wh pins s σ H Q I h;refine isTrue_or (thn (ha pins s σ H _ I h) fun c s1 ⟨H1,I1,q1⟩=>?_);cases c with
 | true=>exact ⟨H1,I1,q1⟩
 | false=>exact hb wh pins s1 σ H1 Q I1 q1
theorem ZW (ha:PT X a tA):PT X (.UnaryOp .Not a pos) (Sx tA):=by
 intro pins s σ H Q I h;exact isTrue_not (ha pins s σ H (fun c H1=>Q (!c) H1) I h)
theorem Ju {op}{t:TE}(h:PE X a t):PE X (.BoolOp op [a] pos) t:=fun pins s σ H Q I hw=>BoolOp_one (h pins s σ H Q I hw)
def tIf (t:TT) (ta tb:TE):TE:=fun σ H Q=>t σ H fun c H1=>if c=true then ta σ H1 Q else tb σ H1 Q
theorem Md {c:Expr}(hc:PT X c tA) (ha:PE X a ta) (hb:PE X b tb):PE X (.IfExp c a b pos) (tIf tA ta tb):=by
 intro pins s σ H Q I h;refine wpAny_IfExp (thn (hc pins s σ H _ I h) fun d s1 ⟨H1,I1,q1⟩=>?_);cases d with
 | true=>exact ha pins s1 σ H1 Q I1 q1
 | false=>exact hb pins s1 σ H1 Q I1 q1
end
def SqL (K:W.Frag) (H:Hp) (a:Addr) (xs:List V):Prop:=
 Rd H a (.lst xs) ∨
  ∃ (o:Obj) (its:Array Value) (n:Nat),K.lookup a=some o/\o.cls=.type "list"/\o.dict=none/\o.data=.seq its n/\its.size<=sizeLine/\Vals xs its.toList
def SqT (K:W.Frag) (H:Hp) (a:Addr) (xs:List V):Prop:=
 Rd H a (.tup xs) ∨
  ∃ (o:Obj) (its:Array Value) (n:Nat),K.lookup a=some o/\o.cls=.type "tuple"/\o.data=.seq its n/\its.size<=sizeLine/\Vals xs its.toList
def Fd:Value->Option V
 | .none=>some .non
 | .bool b=>some (.bl b)
 | .int i _=>some (.int i)
 | .str x _=>some (.str x)
 | .bytes b _=>some (.byt b)
 | .float b _=>some (.flt b)
 | .ref a=>some (.ref a)
 | .type n=>some (.ty n)
 | _=>none
theorem RelV.abs {x:V}(r:RelV x u):Fd u=some x:=by
 cases x with
 | non=>cases r;rfl
 | bl _=>cases r;rfl
 | int _=>obtain ⟨t,rfl⟩:=r;rfl
 | str _=>obtain ⟨t,rfl⟩:=r;rfl
 | byt _=>obtain ⟨t,rfl⟩:=r;rfl
 | flt _=>obtain ⟨t,rfl⟩:=r;rfl
 | ref _=>cases r;rfl
 | ty _=>cases r;rfl
theorem RelV.inj {x y:V}(r:RelV x u) (q:RelV y u):x=y:=FF (r.abs.symm.trans q.abs)
theorem Vals.inj:∀ {xs ys:List V}{us:List Value},Vals xs us->Vals ys us->xs=ys
 | _,_,_,.nil,.nil=>rfl
 | _,_,_,.cons r t,.cons r' t'=>by rw [r.inj r',Vals.inj t t']
section
variable {X:Cx} {pins:List (Addr×Obj)} {σ:St} {H:Hp} {s:Shared} {a:Addr} {xs ys:List V}
theorem SqL.of (h:H a=some (.lst xs)):SqL K H a xs:=.inl (.inl h)
theorem SqT.of (h:H a=some (.tup xs)):SqT K H a xs:=.inl (.inl h)
theorem Inv.list (I:Inv X pins σ H s) (h:SqL X.K H a xs):∃ its:List Value,Vals xs its/\PlainL s.heap a its.toArray/\xs.length<=sizeLine:=by
 rcases h with h | ⟨o,its,n,hk,hc,hd,hs,hz,r⟩
 ·obtain ⟨z,its,n,r,e⟩:=h.ok I.hok;exact ⟨its,r,⟨_,n,e,rfl,rfl,rfl⟩,z⟩
 ·refine ⟨its.toList,r,⟨o,n,I.kIn a o hk,hc,hd,by simpa using hs⟩,?_⟩;have e:=r.length;simp only [Array.length_toList] at e;omega
theorem Inv.tuple (I:Inv X pins σ H s) (h:SqT X.K H a xs):∃ its:List Value,Vals xs its/\IsTup s.heap a its.toArray/\xs.length<=sizeLine:=by
 rcases h with h | ⟨o,its,n,hk,hc,hs,hz,r⟩
 ·obtain ⟨z,its,r,p⟩:=h.ok I.hok;exact ⟨its,r,p,z⟩
 ·refine ⟨its.toList,r,⟨o,I.kIn a o hk,hc,n,by simpa using hs⟩,?_⟩;have e:=r.length;simp only [Array.length_toList] at e;omega
theorem Inv.list_inj (I:Inv X pins σ H s) (h:SqL X.K H a xs) (h':SqL X.K H a ys):xs=ys:=by
 obtain ⟨its,r,⟨o,n,e,_,_,d⟩,_⟩:=I.list h;obtain ⟨its',r',⟨o',n',e',_,_,d'⟩,_⟩:=I.list h';rw [e] at e';cases e';rw [d] at d';injection d' with d1 _
 have:its=its':=by simpa using congrArg Array.toList d1
 subst this;exact r.inj r'
theorem Inv.tuple_inj (I:Inv X pins σ H s) (h:SqT X.K H a xs) (h':SqT X.K H a ys):xs=ys:=by
 obtain ⟨its,r,⟨o,e,_,n,d⟩,_⟩:=I.tuple h;obtain ⟨its',r',⟨o',e',_,n',d'⟩,_⟩:=I.tuple h';rw [e] at e';cases e';rw [d] at d';injection d' with d1 _
 have:its=its':=by simpa using congrArg Array.toList d1
 subst this;exact r.inj r'
end
abbrev Cx.wish (X:Cx) (E:Value->Shared->Prop):Cx:={ X with xe:=E }
abbrev Cx.nox (X:Cx):Cx:=X.wish fun _ _=>False
theorem Cx.Ok.wish {X:Cx}(ok:X.Ok) (E:Value->Shared->Prop):(X.wish E).Ok:=
 ⟨ok.mod,ok.kind,ok.glob,ok.blt,ok.above,ok.inj,ok.has,ok.cab,ok.hd,ok.frames,ok.stk,ok.exf,ok.bs,ok.bsz,ok.noex,ok.exfs,ok.funs,ok.frf⟩
theorem Cx.Ok.unwish {X:Cx}(ok:(X.wish E).Ok):X.Ok:=
 ⟨ok.mod,ok.kind,ok.glob,ok.blt,ok.above,ok.inj,ok.has,ok.cab,ok.hd,ok.frames,ok.stk,ok.exf,ok.bs,ok.bsz,ok.noex,ok.exfs,ok.funs,ok.frf⟩
section
variable {X:Cx} {pins:List (Addr×Obj)} {σ:St} {H:Hp} {s:Shared} {E:Value->Shared->Prop}
theorem Inv.wish (I:Inv X pins σ H s) (E:Value->Shared->Prop):Inv (X.wish E) pins σ H s:=⟨I.ok.wish E,I.os,I.bare,I.base,I.loc,I.cell,I.free,I.freeC,I.pin,I.hok,I.len⟩
theorem Inv.unwish (I:Inv (X.wish E) pins σ H s):Inv X pins σ H s:=⟨I.ok.unwish,I.os,I.bare,I.base,I.loc,I.cell,I.free,I.freeC,I.pin,I.hok,I.len⟩
theorem SP.unwish {D:Q3}{f:Flow}{s':Shared}(h:SP (X.wish E) pins D f s'):SP X pins D f s':=by
 cases f with
 | next=>obtain ⟨σ',H',I,q⟩:=h;exact ⟨σ',H',I.unwish,q⟩
 | brk=>obtain ⟨σ',H',I,q⟩:=h;exact ⟨σ',H',I.unwish,q⟩
 | cont=>obtain ⟨σ',H',I,q⟩:=h;exact ⟨σ',H',I.unwish,q⟩
 | ret u=>obtain ⟨v,σ',H',I,r,q⟩:=h;exact ⟨v,σ',H',I.unwish,r,q⟩
theorem PSs.nox {st:List Stmt}{t:TS}(h:PSs X.nox st t):PSs X st t:=fun pins s σ H D I hw=>
 FV (h pins s σ H D (I.wish _) hw) (fun _ _ q=>q.unwish) fun _ _ z=>False.elim z
end
section
variable {X:Cx} {st:Stmt} {rest:List Stmt} {t u:TS} {e:Expr} {te:TE} {pos:Pos}
def B9:TS:=fun D σ H=>D.nx σ H
def ZH (t u:TS):TS:=fun D σ H=>t { D with nx:=u D } σ H
theorem Qx:PSs X [] B9:=fun _ _ σ H _ I h=>Dd ⟨σ,H,I,h⟩
theorem Qc (h1:PS X st t) (h2:PSs X rest u):PSs X (st :: rest) (ZH t u):=by
 intro pins s σ H D I h;refine wpAny_execs_cons (thn (h1 pins s σ H { D with nx:=u D } I h) fun f s1 q=>?_);cases f with
 | next=>
  obtain ⟨σ',H',I',q⟩:=q;exact h2 pins s1 σ' H' D I' q
 | ret v=>exact q
 | brk=>exact q
 | cont=>exact q
theorem Qf (h1:PS X st t):PSs X [st] t:=by
 intro pins s σ H D I h;refine wpAny_execs_cons (thn (h1 pins s σ H D I h) fun f s1 q=>?_);cases f with
 | next=>exact Dd q
 | ret v=>exact q
 | brk=>exact q
 | cont=>exact q
theorem Inv.quiet {σ:St}{H:Hp}(I:Inv X pins σ H s):interactive X.env=false:=by simp [interactive,I.ok.kind]
def Jo (te:TE):TS:=fun D σ H=>te σ H fun _ H1=>D.nx σ H1
theorem QS (he:PE X e te) (hs:swapsWith e none pos.line X.env=pure false:=by rfl):PS X (.Expr e pos) (Jo te):=by
 intro pins s σ H D I h;exact wpAny_Expr_any (thn (he pins s σ H _ I h) fun v s1 ⟨x,H1,I1,r1,q1⟩=>⟨σ,H1,I1,q1⟩) I.quiet hs
def GJ (te:TE):TS:=fun D σ H=>te σ H D.rt
theorem Qr (he:PE X e te):PS X (.Return (some e) pos) (GJ te):=by
 intro pins s σ H D I h;exact wpAny_Return_some (thn (he pins s σ H _ I h) fun v s1 ⟨x,H1,I1,r1,q1⟩=>⟨x,σ,H1,I1,r1,q1⟩)
def Ud (c:TT) (t u:TS):TS:=fun D σ H=>c σ H fun b H1=>if b=true then t D σ H1 else u D σ H1
theorem QL {c:Expr}{a b:List Stmt}{tc:TT}(hc:PT X c tc) (ha:PSs X a t) (hb:PSs X b u):PS X (.If c a b pos) (Ud tc t u):=by
 intro pins s σ H D I h;refine wpAny_If (thn (hc pins s σ H _ I h) fun d s1 ⟨H1,I1,q1⟩=>?_);cases d with
 | true=>exact ha pins s1 σ H1 D I1 q1
 | false=>exact hb pins s1 σ H1 D I1 q1
def NM:TS:=fun _ _ _=>False
theorem Js:PS X st NM:=fun _ _ _ _ _ _ h=>h.elim
end
abbrev TG:=V->St->Hp->(St->Hp->Prop)->Prop
abbrev TGs:=List V->St->Hp->(St->Hp->Prop)->Prop
def PG (X:Cx) (target:Expr) (t:TG):Prop:=
 ∀ (pins:List (Addr×Obj)) (s:Shared) (σ:St) (H:Hp) (v:V) (u:Value) (Q:St->Hp->Prop),Inv X pins σ H s->RelV v u->t v σ H Q ->
  wpAny (model X.prog X.w) X.A (assign target X.env u) (fun _ s'=>∃ σ' H',Inv X pins σ' H' s'/\Q σ' H') X.xe s
def PGs (X:Cx) (ts:List Expr) (t:TGs):Prop:=
 ∀ (pins:List (Addr×Obj)) (s:Shared) (σ:St) (H:Hp) (vs:List V) (us:List Value) (Q:St->Hp->Prop),Inv X pins σ H s->Vals vs us->t vs σ H Q ->
  wpAny (model X.prog X.w) X.A (assignInOrder ((assignEach ts X.env).map (·.2)) us) (fun _ s'=>∃ σ' H',Inv X pins σ' H' s'/\Q σ' H') X.xe s
section
variable {X:Cx} {pos:Pos}
def Zt (i:Nat):TG:=fun v σ H Q=>Q (σ.set i (some v)) H
theorem Ql (hN:X.N.Nodup) (hi:X.N[i]?=some x) (hx:Loc X.env.scope x) (hf:X.fn x=true∨X.env.scope.names.lookup x=some .local:=by first | exact .inl rfl | exact .inr rfl | assumption):PG X (.Name x pos) (Zt i):=by
 intro pins s σ H v u Q I r h;exact wpAny_assign_Name (XI I hN hi hx r (fun s' I'=>⟨_,H,I',h⟩) hf)
def HS:TGs:=fun vs σ H Q=>vs=[]/\Q σ H
def S0 (t:TG) (u:TGs):TGs:=fun vs σ H Q=>∃ v r,vs=v :: r/\t v σ H fun σ' H'=>u r σ' H' Q
theorem pgs_nil:PGs X [] HS:=by
 intro pins s σ H vs us Q I r h;obtain ⟨e,h⟩:=h;subst e;cases r;exact assignInOrder_nil ⟨σ,H,I,h⟩
theorem Ma {e:Expr}{t:TG}{u:TGs}(h1:PG X e t) (h2:PGs X es u)
  (hs:(assignEach (e :: es) X.env).map (·.2)=assign e X.env :: (assignEach es X.env).map (·.2):=by rfl):PGs X (e :: es) (S0 t u):=by
 intro pins s σ H vs us Q I r h;obtain ⟨v,vr,e1,h⟩:=h;subst e1;cases r with
 | cons r rr=>
  rw [hs];refine assignInOrder_cons (thn (h1 pins s σ H _ _ _ I r h) fun _ s1 ⟨σ1,H1,I1,q1⟩=>?_);exact h2 pins s1 σ1 H1 _ _ Q I1 rr q1
def MN (K:W.Frag) (n:Nat) (t:TGs):TG:=fun v σ H Q=>∃ a xs,v=.ref a/\SqT K H a xs/\xs.length=n/\t xs σ H Q
theorem Pj {k:Nat}{t:TGs}(hc:X.calm=true) (h:PGs X es t)
  (hn:(assignEach es X.env).length=n:=by rfl) (hst:(assignEach es X.env).findIdx? (·.1)=none:=by rfl):PG X (.Tuple es k pos) (MN X.K n t):=by
 intro pins s σ H v u Q I r hw;obtain ⟨a,xs,e1,hq,hl,hw⟩:=hw;subst e1;cases r;obtain ⟨its,rv,ht,hz⟩:=I.tuple hq;refine assign_Tuple_tuple (I.ok.hd hc) ht (by simp [hn,<-hl,rv.length]) hst fun h' hx=>?_
 have I1:Inv X pins σ H { s with heap:=h' }:=I.kept (t':=s.toks) fun b o e=>hx b o (FI (Fy e)) e
 exact h pins _ σ H xs _ Q I1 (by simpa using rv) hw
def Z4 (te:TE) (g:TG):TS:=fun D σ H=>te σ H fun x H1=>g x σ H1 D.nx
theorem N7 {e:Expr}{te:TE}{g:TG}(he:PE X e te) (hg:PG X tg g) (hs:swapsWithSole [tg] e pos.line X.env=pure false:=by rfl) (hw:swappedStores [tg] e X.env=pure none:=by rfl)
  (h1:(assignEach [tg] X.env).map (·.2)=[assign tg X.env]:=by rfl):PS X (.Assign [tg] e pos) (Z4 te g):=by
 intro pins s σ H D I h;refine wpAny_Assign_stores (thn (he pins s σ H _ I h) fun v s1 ⟨x,H1,I1,r1,q1⟩=>?_) hs hw;rw [h1];exact thn (hg pins s1 σ H1 x v _ I1 r1 q1) fun _ s2 q=>q
theorem Qk {e:Expr}{te:TE}{pos':Pos}(hN:X.N.Nodup) (hi:X.N[i]?=some x) (hx:Loc X.env.scope x) (he:PE X e te) (hs:swapsWith e (some (.Name x pos')) pos.line X.env=pure false:=by rfl) (hf:X.fn x=true∨X.env.scope.names.lookup x=some .local:=by first | exact .inl rfl | exact .inr rfl | assumption) :
  PS X (.Assign [.Name x pos'] e pos) (Z4 te (Zt i)):=by
 intro pins s σ H D I h;refine wpAny_Assign_Name (thn (he pins s σ H _ I h) fun v s1 ⟨y,H1,I1,r1,q1⟩=>?_) hs;exact XI I1 hN hi hx r1 (fun s2 I2=>⟨_,H1,I2,q1⟩) hf
def Sw (i j:Nat) (ta:TA):TS:=fun D σ H=>ta σ H fun vs H1=>∃ v w,vs=[v,w]/\D.nx ((σ.set i (some v)).set j (some w)) H1
theorem Ph {j:Nat}{a b:Expr}{ta:TA}{pt:Pos}{kt k2 pt2}(hc:X.calm=true) (hN:X.N.Nodup) (hi:X.N[i]?=some x) (hj:X.N[j]?=some y) (hij:i≠j)
  (hx:X.env.scope.names.lookup x=some .local) (hy:X.env.scope.names.lookup y=some .local) (ha:PA X [a,b] ta)
  (hw:swappedStores [.Tuple [.Name x px,.Name y py] kt pt] (.Tuple [a,b] k2 pt2) X.env=pure (some [x,y]))
  (hs:swapsWithSole [.Tuple [.Name x px,.Name y py] kt pt] (.Tuple [a,b] k2 pt2) pos.line X.env=pure false:=by rfl) :
  PS X (.Assign [.Tuple [.Name x px,.Name y py] kt pt] (.Tuple [a,b] k2 pt2) pos) (Sw i j ta):=by
 intro pins s σ H D I h;rw [exec_Assign_arm];refine Fk (wpAny_standAt ?_);rw [hs];refine Fk (Fw ?_);rw [Fl (by decide)];refine Fk (Tuple_ (thn (ha _ pins s σ H _ I h) fun us s1 ⟨vs,H1,I1,r1,q1⟩=>?_));obtain ⟨v,w,e1,q1⟩:=q1;subst e1;obtain ⟨u1,u2,rfl,rv,rw'⟩:∃ u1 u2,us=[u1,u2]/\RelV v u1/\RelV w u2:=by
  cases r1 with
  | cons p q=>
   cases q with
   | cons p' q'=>
    cases q';exact ⟨_,_,rfl,p,p'⟩
 refine wpAny_newObj_type ?_ (by show 2<=sizeLine;decide);have I2:Inv X pins σ H1 { s1 with heap:=s1.heap.push { cls:=.type "tuple",data:=.seq [u1,u2].toArray } }:=I1.kept (t':=s1.toks) fun b o e=>FG _ e
 rw [hw];refine Fk (Fw ?_);show wpAny (model X.prog X.w) X.A (do rule "assign.swapped-stores";let items <-unpackItems (.ref s1.heap.objs.size) 2 none;assignInOrder [fun v=>bindName X.env y v,fun v=>bindName X.env x v] items.reverse;pure Flow.next) _ _ _;refine Fk (wpAny_rule (Fk (unpackItems_tuple (items:=#[u1,u2]) (I.ok.hd hc) (IsTup.new s1.heap _) fun h' hx'=>?_)));have I3:=I2.kept (h':=h') (t':=s1.toks) fun b o e=>hx' b o (FI (Fy e)) e
 show wpAny _ _ (assignInOrder [fun v=>bindName X.env y v,fun v=>bindName X.env x v] [u2,u1] >>= fun _=>pure Flow.next) _ _ _;refine Fk (assignInOrder_cons (wpAny_bindName (XI I3 hN hj (.inl hy) rw' (fun s2 I4=>?_) (.inr hy))));refine assignInOrder_cons (wpAny_bindName (XI I4 hN hi (.inl hx) rv (fun s3 I5=>assignInOrder_nil (Fw ?_)) (.inr hx)));rw [List.set_comm _ _ (Eb hij)] at I5;exact ⟨_,H1,I5,q1⟩
end
section
variable {X:Cx} {pos:Pos}
def R9 (c:TT) (tb:TS):TS:=fun D σ H=>∃ W:Nat->St->Hp->Prop,(∃ m,W m σ H)/\∀ m σ H,W m σ H ->
 c σ H fun b H1=>if b=true then ∃ N:St->Hp->Prop,(∀ σ' H',N σ' H'->∃ m',m'<m/\W m' σ' H')/\tb { D with nx:=N,ct:=N,bk:=D.nx } σ H1 else D.nx σ H1
theorem XJ {c:Expr}{tc:TT}{tb:TS}(hp:PassesOwn (model X.prog X.w) X.A X.env X.xe) (hc:PT X c tc) (hb:PSs X body tb):PS X (.While c body [] pos) (R9 tc tb):=by
 intro pins s σ H D I h;obtain ⟨W,⟨m0,w0⟩,turn⟩:=h;refine wpAny_While (codeAny_whileLoop (fun n s'=>∃ σ' H',Inv X pins σ' H' s'/\W n σ' H') ?_ m0 ⟨σ,H,I,w0⟩);rintro n s1 ⟨σ1,H1,I1,w1⟩;refine E6 hp (thn (hc pins s1 σ1 H1 _ I1 (turn n σ1 H1 w1)) fun b s2 ⟨H2,I2,q2⟩=>?_);cases b with
 | true=>
  obtain ⟨N,hN,q2⟩:=q2;rw [Fs rfl];refine E6 hp (thn (hb pins s2 σ1 H2 _ I2 q2) fun f s3 q3=>?_);cases f with
  | next=>
   obtain ⟨σ3,H3,I3,n3⟩:=q3;obtain ⟨m',hm,w3⟩:=hN σ3 H3 n3;exact ⟨m',hm,σ3,H3,I3,w3⟩
  | cont=>
   obtain ⟨σ3,H3,I3,n3⟩:=q3;obtain ⟨m',hm,w3⟩:=hN σ3 H3 n3;exact ⟨m',hm,σ3,H3,I3,w3⟩
  | brk=>exact q3
  | ret v=>exact q3
 | false=>
  rw [Fl FT];exact Dd ⟨σ1,H2,I2,q2⟩
end
structure It where
 go:Nat->Hp->Prop
 yld:Nat->Hp->V->Hp->Prop
 stop:Nat->Hp->Prop
def XC (X:Cx) (pins:List (Addr×Obj)) (H:Hp) (b:Addr):Prop:=
 H b=none/\b≠X.env.locals/\b ∉ X.fs/\(b∈X.ex∨X.s₀.heap.objs.size<=b)/\(∀ x c,X.env.cells.lookup x=some c->c≠b)/\∀ p∈X.pn++pins,p.1≠b
theorem Inv.fpOk {X:Cx}{σ:St}{H H':Hp}{b:Addr}(I:Inv X pins σ H s) (hb:s.heap.objs.size<=b) (hn:H' b=none):XC X pins H' b:=by
 refine ⟨hn,Dz (FP I.lt hb),I.nofs hb,.inr (FQ I.sz hb),fun x c e z=>?_,fun p hp z=>?_⟩
 ·obtain ⟨v,q⟩:=I.cell x c e;exact absurd (FP q.lt (by rw [z];exact hb)) (FM _)
 ·exact absurd (FP (Fy (I.pin p hp).1) (by rw [z];exact hb)) (FM _)
structure Nx (P:Program) (w:World) (K:W.Frag) (tg:Expr) (J:It) (fp:List Addr) (it:Addr) (tn:Nat->Heap->Prop):Prop where
 mem:it∈fp
 obj:∀ i h,tn i h->∀ b∈fp,∃ o,h.get? b=some o/\∀ v,o.data≠.cell v
 keep:∀ i h h',tn i h->(∀ b∈fp,∀ o,h.get? b=some o->h'.get? b=some o)->tn i h'
 item:∀ (X:Cx),X.prog=P->X.w=w->X.K=K->X.calm=true->∀ (i:Nat) (pins:List (Addr×Obj)) (s:Shared) (σ:St) (H:Hp) (E:Value->Shared->Prop),Inv X pins σ H s->(∀ b∈fp,XC X pins H b)->tn i s.heap->J.go i H ->
  wpAny (model P w) X.A (pyNext (.ref it)) (fun r s1=>∃ u,r=some u /\
   wpAny (model P w) X.A (letOwnedTupleGo tg (.ref it) u) (fun _ s2=>∃ x H',Inv X pins σ H' s2/\RelV x u/\J.yld i H x H'/\tn (i+1) s2.heap/\∀ b∈fp,H' b=none) E s1) E s
 done:∀ (X:Cx),X.prog=P->X.w=w->X.K=K->X.calm=true->∀ (i:Nat) (pins:List (Addr×Obj)) (s:Shared) (σ:St) (H:Hp) (E:Value->Shared->Prop),Inv X pins σ H s->(∀ b∈fp,XC X pins H b)->tn i s.heap->J.stop i H ->
  wpAny (model P w) X.A (pyNext (.ref it)) (fun r s1=>r=none/\Inv X pins σ H s1) E s
 self:∀ (A:Around) (i:Nat) (s:Shared) (Q:Value->Shared->Prop) (E:Value->Shared->Prop),tn i s.heap->Q (.ref it) s->wpAny (model P w) A (pyIter (.ref it)) Q E s
abbrev TI:=St->Hp->(It->Hp->Prop)->Prop
def PIE (X:Cx) (pins:List (Addr×Obj)) (σ:St) (tg:Expr) (R:It->Hp->Prop) (itv:Value) (s2:Shared):Prop:=
 ∃ (it:Addr) (fp:List Addr) (tn:Nat->Heap->Prop) (J:It) (H':Hp),itv=.ref it/\Inv X pins σ H' s2/\Nx X.prog X.w X.K tg J fp it tn/\tn 0 s2.heap/\(∀ b∈fp,XC X pins H' b)/\R J H'
def PI (X:Cx) (tg iter:Expr) (wi:TI):Prop:=
 ∀ (pins:List (Addr×Obj)) (s:Shared) (σ:St) (H:Hp) (R:It->Hp->Prop),Inv X pins σ H s->wi σ H R ->
  wpAny (model X.prog X.w) X.A (eval iter X.env) (fun v s1=>wpAny (model X.prog X.w) X.A (pyIter v) (PIE X pins σ tg R) X.xe s1) X.xe s
theorem Gi {o:Obj}{n:String}{vs:Array Value}{Q:Unit->Shared->Prop}(ho:s.heap.get? it=some o) (hc:o.cls=.type n) (hd:o.data=.fields vs)
    (hn:["enumerate","zip","dict_itemiterator","dict_reverseitemiterator","odict_iterator","itertools.zip_longest","itertools.pairwise"].contains n=false) (hQ:Q () s):wpAny M A (letOwnedTupleGo tg (.ref it) u) Q E s:=by
  unfold letOwnedTupleGo;cases tg <;> first
    | exact Fw hQ
    | (cases u <;> first
        | exact Fw hQ
        | (refine Fk (wpAny_load ho ?_)
           rw [hc,hd];show wpAny M A (if (["enumerate","zip","dict_itemiterator","dict_reverseitemiterator","odict_iterator","itertools.zip_longest","itertools.pairwise"].contains n&&vs[0]? == some (rawInt _))=true then _ else _) Q E s;rw [Fl (by intro h;rw [hn,Bool.false_and] at h;cases h)];exact Fw hQ))
def Itl (K:W.Frag) (a:Addr):It:=
 ⟨fun i H=>∃ xs x,SqL K H a xs/\xs[i]?=some x,fun i H x H'=>H'=H/\∀ xs,SqL K H a xs->xs[i]?=some x,fun i H=>∃ xs,SqL K H a xs/\xs.length<=i⟩
def Itr (lo:Int) (n:Nat):It:=⟨fun i _=>i<n,fun i H x H'=>H'=H/\x=.int (lo+i),fun i _=>n<=i⟩
theorem GH (a it:Addr):Nx P w K tg (Itl K a) [it] it (fun i h=>h.IsListIter it a i) where
 mem:=by simp
 obj:=fun i h st b hb=>by
  have e:b=it:=by simpa using hb
  subst e;obtain ⟨o,e,c,d⟩:=st;exact ⟨o,e,fun v z=>by rw [d] at z;cases z⟩
 keep:=fun i h h' st k=>st.at fun o e=>k it (by simp) o e
 item:=by
  intro X hP hw hK hc i pins s σ H E I hf st hg;subst hP hw hK;obtain ⟨xs,x,hq,hx⟩:=hg;obtain ⟨its,rv,p,hz⟩:=I.list hq;obtain ⟨u,hu,ru⟩:=rv.get hx;obtain ⟨f0,f1,f2,f3,f4,f5⟩:=hf it (by simp);refine wpAny_pyNext_list_item st p.isList (x:=u) (by simpa using hu) fun h' st' sb=>?_
  have I1:Inv X pins σ H { s with heap:=h' }:=I.turned (t':=s.toks) (fun b o hb e=>(sb.2 b hb).trans e) f0 f1 f3 f4 f5;obtain ⟨o,e,c,d⟩:=id st';exact ⟨u,rfl,Gi (s:={ s with heap:=h' }) e c d (by decide) ⟨x,H,I1,ru,⟨rfl,fun ys hy=>by rw [I.list_inj hy hq];exact hx⟩,st',fun b hb=>(hf b hb).1⟩⟩
 done:=by
  intro X hP hw hK hc i pins s σ H E I hf st hg;subst hP hw hK;obtain ⟨xs,hq,hx⟩:=hg;obtain ⟨its,rv,p,hz⟩:=I.list hq;obtain ⟨f0,f1,f2,f3,f4,f5⟩:=hf it (by simp);have hl:=rv.length;exact wpAny_pyNext_list_end (I.ok.hd hc) st p.isList (by simp;omega) fun h' eb=>⟨rfl,I.turned (t':=s.toks) (fun b o hb e=>eb b o hb e) f0 f1 f3 f4 f5⟩
 self:=fun _ _ _ _ _ st h=>wpAny_pyIter_listiter st h
theorem Ua (it:Addr) (lo:Int) (n:Nat):Nx P w K tg (Itr lo n) [it] it (fun i h=>IsRangeIter h it (lo+(i:Nat)*1) ((n:Int)-(i:Nat)) 1) where
 mem:=by simp
 obj:=fun i h st b hb=>by
  have e:b=it:=by simpa using hb
  subst e;exact ⟨_,st,fun v z=>by
   have z':Data.fields _=Data.cell v:=z;cases z'⟩
 keep:=fun i h h' st k=>k it (by simp) _ st
 item:=by
  intro X hP hw hK hc i pins s σ H E I hf st hg;subst hP hw hK;obtain ⟨f0,f1,f2,f3,f4,f5⟩:=hf it (by simp);have W:=Walks.range (prog:=X.prog) (w:=X.w) (I.ok.hd hc) it lo 1 n;refine W.item i s _ _ hg st fun v h' tk hv st' kk=>?_
  obtain ⟨t,rfl⟩:=hv;have I1:Inv X pins σ H { s with heap:=h',toks:=tk }:=I.turned (fun b o hb e=>kk b o (by simpa using hb) e) f0 f1 f3 f4 f5;refine ⟨_,rfl,Gi (s:={ s with heap:=h',toks:=tk }) (n:="range_iterator") st' rfl rfl (by decide) ⟨.int (lo+i),H,I1,⟨t,?_⟩,⟨rfl,rfl⟩,st',fun b hb=>(hf b hb).1⟩⟩;rw [Int.mul_one]
 done:=by
  intro X hP hw hK hc i pins s σ H E I hf st hg;subst hP hw hK;obtain ⟨f0,f1,f2,f3,f4,f5⟩:=hf it (by simp);exact wpAny_pyNext_range_end (I.ok.hd hc) st (by have:n<=i:=hg;omega) fun h' eb=>⟨rfl,I.turned (t':=s.toks) (fun b o hb e=>eb b o hb e) f0 f1 f3 f4 f5⟩
 self:=fun _ _ _ _ _ st h=>wpAny_pyIter_rangeiter st h
section
variable {X:Cx} {tg:Expr}
def Mx (K:W.Frag) (tl:TE):TI:=fun σ H R=>tl σ H fun x H1=>∃ a,x=.ref a/\(∃ xs,SqL K H1 a xs)/\R (Itl K a) H1
theorem L6 {l:Expr}{tl:TE}(hl:PE X l tl):PI X tg l (Mx X.K tl):=by
 intro pins s σ H R I h;refine thn (hl pins s σ H _ I h) fun v s1 ⟨x,H1,I1,r1,q1⟩=>?_
 obtain ⟨a,e,⟨xs,hq⟩,q⟩:=q1;subst e;cases r1;obtain ⟨its,rv,p,hz⟩:=I1.list hq;refine wpAny_pyIter_list p.isList ?_;refine ⟨s1.heap.objs.size,[s1.heap.objs.size],_,_,H1,rfl,I1.kept (t':=s1.toks) fun b o e=>FG _ e,GH a _,⟨_,FY _ rfl,rfl,rfl⟩,fun b hb=>?_,q⟩;have e:b=s1.heap.objs.size:=by simpa using hb
 subst e;exact I1.fpOk (Ft _) (I1.hok.fresh (Ft _))
theorem NZ {σ:St}{H:Hp}{R:It->Hp->Prop}{hi:Int}{t u v:Tok}{tk:Nat}(I:Inv X pins σ H s) (h1:-(2 ^ 62)<=lo) (h2:lo<2 ^ 62) (h3:-(2 ^ 62)<=hi) (h4:hi<2 ^ 62)
  (q:R (Itr lo (hi-lo).toNat) H):wpAny (model X.prog X.w) X.A (pyIter (.ref s.heap.objs.size)) (PIE X pins σ tg R) E { s with heap:=s.heap.push { cls:=.type "range",data:=.fields #[.int lo t,.int hi u,.int 1 v] },toks:=tk }:=by
 refine wpAny_pyIter_range (IsRange.new ..) (small_one h1 h2 h3 h4) ?_;have I1:Inv X pins σ H { s with heap:=s.heap.push { cls:=.type "range",data:=.fields #[.int lo t,.int hi u,.int 1 v] },toks:=tk }:=I.kept fun b o e=>FG _ e
 refine ⟨(s.heap.push { cls:=.type "range",data:=.fields #[.int lo t,.int hi u,.int 1 v] }).objs.size,[(s.heap.push { cls:=.type "range",data:=.fields #[.int lo t,.int hi u,.int 1 v] }).objs.size],_,_,H,rfl,
  I1.kept (t':=tk) fun b o e=>FG _ e,Ua _ lo (hi-lo).toNat,?_,fun b hb=>?_,q⟩
 ·have e1:lo+((0:Nat):Int)*1=lo:=by simp
  have e2:(((hi-lo).toNat:Nat):Int)-((0:Nat):Int)=Builtin.Range.rangeSize lo hi 1:=by rw [rangeSize_one];split <;> omega
  show IsRangeIter _ _ (lo+((0:Nat):Int)*1) ((((hi-lo).toNat:Nat):Int)-((0:Nat):Int)) 1;rw [e1,e2];exact FY _ rfl
 ·have e:b=(s.heap.push { cls:=.type "range",data:=.fields #[.int lo t,.int hi u,.int 1 v] }).objs.size:=by simpa using hb
  subst e;exact I1.fpOk (Ft _) (I1.hok.fresh (Ft _))
def Rp (ta:TA):TI:=fun σ H R=>ta σ H fun vs H1=>∃ j:Int,vs=[.int j]/\-(2 ^ 62)<=j/\j<2 ^ 62/\R (Itr 0 j.toNat) H1
theorem QQ {a:Expr}{ta:TA}{p:Pos}(hg:Gl X "range") (hm:X.mg "range"=none) (ha:PA X [a] ta) (hs:starEach [a] X.env=[(false,eval a X.env)]:=by rfl):PI X tg (.Call (.Name "range" p) [a] [] pos) (Rp ta):=by
 intro pins s σ H R I h;refine Call_ (WK I hg hm boot_range (Dt (thn (ha pos pins s σ H _ I h) fun us s1 ⟨vs,H1,I1,r1,q1⟩=>?_) hs rfl));obtain ⟨j,e,q1,q2,q⟩:=q1;subst e;cases r1 with
 | cons r rr=>
  cases rr;obtain ⟨t,rfl⟩:=r;exact call_range_1 (NZ I1 (by omega) (by omega) q1 q2 (by simpa using q))
def LH (wi:TI) (g:TG) (tb:TS):TS:=fun D σ H=>wi σ H fun J H1=>∃ W:Nat->Nat->St->Hp->Prop,(∃ m,W 0 m σ H1)/\∀ i m σ H,W i m σ H ->
 (J.stop i H/\D.nx σ H)∨(J.go i H/\∃ N:St->Hp->Prop,(∀ σ' H',N σ' H'->∃ m',m'<m/\W (i+1) m' σ' H')/\∀ x H',J.yld i H x H'->g x σ H' fun σ2 H2=>tb { D with nx:=N,ct:=N,bk:=D.nx } σ2 H2)
def Xz (fp:List Addr) (h:Heap):List (Addr×Obj):=fp.filterMap fun b=>(h.get? b).map fun o=>(b,o)
theorem Xi {b:Addr}{o:Obj}(hb:b∈fp) (e:h.get? b=some o):(b,o)∈Xz fp h:=List.mem_filterMap.mpr ⟨b,hb,by rw [e];rfl⟩
theorem G5 {p:Addr×Obj}(hp:p∈Xz fp h):p.1∈fp/\h.get? p.1=some p.2:=by
 obtain ⟨b,hb,e⟩:=List.mem_filterMap.mp hp;cases q:h.get? b with
 | none=>rw [q] at e;cases e
 | some o=>
  rw [q] at e;have e':(b,o)=p:=FF e;subst e';exact ⟨hb,q⟩
theorem Inv.pinned {σ:St}{H:Hp}(I:Inv X pins σ H s) (hf:∀ b∈fp,XC X pins H b) (ho:∀ b∈fp,∃ o,s.heap.get? b=some o/\∀ v,o.data≠.cell v):Inv X (pins++Xz fp s.heap) σ H s:=
 I.pins_of fun p hp=>(FR.mp hp).elim (fun z=>I.pin p (F4 _ z)) fun z=>by
  obtain ⟨hb,e⟩:=G5 z;obtain ⟨f0,f1,f2,_⟩:=hf p.1 hb;obtain ⟨o,e',d⟩:=ho p.1 hb;rw [e] at e';cases e';exact ⟨e,f0,f1,f2,d⟩
theorem Inv.unpinned {pl:List (Addr×Obj)}{σ:St}{H:Hp}(I:Inv X (pins++pl) σ H s):Inv X pins σ H s:=I.pins_of fun p hp=>I.pin p (F4 _ (Ez _ hp))
theorem QG {wi:TI}{g:TG}{tb:TS}(hp:PassesOwn (model X.prog X.w) X.A X.env X.xe) (hc:X.calm=true) (hi:PI X tg iter wi) (hg:PG X tg g) (hb:PSs X body tb)
  (hs:∀ x,foldedSetIterable iter X.env x=pure x:=by intro _;rfl):PS X (.For tg iter body [] pos) (LH wi g tb):=by
 intro pins s σ H D I h;refine wpAny_For (thn (hi pins s σ H _ I h) fun v s1 h1=>thn h1 fun itv s2 h2=>?_) hs;obtain ⟨it,fp,tn,J,H2,e,I2,T,st2,f2,W,⟨m0,w0⟩,turn⟩:=h2;subst e;have stat:∀ {H':Hp},(∀ b∈fp,H' b=none)->∀ b∈fp,XC X pins H' b:=fun hn b hb=>⟨hn b hb,(f2 b hb).2⟩
 refine codeAny_forLoop_any (fun n s'=>∃ i σ' H',Inv X pins σ' H' s'/\tn i s'.heap/\(∀ b∈fp,H' b=none)/\W i n σ' H') ?_ m0 ⟨0,σ,H2,I2,st2,fun b hb=>(f2 b hb).1,w0⟩;rintro n s3 ⟨i,σ3,H3,I3,st3,fr3,w3⟩;rcases turn i n σ3 H3 w3 with ⟨stop,qn⟩ | ⟨go,N,hN,step⟩
 ·refine E6 hp (thn (T.done X rfl rfl rfl hc i pins s3 σ3 H3 X.xe I3 (stat fr3) st3 stop) fun r s4 ⟨hr,I4⟩=>?_);subst hr;exact Dd ⟨σ3,H3,I4,qn⟩
 ·refine E6 hp (thn (T.item X rfl rfl rfl hc i pins s3 σ3 H3 X.xe I3 (stat fr3) st3 go) fun r s4 ⟨u,hr,h4⟩=>?_);subst hr;refine E6 hp (thn h4 fun _ s5 ⟨x,H5,I5,r5,y5,st5,fr5⟩=>?_);have I5':=I5.pinned (stat fr5) (T.obj _ _ st5);refine E6 hp (thn (hg _ s5 σ3 H5 x u _ I5' r5 (step x H5 y5)) fun _ s6 ⟨σ6,H6,I6,q6⟩=>?_);refine E6 hp (thn (hb _ s6 σ6 H6 _ I6 q6) fun f s7 q7=>?_);have again:∀ {σ7:St} {H7:Hp},Inv X (pins++Xz fp s5.heap) σ7 H7 s7->N σ7 H7->∃ m,m<n/\∃ i σ' H',Inv X pins σ' H' s7/\tn i s7.heap/\(∀ b∈fp,H' b=none)/\W i m σ' H':=fun {σ7 H7} I7 n7=>by
   obtain ⟨m',hm,w7⟩:=hN σ7 H7 n7;refine ⟨m',hm,i+1,σ7,H7,I7.unpinned,T.keep _ _ _ st5 fun b hb o e=>(I7.pin (b,o) (F4 _ (F4 _ (Xi hb e)))).1,fun b hb=>?_,w7⟩;obtain ⟨o,e,d⟩:=T.obj _ _ st5 b hb;exact (I7.pin (b,o) (F4 _ (F4 _ (Xi hb e)))).2.1
  cases f with
  | next=>obtain ⟨σ7,H7,I7,n7⟩:=q7;exact again I7 n7
  | cont=>obtain ⟨σ7,H7,I7,n7⟩:=q7;exact again I7 n7
  | brk=>obtain ⟨σ7,H7,I7,q7⟩:=q7;exact ⟨σ7,H7,I7.unpinned,q7⟩
  | ret v=>obtain ⟨x7,σ7,H7,I7,r7,q7⟩:=q7;exact ⟨x7,σ7,H7,I7.unpinned,r7,q7⟩
end
theorem MR {xs:List V}{g:TG}{tb:TS}{D:Q3}{σ:St}{H:Hp}(Pv:Nat->St->Hp->Prop) (h0:Pv 0 σ H) (hl:∀ i σ H,i<=xs.length->Pv i σ H->SqL K H a xs)
  (hs:∀ i x σ H,xs[i]?=some x->Pv i σ H->g x σ H fun σ2 H2=>tb { D with nx:=Pv (i+1),ct:=Pv (i+1),bk:=D.nx } σ2 H2) (hd:∀ σ H,Pv xs.length σ H->D.nx σ H) :
  ∃ W:Nat->Nat->St->Hp->Prop,(∃ m,W 0 m σ H)/\∀ i m σ H,W i m σ H ->
   ((Itl K a).stop i H/\D.nx σ H)∨((Itl K a).go i H/\∃ N:St->Hp->Prop,(∀ σ' H',N σ' H'->∃ m',m'<m/\W (i+1) m' σ' H')/\∀ x H',(Itl K a).yld i H x H'->g x σ H' fun σ2 H2=>tb { D with nx:=N,ct:=N,bk:=D.nx } σ2 H2):=by
 refine ⟨fun i m σ H=>m=xs.length-i/\i<=xs.length/\Pv i σ H,⟨xs.length,by simp,FZ _,h0⟩,?_⟩;rintro i m σ H ⟨rfl,hi,p⟩;have q:=hl i σ H hi p;by_cases hlt:i<xs.length
 ·refine .inr ⟨⟨xs,xs[i],q,by simp [hlt]⟩,Pv (i+1),fun σ' H' p'=>⟨xs.length-(i+1),by omega,rfl,hlt,p'⟩,fun x H' y=>?_⟩;obtain ⟨e,y⟩:=y;subst e;exact hs i x σ _ (y xs q) p
 ·have e:i=xs.length:=by omega
  subst e;exact .inl ⟨⟨xs,q,Ft _⟩,hd σ H p⟩
theorem Ni {g:TG}{tb:TS}{D:Q3}{σ:St}{H:Hp}(Pv:Nat->St->Hp->Prop) (h0:Pv 0 σ H)
  (hs:∀ i σ H,i<n->Pv i σ H->g (.int (lo+i)) σ H fun σ2 H2=>tb { D with nx:=Pv (i+1),ct:=Pv (i+1),bk:=D.nx } σ2 H2) (hd:∀ σ H,Pv n σ H->D.nx σ H) :
  ∃ W:Nat->Nat->St->Hp->Prop,(∃ m,W 0 m σ H)/\∀ i m σ H,W i m σ H ->
   ((Itr lo n).stop i H/\D.nx σ H)∨((Itr lo n).go i H/\∃ N:St->Hp->Prop,(∀ σ' H',N σ' H'->∃ m',m'<m/\W (i+1) m' σ' H')/\∀ x H',(Itr lo n).yld i H x H'->g x σ H' fun σ2 H2=>tb { D with nx:=N,ct:=N,bk:=D.nx } σ2 H2):=by
 refine ⟨fun i m σ H=>m=n-i/\i<=n/\Pv i σ H,⟨n,by simp,FZ _,h0⟩,?_⟩;rintro i m σ H ⟨rfl,hi,p⟩;by_cases hlt:i<n
 ·refine .inr ⟨hlt,Pv (i+1),fun σ' H' p'=>⟨n-(i+1),by omega,rfl,hlt,p'⟩,fun x H' y=>?_⟩;obtain ⟨e,y⟩:=y;subst e y;exact hs i σ _ hlt p
 ·have e:i=n:=by omega
  subst e;exact .inl ⟨Ft _,hd σ H p⟩
abbrev R2:=V->V->Hp->VK->Prop
def OpR (X:Cx) (f:Value->Value->Sem Value) (r:R2):Prop:=
 ∀ (pins:List (Addr×Obj)) (s:Shared) (σ:St) (H:Hp) (x y:V) (v u:Value) (Q:VK),Inv X pins σ H s->RelV x v->RelV y u->r x y H Q ->
  wpAny (model X.prog X.w) X.A (f v u) (EP X pins σ Q) X.xe s
def UnR (X:Cx) (f:Value->Sem Value) (r:V->Hp->VK->Prop):Prop:=
 ∀ (pins:List (Addr×Obj)) (s:Shared) (σ:St) (H:Hp) (x:V) (v:Value) (Q:VK),Inv X pins σ H s->RelV x v->r x H Q ->
  wpAny (model X.prog X.w) X.A (f v) (EP X pins σ Q) X.xe s
def ZT (X:Cx) (f:Value) (r:List V->Hp->VK->Prop):Prop:=
 ∀ (pins:List (Addr×Obj)) (s:Shared) (σ:St) (H:Hp) (xs:List V) (us:List Value) (Q:VK),Inv X pins σ H s->Vals xs us->r xs H Q ->
  wpAny (model X.prog X.w) X.A (call f us) (EP X pins σ Q) X.xe s
def Fe (X:Cx) (r:V->Hp->(Bool->Hp->Prop)->Prop):Prop:=
 ∀ (pins:List (Addr×Obj)) (s:Shared) (σ:St) (H:Hp) (x:V) (v:Value) (Q:Bool->Hp->Prop),Inv X pins σ H s->RelV x v->r x H Q ->
  wpAny (model X.prog X.w) X.A (truthy v) (TP X pins σ Q) X.xe s
def tOp (r:R2) (ta tb:TE):TE:=fun σ H Q=>ta σ H fun x H1=>tb σ H1 fun y H2=>r x y H2 Q
def tUn (r:V->Hp->VK->Prop) (ta:TE):TE:=fun σ H Q=>ta σ H fun x H1=>r x H1 Q
def rI (C:Int->Int->Prop) (g:Int->Int->V):R2:=fun x y H Q=>∃ i j,x=.int i/\y=.int j/\C i j/\Q (g i j) H
def rI0 (g:Int->Int->V):R2:=fun x y H Q=>∃ i j,x=.int i/\y=.int j/\Q (g i j) H
def rU (g:Int->V):V->Hp->VK->Prop:=fun x H Q=>∃ i,x=.int i/\Q (g i) H
section
variable {X:Cx} {a b c:Expr} {ta tb tc:TE} {pos:Pos}
theorem P4 (ha:PE X a ta) (hb:PE X b tb) {pins:List (Addr×Obj)}{s:Shared}{σ:St}{H:Hp}{R:V->V->Hp->Prop}(I:Inv X pins σ H s)
  (h:ta σ H fun x H1=>tb σ H1 fun y H2=>R x y H2) {Q:Value->Shared->Prop} {f:Value->Value->Sem Value}
  (hf:∀ v u s2 x y H2,Inv X pins σ H2 s2->RelV x v->RelV y u->R x y H2->wpAny (model X.prog X.w) X.A (f v u) Q X.xe s2) :
  wpAny (model X.prog X.w) X.A (eval a X.env) (fun v s₁=>wpAny (model X.prog X.w) X.A (eval b X.env) (fun u s₂=>wpAny (model X.prog X.w) X.A (f v u) Q X.xe s₂) X.xe s₁) X.xe s:=by
 refine thn (ha pins s σ H _ I h) fun v s1 ⟨x,H1,I1,r1,q1⟩=>?_
 refine thn (hb pins s1 σ H1 _ I1 q1) fun u s2 ⟨y,H2,I2,r2,q2⟩=>?_
 exact hf v u s2 x y H2 I2 r1 r2 q2
theorem Qg {op:Operator}{r:R2}(ho:OpR X (binaryOp op) r) (ha:PE X a ta) (hb:PE X b tb):PE X (.BinOp a op b pos) (tOp r ta tb):=by
 intro pins s σ H Q I h;exact wpAny_BinOp (P4 ha hb I h fun v u s2 x y H2 I2 rx ry q=>ho pins s2 σ H2 x y v u Q I2 rx ry q)
theorem Rl {op:UnaryOp}{r:V->Hp->VK->Prop}(ho:UnR X (unaryOp op) r) (ha:PE X a ta):PE X (.UnaryOp op a pos) (tUn r ta):=by
 intro pins s σ H Q I h;exact UnaryOp_ (thn (ha pins s σ H _ I h) fun v s1 ⟨x,H1,I1,r1,q1⟩=>ho pins s1 σ H1 x v Q I1 r1 q1)
theorem opI {f:Value->Value->Sem Value}{C:Int->Int->Prop}{g:Int->Int->Int} 
  (rule:∀ (i j:Int) (t u:Tok) (s:Shared) (Q:Value->Shared->Prop) (E:Value->Shared->Prop),C i j->Q (.int (g i j) s.toks) { s with toks:=s.toks+1 }->wpAny (model X.prog X.w) X.A (f (.int i t) (.int j u)) Q E s) :
  OpR X f (rI C fun i j=>.int (g i j)):=by
 intro pins s σ H x y v u Q I rx ry h;obtain ⟨i,j,rfl,rfl,hc,q⟩:=h;obtain ⟨t,rfl⟩:=rx;obtain ⟨t',rfl⟩:=ry;exact rule i j t t' s _ _ hc ⟨.int (g i j),H,I.tok _,⟨_,rfl⟩,q⟩
theorem SU {f:Value->Value->Sem Value}{g:Int->Int->Int} 
  (rule:∀ (i j:Int) (t u:Tok) (s:Shared) (Q:Value->Shared->Prop) (E:Value->Shared->Prop),Q (.int (g i j) s.toks) { s with toks:=s.toks+1 }->wpAny (model X.prog X.w) X.A (f (.int i t) (.int j u)) Q E s) :
  OpR X f (rI0 fun i j=>.int (g i j)):=by
 intro pins s σ H x y v u Q I rx ry h;obtain ⟨i,j,rfl,rfl,q⟩:=h;obtain ⟨t,rfl⟩:=rx;obtain ⟨t',rfl⟩:=ry;exact rule i j t t' s _ _ ⟨.int (g i j),H,I.tok _,⟨_,rfl⟩,q⟩
theorem Px {f:Value->Value->Sem Value}{g:Int->Int->Bool} 
  (rule:∀ (i j:Int) (t u:Tok) (s:Shared) (Q:Value->Shared->Prop) (E:Value->Shared->Prop),Q (.bool (g i j)) s->wpAny (model X.prog X.w) X.A (f (.int i t) (.int j u)) Q E s) :
  OpR X f (rI0 fun i j=>.bl (g i j)):=by
 intro pins s σ H x y v u Q I rx ry h;obtain ⟨i,j,rfl,rfl,q⟩:=h;obtain ⟨t,rfl⟩:=rx;obtain ⟨t',rfl⟩:=ry;exact rule i j t t' s _ _ ⟨.bl (g i j),H,I,rfl,q⟩
def Lu (i j:Int):Prop:=0<=j/\j<=1000000/\i.natAbs<2 ^ 64
theorem op_add:OpR X (binaryOp .Add) (rI0 fun i j=>.int (i+j)):=SU fun _ _ _ _ _ _ _ q=>add_int q
theorem op_sub:OpR X (binaryOp .Sub) (rI0 fun i j=>.int (i-j)):=SU fun _ _ _ _ _ _ _ q=>sub_int q
theorem op_mod:OpR X (binaryOp .Mod) (rI (fun _ j=>0<j) fun i j=>.int (i % j)):=opI fun i j _ _ _ _ _ hc q=>by
 have h1:(0:Int)<j:=hc;exact mod_int' (by omega) (by rw [Int.fmod_eq_emod_of_nonneg i (by omega)];exact q)
theorem op_modN:OpR X (binaryOp .Mod) (rI (fun _ j=>j≠0) fun i j=>.int (i.fmod j)):=opI fun _ _ _ _ _ _ _ hc q=>mod_int' hc q
theorem op_pow:OpR X (binaryOp .Pow) (rI Lu fun i j=>.int (i ^ j.toNat)):=opI fun _ _ _ _ _ _ _ hc q=>pow_int_small hc.1 hc.2.1 hc.2.2 q
theorem unI {f:Value->Sem Value}{g:Int->Int} 
  (rule:∀ (i:Int) (t:Tok) (s:Shared) (Q:Value->Shared->Prop) (E:Value->Shared->Prop),Q (.int (g i) s.toks) { s with toks:=s.toks+1 }->wpAny (model X.prog X.w) X.A (f (.int i t)) Q E s) :
  UnR X f (rU fun i=>.int (g i)):=by
 intro pins s σ H x v Q I rx h;obtain ⟨i,rfl,q⟩:=h;obtain ⟨t,rfl⟩:=rx;exact rule i t s _ _ ⟨.int (g i),H,I.tok _,⟨_,rfl⟩,q⟩
theorem un_neg:UnR X (unaryOp .USub) (rU fun i=>.int (-i)):=unI fun _ _ _ _ _ q=>neg_int q
end
def SC:V->V->Bool
 | .non,.non=>true | .non,.int _=>true | .int _,.non=>true | .non,.bl _=>true | .bl _,.non=>true | .non,.str _=>true | .str _,.non=>true
 | .int _,.int _=>true | .bl _,.bl _=>true | .str _,.str _=>true | .byt _,.byt _=>true
 | .int _,.str _=>true | .str _,.int _=>true | .bl _,.str _=>true | .str _,.bl _=>true
 | _,_=>false
def rEq:R2:=fun x y H Q=>SC x y=true/\Q (.bl (decide (x=y))) H
def rNe:R2:=fun x y H Q=>SC x y=true/\Q (.bl (!decide (x=y))) H
theorem Jj {i:Int}:decide (V.int i=V.int j)=(i == j):=by
 rw [F0];simp
theorem M0 {i j:Bool}:decide (V.bl i=V.bl j)=(i == j):=by
 rw [F0];simp
theorem Gz {i j:Str}:decide (V.str i=V.str j)=(i == j):=by
 rw [F0];simp
theorem GA {i j:Array UInt8}:decide (V.byt i=V.byt j)=(i.toList == j.toList):=by
 rw [F0];cases i;cases j;simp
section
variable {X:Cx} {a b c:Expr} {ta tb tc:TE} {pos:Pos}
theorem QH {σ:St}{H:Hp}{Q:VK}{k k':Bool}(I:Inv X pins σ H s) (q:Q (.bl k) H) (e:k=k'):EP X pins σ Q (.bool k') s:=by
 subst e;exact ⟨.bl k,H,I,rfl,q⟩
theorem op_eq:OpR X (compareOp .Eq) rEq:=by
 intro pins s σ H x y v u Q I rx ry h;obtain ⟨hs,q⟩:=h;cases x with
 | non=>
  cases rx;cases y with
  | non=>cases ry;exact EqNone.eq_none_none (QH I q (by simp))
  | bl j=>cases ry;exact EqNone.eq_none_bool (QH I q (by simp))
  | int j=>obtain ⟨t',rfl⟩:=ry;exact EqNone.eq_none_int (QH I q (by simp))
  | str j=>obtain ⟨t',rfl⟩:=ry;exact EqNone.eq_none_str (QH I q (by simp))
  | _=>exact absurd (show false=true from hs) FT
 | bl i=>
  cases rx;cases y with
  | non=>cases ry;exact EqNone.eq_bool_none (QH I q (by simp))
  | bl j=>cases ry;exact eq_bool (QH I q M0)
  | str j=>obtain ⟨t',rfl⟩:=ry;exact EqMixed.eq_bool_str (QH I q (by simp))
  | _=>exact absurd (show false=true from hs) FT
 | int i=>
  obtain ⟨t,rfl⟩:=rx;cases y with
  | non=>cases ry;exact EqNone.eq_int_none (QH I q (by simp))
  | int j=>obtain ⟨t',rfl⟩:=ry;exact eq_int (QH I q Jj)
  | str j=>obtain ⟨t',rfl⟩:=ry;exact EqMixed.eq_int_str (QH I q (by simp))
  | _=>exact absurd (show false=true from hs) FT
 | str i=>
  obtain ⟨t,rfl⟩:=rx;cases y with
  | non=>cases ry;exact EqNone.eq_str_none (QH I q (by simp))
  | bl j=>cases ry;exact EqMixed.eq_str_bool (QH I q (by simp))
  | int j=>obtain ⟨t',rfl⟩:=ry;exact EqMixed.eq_str_int (QH I q (by simp))
  | str j=>obtain ⟨t',rfl⟩:=ry;exact eq_str (QH I q Gz)
  | _=>exact absurd (show false=true from hs) FT
 | byt i=>
  obtain ⟨t,rfl⟩:=rx;cases y with
  | byt j=>obtain ⟨t',rfl⟩:=ry;exact W.eq_bytes (QH I q GA)
  | _=>exact absurd (show false=true from hs) FT
 | _=>cases y <;> exact absurd (show false=true from hs) FT
theorem op_ne:OpR X (compareOp .NotEq) rNe:=by
 intro pins s σ H x y v u Q I rx ry h;obtain ⟨hs,q⟩:=h;cases x with
 | non=>
  cases rx;cases y with
  | non=>cases ry;exact EqNone.ne_none_none (QH I q (by simp))
  | bl j=>cases ry;exact EqNone.ne_none_bool (QH I q (by simp))
  | int j=>obtain ⟨t',rfl⟩:=ry;exact EqNone.ne_none_int (QH I q (by simp))
  | str j=>obtain ⟨t',rfl⟩:=ry;exact EqNone.ne_none_str (QH I q (by simp))
  | _=>exact absurd (show false=true from hs) FT
 | bl i=>
  cases rx;cases y with
  | non=>cases ry;exact EqNone.ne_bool_none (QH I q (by simp))
  | bl j=>cases ry;exact ne_bool (QH I q (congrArg not M0))
  | str j=>obtain ⟨t',rfl⟩:=ry;exact EqMixed.ne_bool_str (QH I q (by simp))
  | _=>exact absurd (show false=true from hs) FT
 | int i=>
  obtain ⟨t,rfl⟩:=rx;cases y with
  | non=>cases ry;exact EqNone.ne_int_none (QH I q (by simp))
  | int j=>obtain ⟨t',rfl⟩:=ry;exact ne_int (QH I q (congrArg not Jj))
  | str j=>obtain ⟨t',rfl⟩:=ry;exact EqMixed.ne_int_str (QH I q (by simp))
  | _=>exact absurd (show false=true from hs) FT
 | str i=>
  obtain ⟨t,rfl⟩:=rx;cases y with
  | non=>cases ry;exact EqNone.ne_str_none (QH I q (by simp))
  | bl j=>cases ry;exact EqMixed.ne_str_bool (QH I q (by simp))
  | int j=>obtain ⟨t',rfl⟩:=ry;exact EqMixed.ne_str_int (QH I q (by simp))
  | str j=>obtain ⟨t',rfl⟩:=ry;exact ne_str (QH I q (congrArg not Gz))
  | _=>exact absurd (show false=true from hs) FT
 | byt i=>
  obtain ⟨t,rfl⟩:=rx;cases y with
  | byt j=>obtain ⟨t',rfl⟩:=ry;exact W.ne_bytes (QH I q (congrArg not GA))
  | _=>exact absurd (show false=true from hs) FT
 | _=>cases y <;> exact absurd (show false=true from hs) FT
theorem op_lt:OpR X (compareOp .Lt) (rI0 fun i j=>.bl (decide (i<j))):=Px fun _ _ _ _ _ _ _ q=>lt_int q
theorem op_gt:OpR X (compareOp .Gt) (rI0 fun i j=>.bl (decide (j<i))):=Px fun _ _ _ _ _ _ _ q=>gt_int q
theorem op_ge:OpR X (compareOp .GtE) (rI0 fun i j=>.bl (decide (j<=i))):=Px fun _ _ _ _ _ _ _ q=>ge_int q
theorem GV:OpR X (compareOp .In) (fun x y H Q=>∃ i j,x=.str i/\y=.str j/\Q (.bl (!(Builtin.Str.occurrences j i 0 j.length 1).isEmpty)) H):=by
 intro pins s σ H x y v u Q I rx ry h;obtain ⟨i,j,rfl,rfl,q⟩:=h;obtain ⟨t,rfl⟩:=rx;obtain ⟨t',rfl⟩:=ry;exact in_str (QH I q rfl)
theorem Y8:OpR X (compareOp .IsNot) (fun x y H Q=>y=.non/\Q (.bl (!decide (x=.non))) H):=by
 intro pins s σ H x y v u Q I rx ry h;obtain ⟨rfl,q⟩:=h;cases ry;refine isnot_none_gen (QH I q ?_);cases x <;> first
  | (cases rx;rfl)
  | (obtain ⟨t,rfl⟩:=rx;rfl)
theorem K1:OpR X (compareOp .NotIn) (fun x y H Q=>∃ i j,x=.str i/\y=.str j/\Q (.bl (!(!(Builtin.Str.occurrences j i 0 j.length 1).isEmpty))) H):=by
 intro pins s σ H x y v u Q I rx ry h;obtain ⟨i,j,rfl,rfl,q⟩:=h;obtain ⟨t,rfl⟩:=rx;obtain ⟨t',rfl⟩:=ry;exact notIn_str (QH I q rfl)
theorem OpR.or {f:Value->Value->Sem Value}{r r':R2}(h:OpR X f r) (h':OpR X f r'):OpR X f (fun x y H Q=>r x y H Q∨r' x y H Q):=by
 intro pins s σ H x y v u Q I rx ry q;rcases q with q | q
 ·exact h pins s σ H x y v u Q I rx ry q
 ·exact h' pins s σ H x y v u Q I rx ry q
theorem Qu (b:Expr) {op:CmpOp}(h:op≠.In:=by decide) (h2:op≠.NotIn:=by decide):behindInMarks op b=false:=by
 have e1:(op == CmpOp.In)=false:=by cases op <;> first | rfl | exact absurd rfl h
 have e2:(op == CmpOp.NotIn)=false:=by cases op <;> first | rfl | exact absurd rfl h2
 cases b <;> simp [behindInMarks,e1,e2]
theorem Zl {r:R2}(ho:OpR X (compareOp op) r) (ha:PE X a ta) (hb:PE X b tb) (hm:behindInMarks op b=false):PE X (.Compare a [op] [b] pos) (tOp r ta tb):=by
 intro pins s σ H Q I h;exact wpAny_Compare1 (P4 ha hb I h fun v u s2 x y H2 I2 rx ry q=>ho pins s2 σ H2 x y v u Q I2 rx ry q) hm
def P8 (K:W.Frag) (x:V) (H:Hp) (k:Bool):Prop:=
 match x with
 | .non=>k=false
 | .bl b=>k=b
 | .int i=>k=(i != 0)
 | .str y=>y.length<=sizeLine/\k=((y.length:Int) != 0)
 | .byt y=>y.size<=sizeLine/\k=((y.size:Int) != 0)
 | .ref p=>(∃ xs,SqL K H p xs/\k=!xs.isEmpty)∨(∃ xs,SqT K H p xs/\k=!xs.isEmpty)∨∃ kvs,H p=some (.dK kvs)/\k=!kvs.isEmpty
 | _=>False
theorem UL {κ:Type}{kvs:List (κ×V)}{vs:List (κ×Value)}(r:KV kvs vs):(!vs.isEmpty)=!kvs.isEmpty:=by
 cases r <;> rfl
theorem JD {xs:List V}(r:Vals xs its):(!its.toArray.isEmpty)=!xs.isEmpty:=by
 cases r <;> simp
theorem Jy:(sizeLine:Nat)<2 ^ 63:=by rw [EF];decide
theorem R8:Fe X (fun x H Q=>∃ k,P8 X.K x H k/\Q k H):=by
 intro pins s σ H x v Q I rx h;obtain ⟨k,e,q⟩:=h;have hl:=Jy;have hs:sizeLine=16777216:=EF;cases x with
 | non=>
  cases rx;have e':k=false:=e;subst e';exact truthy_none ⟨H,I,q⟩
 | bl b=>
  cases rx;have e':k=b:=e;subst e';exact EK ⟨H,I,q⟩
 | int i=>
  obtain ⟨t,rfl⟩:=rx;have e':k=(i != 0):=e;subst e';exact PySem.P.truthy_int ⟨H,I,q⟩
 | str y=>
  obtain ⟨t,rfl⟩:=rx;obtain ⟨hy,e'⟩:y.length<=sizeLine/\k=((y.length:Int) != 0):=e;subst e';exact PySem.P.truthy_str (by omega) ⟨H,I.tok _,q⟩
 | byt y=>
  obtain ⟨t,rfl⟩:=rx;obtain ⟨hy,e'⟩:y.size<=sizeLine/\k=((y.size:Int) != 0):=e;subst e';exact W.truthy_bytes (by omega) ⟨H,I.tok _,q⟩
 | ref p=>
  cases rx;have e':(∃ xs,SqL X.K H p xs/\k=!xs.isEmpty)∨(∃ xs,SqT X.K H p xs/\k=!xs.isEmpty)∨∃ kvs,H p=some (.dK kvs)/\k=!kvs.isEmpty:=e;rcases e' with ⟨xs,hx,e'⟩ | ⟨xs,hx,e'⟩ | ⟨kvs,hx,e'⟩
  ·subst e';obtain ⟨its,r,pl,hz⟩:=I.list hx;have hlen:=r.length;exact wpAny_truthy_list pl.isList (by simp only [FN];omega) ⟨H,I.tok _,by rw [JD r];exact q⟩
  ·subst e';obtain ⟨its,r,pl,hz⟩:=I.tuple hx;have hlen:=r.length;exact truthy_tuple pl (by simp only [FN];omega) ⟨H,I.tok _,by rw [JD r];exact q⟩
  ·subst e';obtain ⟨hz,hS,vs,r,m⟩:kvs.length<=sizeLine/\(p == sysModules)=false/\∃ vs,KV kvs vs/\s.heap.DictOf (QX X.prog X.w) p vs:=I.hok p _ hx;have hlen:kvs.length=vs.length:=Paired.length r;exact wpAny_truthy_dict hS m (by omega) ⟨H,I.tok _,by rw [UL r];exact q⟩
 | _=>exact (show False from e).elim
theorem ZQ (ha:PE X a ta) (he:∀ whole,isTrue a X.env whole=(do let v <-whole;standAt a.pos;holding [v] (truthy v))) :
  PT X a (fun σ H Q=>ta σ H fun x H'=>∃ k,P8 X.K x H' k/\Q k H'):=by
 intro pins s σ H Q I h;exact isTrue_plain (thn (ha pins s σ H _ I h) fun v s1 ⟨x,H1,I1,r1,q1⟩=>R8 pins s1 σ H1 x v Q I1 r1 q1) (he _)
theorem op_add_str:OpR X (binaryOp .Add) (fun x y H Q=>∃ i j,x=.str i/\y=.str j/\i.length+j.length<=sizeLine/\Q (.str (i++j)) H):=by
 intro pins s σ H x y v u Q I rx ry h;obtain ⟨i,j,rfl,rfl,hz,q⟩:=h;obtain ⟨t,rfl⟩:=rx;obtain ⟨t',rfl⟩:=ry;exact add_str (fun t' tk=>⟨.str (i++j),H,I.tok _,⟨_,rfl⟩,q⟩) hz
theorem XH {x:V}(r:Vals [x] us):∃ u,us=[u]/\RelV x u:=by
 cases r with
 | cons r1 r2=>cases r2;exact ⟨_,rfl,r1⟩
theorem Ke {x y:V}(r:Vals [x,y] us):∃ u w',us=[u,w']/\RelV x u/\RelV y w':=by
 cases r with
 | cons r1 r2=>
  cases r2 with
  | cons r3 r4=>cases r4;exact ⟨_,_,rfl,r1,r3⟩
theorem JL:ZT X (.builtin "abs") (fun xs H Q=>∃ i,xs=[.int i]/\Q (.int (if i<0 then -i else i)) H):=by
 intro pins s σ H xs us Q I r h;obtain ⟨i,rfl,q⟩:=h;obtain ⟨u,rfl,t,rfl⟩:=XH r;exact call_abs_int fun u tk=>⟨.int (if i<0 then -i else i),H,I.tok _,⟨_,rfl⟩,q⟩
theorem WO:ZT X (.type "int") (fun xs H Q=>(∃ i,xs=[.int i]/\Q (.int i) H)∨∃ k,xs=[.bl k]/\Q (.int (if k then 1 else 0)) H):=by
 intro pins s σ H xs us Q I r h;rcases h with ⟨i,rfl,q⟩ | ⟨k,rfl,q⟩
 ·obtain ⟨u,rfl,t,rfl⟩:=XH r;exact call_int_int ⟨.int i,H,I,⟨_,rfl⟩,q⟩
 ·obtain ⟨u,rfl,r1⟩:=XH r;cases r1;exact call_int_bool ⟨.int (if k then 1 else 0),H,I.tok _,⟨_,rfl⟩,q⟩
def Ho (K:W.Frag) (x:V) (H:Hp) (n:Nat):Prop:=
 match x with
 | .str y=>y.length<=sizeLine/\n=y.length
 | .byt y=>y.size<=sizeLine/\n=y.size
 | .ref p=>(∃ xs,SqL K H p xs/\n=xs.length)∨∃ xs,SqT K H p xs/\n=xs.length
 | _=>False
theorem Ld:ZT X (.builtin "len") (fun xs H Q=>∃ x n,xs=[x]/\Ho X.K x H n/\Q (.int n) H):=by
 intro pins s σ H xs us Q I r h;obtain ⟨x,n,rfl,e,q⟩:=h;obtain ⟨u,rfl,rx⟩:=XH r;have hl:=Jy;have hs:sizeLine=16777216:=EF;cases x with
 | str y=>
  obtain ⟨t,rfl⟩:=rx;obtain ⟨hy,e'⟩:y.length<=sizeLine/\n=y.length:=e;subst e';exact len_str (by omega) ⟨.int _,H,I.tok _,⟨_,rfl⟩,q⟩
 | byt y=>
  obtain ⟨t,rfl⟩:=rx;obtain ⟨hy,e'⟩:y.size<=sizeLine/\n=y.size:=e;subst e';exact W.len_bytes (by omega) ⟨.int _,H,I.tok _,⟨_,rfl⟩,q⟩
 | ref p=>
  cases rx;have e':(∃ xs,SqL X.K H p xs/\n=xs.length)∨∃ xs,SqT X.K H p xs/\n=xs.length:=e;rcases e' with ⟨xs,hx,e'⟩ | ⟨xs,hx,e'⟩
  ·subst e';obtain ⟨its,r',pl,hz⟩:=I.list hx;have hlen:=r'.length;exact Calls.call_len_list pl.isList (by simp only [FN];omega) ⟨.int xs.length,H,I.tok _,⟨_,by simp only [FN];rw [hlen]⟩,q⟩
  ·subst e';obtain ⟨its,r',pl,hz⟩:=I.tuple hx;have hlen:=r'.length;exact len_tuple pl (by simp only [FN];omega) ⟨.int xs.length,H,I.tok _,⟨_,by simp only [FN];rw [hlen]⟩,q⟩
 | _=>exact (show False from e).elim
end
structure ObjM (h:Heap) (x dx C:Addr) (mA:Str->Option Value):Prop where
 obj:h.get? x=some (W.instObj C dx)
 ns:h.Ns1 dx mA
 ne:dx≠x
theorem WI (n:h.Ns1 dx mA):∃ od,h.get? dx=some od/\∀ name,W.lookIn name od=some (mA name):=by
 obtain ⟨o,es,ep,ho,hd,hk,_,hm⟩:=n;refine ⟨o,ho,fun name=>?_⟩;have e:=hm name;unfold nsFind findBy at e;rw [<-Array.find?_toList] at e;unfold W.lookIn;rw [hd];dsimp only;split
 ·rename_i y q;rw [q] at e;exact congrArg some e
 ·rename_i q;rw [q] at e;have a:es.toList.any (·.refKey)=false:=by
   rw [List.any_eq_false];intro y hy;obtain ⟨z,t,hkey⟩:=hk y (Array.mem_toList_iff.mp hy);simp [DictEntry.refKey,hkey]
  have a':¬ es.toList.any (·.refKey)=true:=by rw [a];exact FT
  rw [Fl a'];exact congrArg some e
theorem ObjM.look {x:Addr}(I:ObjM h x dx C mA):∃ od,W.InstAt h x (W.instObj C dx) C (some od)/\∀ name,W.lookIn name od=some (mA name):=
 let ⟨od,ho,hl⟩:=WI I.ns
 ⟨od,⟨I.obj,rfl,rfl,ho⟩,hl⟩
section
variable {prog:Program} {w:World} {A:Around} {E:Value->Shared->Prop} {s:Shared} {K:W.Frag} {x dx C f:Addr} {mA:Str->Option Value} {name:Str} {v:Value}
theorem BA {expr:Bool}{Q:Value->Shared->Prop}(X:K.In s.heap) (I:ObjM s.heap x dx C mA) (hg:W.plainGet K C name=true) (hh:W.hasDictIn K C=true)
  (ha:W.findIn K (.ref C) name=some none) (hv:mA name=some v) (hv':W.handedIn v=true) (h:Q v { s with toks:=s.toks+1 }) :
  wpAny (model prog w) A (getAttr (.ref x) name expr) Q E s:=by
 obtain ⟨od,J,hl⟩:=I.look;exact W.get_value X J (W.plainGet_of hg).1 (W.findObj_own hh ha rfl (by rw [hl,hv])) hv' h
theorem MJ {Q:Value×List Value->Shared->Prop}(X:K.In s.heap) (I:ObjM s.heap x dx C mA) (hg:W.plainGet K C name=true)
  (hf:W.findIn K (.ref C) name=some (some (.ref f))) (ht:W.isFn K (.ref f)=true) (hv:mA name=none) (h:Q (.ref f,[.ref x]) s) :
  wpAny (model prog w) A (getMethod (.ref x) name pl) Q E s:=by
 obtain ⟨od,J,hl⟩:=I.look;exact W.method_fn X J (W.plainGet_of hg).1 (W.plainGet_of hg).2 hf (beq_iff_eq.mp ht) (by show (W.lookIn name od).map (·.isSome)=some false;rw [hl,hv];rfl) h
theorem LN {ns:List Str}{Q:Unit->Shared->Prop}(X:K.In s.heap) (I:ObjM s.heap x dx C mA)
  (hs:W.findIn K (.ref C) "__setattr__"=some (some (.builtin "object.__setattr__"))) (hp:W.plainOver K C=true) (ht:W.takerIn K C name=some none) (hh:W.hasDictIn K C=true)
  (hw:PySem.Within mA ns) (hsz:ns.length<=sizeLine)
  (h:∀ h',ObjM h' x dx C (fun y=>if y=name then some v else mA y)->Heap.SameBut dx s.heap h'->Q () { s with heap:=h',toks:=s.toks+2 }) :
  wpAny (model prog w) A (setAttr (.ref x) name v) Q E s:=by
 obtain ⟨od,J,hl⟩:=I.look;refine W.set_plain X J hs (W.osa_open (s:={ s with toks:=s.toks+1 }) (r:=none) X J hp ht fun b=>?_);obtain ⟨cd,hc,hd'⟩:=W.any_some hh;have hx:s.heap.get? x=some ⟨.ref C,some dx,.plain,#[]⟩:=I.obj;refine Fk (Fw (Fk (Fk (wpAny_loadPart hx (Fk (W.Looks.here (s:={ s with toks:=s.toks+1 }) (W.looks_clsIn X hc) ?_))))));rw [hd'];refine Fw (a:=some dx) (Fk (Fw (Fk ?_)));refine wpAny_nsSet1 (s:={ s with toks:=s.toks+1 }) I.ns fun h' hn2 hs2=>?_
 obtain ⟨oD,esD,epD,hoD,hdD,hcD⟩:=hn2.count (Within.cons name v hw);refine Fk (wpAny_lookBehind hoD (by rw [hdD];exact pastItsLine_dict (FQ hcD (by rw [En];omega))) ?_);exact Fw (h _ ⟨(hs2.2 _ (Eb I.ne)).trans I.obj,hn2,I.ne⟩ hs2)
theorem Ms {R:Result->Shared->Prop}{vs:List Value}(X:K.In s.heap) (hm:W.makesIn K C=true)
  (hi:W.findIn K (.ref C) "__init__"=some (some (.ref f))) (hf:W.typeIn K (.ref f)=some (.type "function"))
  (h:codeAny (model prog w) (A.under (.builtin "type.__call__" ⟨.ref C :: vs,kw⟩)) (.call (.ref f) ⟨.ref (s.heap.objs.size+1) :: vs,kw⟩) (W.InitBack (s.heap.objs.size+1) R)
   { s with heap:=(s.heap.push W.emptyDict).push (W.instObj C s.heap.objs.size) }) :
  codeAny (model prog w) A (.call (.ref C) ⟨vs,kw⟩) R s:=by
 obtain ⟨hh,g,d,t,os⟩:=s;exact W.make_core (W.makes_of X hm) (W.looks_findIn X hi) (fun self=>W.bind_fn X self hf) (.inl rfl) h
end
def Q5 (f:Str) (v:V):List (Str×V)->List (Str×V)
 | []=>[(f,v)]
 | (g,x) :: r=>if g=f then (g,v) :: r else (g,x) :: Q5 f v r
theorem Qm (f g:Str) (v:V):∀ fs:List (Str×V),(Q5 f v fs).lookup g=if g=f then some v else fs.lookup g
 | []=>by
  show List.lookup g [(f,v)]=_;by_cases h:g=f
  ·have hb:(g == f)=true:=beq_iff_eq.mpr h;simp only [List.lookup,hb,Fs h]
  ·have hb:(g == f)=false:=beq_eq_false_iff_ne.mpr h;simp only [List.lookup,hb,Fl h]
 | (k,x) :: r=>by
  have ih:=Qm f g v r;rw [show Q5 f v ((k,x) :: r)=(if k=f then (k,v) :: r else (k,x) :: Q5 f v r) from rfl];by_cases hk:k=f
  ·rw [Fs hk];by_cases h:g=k
   ·have hb:(g == k)=true:=beq_iff_eq.mpr h;simp only [List.lookup,hb,Fs (h.trans hk)]
   ·have hb:(g == k)=false:=beq_eq_false_iff_ne.mpr h;simp only [List.lookup,hb,Fl (fun e:g=f=>h (e.trans hk.symm))]
  ·rw [Fl hk];by_cases h:g=k
   ·have hb:(g == k)=true:=beq_iff_eq.mpr h;simp only [List.lookup,hb,Fl (fun e:g=f=>hk (h.symm.trans e))]
   ·have hb:(g == k)=false:=beq_eq_false_iff_ne.mpr h;simp only [List.lookup,hb];exact ih
theorem XO (f:Str) (v:V):∀ fs:List (Str×V),f∈(Q5 f v fs).map (·.1)/\∀ g,g∈fs.map (·.1)->g∈(Q5 f v fs).map (·.1)
 | []=>⟨by simp [Q5],fun g h=>by simp at h⟩
 | (k,x) :: r=>by
  obtain ⟨i1,i2⟩:=XO f v r;rw [show Q5 f v ((k,x) :: r)=(if k=f then (k,v) :: r else (k,x) :: Q5 f v r) from rfl];by_cases hk:k=f
  ·rw [Fs hk];subst hk;exact ⟨by simp,fun g h=>by simpa using h⟩
  ·rw [Fl hk];refine ⟨?_,fun g h=>?_⟩
   ·rw [F5];exact F9 _ i1
   ·rw [F5] at h ⊢;rcases FS.mp h with e | e
    ·exact FS.mpr (.inl e)
    ·exact F9 _ (i2 g e)
theorem WY (f:Str) (v:V):∀ fs:List (Str×V),(Q5 f v fs).length<=fs.length+1
 | []=>by simp [Q5]
 | (k,x) :: r=>by
  have ih:=WY f v r;rw [show Q5 f v ((k,x) :: r)=(if k=f then (k,v) :: r else (k,x) :: Q5 f v r) from rfl];by_cases hk:k=f
  ·rw [Fs hk,En,En];omega
  ·rw [Fl hk,En,En];omega
theorem RelO.some_of {v:V}{o:Option Value}(r:RelO (some v) o):∃ u,o=some u/\RelV v u:=by
 cases o with
 | none=>exact (show False from r).elim
 | some u=>exact ⟨u,rfl,r⟩
theorem RelO.none_of {o:Option Value}(r:RelO none o):o=none:=by
 cases o with
 | none=>rfl
 | some u=>exact (show False from r).elim
theorem Km {v:V}(r:RelV v u):W.handedIn u=true:=by
 cases v with
 | non=>cases (show u=Value.none from r);rfl
 | bl b=>cases (show u=Value.bool b from r);rfl
 | int i=>obtain ⟨t,e⟩:=(show ∃ t,u=Value.int i t from r);cases e;rfl
 | str x=>obtain ⟨t,e⟩:=(show ∃ t,u=Value.str x t from r);cases e;rfl
 | byt b=>obtain ⟨t,e⟩:=(show ∃ t,u=Value.bytes b t from r);cases e;rfl
 | flt b=>obtain ⟨t,e⟩:=(show ∃ t,u=Value.float b t from r);cases e;rfl
 | ref a=>cases (show u=Value.ref a from r);rfl
 | ty n=>cases (show u=Value.type n from r);rfl
section
variable {P:Program} {w:World} {H H':Hp} {h h':Heap} {a C dx:Addr} {fs fs':List (Str×V)}
theorem Jh (hok:HOk P w H h) (e:H a=some (.ins C dx fs)):∃ mA,ObjM h a dx C mA/\(∀ f,RelO (fs.lookup f) (mA f))/\PySem.Within mA (fs.map (·.1))/\fs.length<=1000/\H dx=some (.own a):=by
 obtain ⟨d,z,ne,ob,mA,n,r,q⟩:=(show ObjOk P w H h a (.ins C dx fs) from hok a _ e)
 exact ⟨mA,⟨ob,n,ne⟩,r,q,z,d⟩
end
structure Cls (K:W.Frag) (C:Addr):Prop where
 pg:W.plainGet K C Str.empty=true
 hd:W.hasDictIn K C=true
 po:W.plainOver K C=true
 sa:W.findIn K (.ref C) "__setattr__"=some (some (.builtin "object.__setattr__"))
theorem Cls.get (c:Cls K C) (f:Str):W.plainGet K C f=true:=c.pg
def NoAttr (K:W.Frag) (C:Addr) (f:Str):Prop:=W.findIn K (.ref C) f=some none
theorem NoAttr.taker {f:Str}(n:NoAttr K C f):W.takerIn K C f=some none:=by
 unfold W.takerIn;rw [show W.findIn K (.ref C) f=some none from n];rfl
structure Lp (K:W.Frag) (C:Addr) (m:Str) (f:Addr):Prop where
 at_:W.findIn K (.ref C) m=some (some (.ref f))
 fn:W.isFn K (.ref f)=true
 kp:W.keepIn K (.ref f)=true
section
variable {X:Cx} {pins:List (Addr×Obj)} {σ:St} {H:Hp} {s:Shared} {a C dx:Addr} {fs:List (Str×V)} {f:Str} {v:V} {A:Around} {E:Value->Shared->Prop}
theorem UN {b:Bool}{Q:Value->Shared->Prop}(I:Inv X pins σ H s) (e:H a=some (.ins C dx fs)) (c:Cls X.K C) (n:NoAttr X.K C f) (l:fs.lookup f=some v)
  (h:∀ u s',Inv X pins σ H s'->RelV v u->Q u s'):wpAny (model X.prog X.w) A (getAttr (.ref a) f b) Q E s:=by
 obtain ⟨mA,O,r,_,_,_⟩:=Jh I.hok e;obtain ⟨u,hu,ru⟩:=RelO.some_of (v:=v) (o:=mA f) (by rw [<-l];exact r f);exact BA I.kIn O (c.get f) c.hd n hu (Km ru) (h u _ (I.tok _) ru)
theorem YL {m:Str}{g:Addr}{Q:Value×List Value->Shared->Prop}(I:Inv X pins σ H s) (e:H a=some (.ins C dx fs)) (c:Cls X.K C) (k:Lp X.K C m g) (l:fs.lookup m=none)
  (h:Q (.ref g,[.ref a]) s):wpAny (model X.prog X.w) A (getMethod (.ref a) m pl) Q E s:=by
 obtain ⟨mA,O,r,_,_,_⟩:=Jh I.hok e;have hn:mA m=none:=RelO.none_of (by rw [<-l];exact r m);exact MJ I.kIn O (c.get m) k.at_ k.fn hn h
theorem Uh {y:V}{Q:Unit->Shared->Prop}(I:Inv X pins σ H s) (e:H a=some (.ins C dx fs)) (c:Cls X.K C) (n:NoAttr X.K C f) (hl:fs.length<1000) (ry:RelV y u)
  (h:∀ s',Inv X pins σ (upd H a (.ins C dx (Q5 f y fs))) s'->Q () s'):wpAny (model X.prog X.w) A (setAttr (.ref a) f u) Q E s:=by
 obtain ⟨mA,O,r,wi,_,ho⟩:=Jh I.hok e;have hz:(fs.map (·.1)).length<=sizeLine:=by rw [Fo,EF];omega
 refine LN I.kIn O c.sa c.po n.taker c.hd wi hz fun h' O' sb=>h _ ?_
 have hd:∃ o,h'.get? dx=some o:=let ⟨o,_,_,e',_⟩:=O'.ns;⟨o,e'⟩;refine I.write (x:=a) (e:=dx) (by rw [e];exact True.intro) (.inr ho) (fun b q hb z=>(sb.2 b hb).trans z) hd ?_;refine ⟨by rw [Qj O.ne];exact ho,?_,O.ne,O'.obj,_,O'.ns,fun g=>?_,fun g hg=>?_⟩
 ·have:=WY f y fs;omega
 ·show RelO ((Q5 f y fs).lookup g) (if g=f then some u else mA g);rw [Qm];by_cases q:g=f
  ·rw [Fs q,Fs q];exact ry
  ·rw [Fl q,Fl q];exact r g
 ·by_cases q:g=f
  ·rw [q];exact (XO f y fs).1
  ·refine (XO f y fs).2 g (wi g fun z=>hg ?_);show (if g=f then some u else mA g)=none;rw [Fl q];exact z
theorem Inv.made (I:Inv X pins σ H s):Inv X pins σ (upd (upd H s.heap.objs.size (.own (s.heap.objs.size+1))) (s.heap.objs.size+1) (.ins C s.heap.objs.size []))
  { s with heap:=(s.heap.push W.emptyDict).push (W.instObj C s.heap.objs.size) }:=by
 have e1:(s.heap.push W.emptyDict).get? s.heap.objs.size=some W.emptyDict:=FY s.heap rfl;have e2:((s.heap.push W.emptyDict).push (W.instObj C s.heap.objs.size)).get? (s.heap.objs.size+1)=some (W.instObj C s.heap.objs.size):=by
  have:=FY (s.heap.push W.emptyDict) (o:=W.instObj C s.heap.objs.size) rfl;rwa [Heap.size_push] at this
 have e3:(s.heap.push W.emptyDict).Ns s.heap.objs.size (fun _=>none):=⟨W.emptyDict,#[],_,e1,rfl,(fun e he=>absurd he (by simp)),fun _=>rfl⟩
 have I1:=I.laid (a:=s.heap.objs.size) (o:=.own (s.heap.objs.size+1)) (h':=s.heap.push W.emptyDict) (t':=s.toks) (fun b u q=>FG _ q) (Ft _) ⟨_,e1⟩;refine I1.laid (a:=s.heap.objs.size+1) (o:=.ins C s.heap.objs.size []) (t':=s.toks) (fun b u q=>FG _ q) (Nat.le_of_eq (Heap.size_push _ _)) ?_;have ne:s.heap.objs.size≠s.heap.objs.size+1:=FI (De _);refine ⟨by rw [Qj ne,Qe],FZ _,ne,e2,fun _=>none,(Heap.Ns1.of_empty e3).at fun o q=>FG _ q,fun _=>True.intro,fun y hy=>absurd rfl hy⟩
theorem GC {e:Expr}{f:Str}{Q:Value->Shared->Prop}(hb:attributeBase e f env (eval e env)=eval e env)
  (h:wpAny (model prog w) A (eval e env) (fun o s₁=>wpAny (model prog w) A (getAttr o f true) Q E s₁) E s):wpAny (model prog w) A (eval (.Attribute e f pos) env) Q E s:=
 Attribute_any_ h (by rw [arm_eval_Attribute,hb])
end
def LI (K:W.Frag) (ta:TE) (f:Str):TE:=fun σ H Q=>ta σ H fun x H1=>∃ a C dx fs v,x=.ref a/\H1 a=some (.ins C dx fs)/\Cls K C/\NoAttr K C f/\fs.lookup f=some v/\Q v H1
def LP (K:W.Frag) (ta tv:TE) (f:Str):TS:=fun D σ H=>tv σ H fun y H1=>ta σ H1 fun x H2=>∃ a C dx fs,x=.ref a/\H2 a=some (.ins C dx fs)/\Cls K C/\NoAttr K C f/\fs.length<1000 /\
 D.nx σ (upd H2 a (.ins C dx (Q5 f y fs)))
section
variable {X:Cx} {o e value:Expr} {f:Str} {pos pos' tpos:Pos} {ta tv:TE}
theorem Pm (he:PE X e ta) (hb:attributeBase e f X.env (eval e X.env)=eval e X.env):PE X (.Attribute e f pos) (LI X.K ta f):=by
 intro pins s σ H Q I h;refine GC hb (thn (he pins s σ H _ I h) fun u s1 ⟨x,H1,I1,rx,a,C,dx,fs,v,ex,ea,c,n,l,q⟩=>?_);subst ex;obtain rfl:u=Value.ref a:=rx;exact UN I1 ea c n l fun u' s2 I2 ru=>⟨v,H1,I2,ru,q⟩
theorem Pi (ha:PE X o ta) (hv:PE X value tv) (hs:swapsWith value (some (.Attribute o f pos')) pos.line X.env=pure false):PS X (.Assign [.Attribute o f pos'] value pos) (LP X.K ta tv f):=by
 intro pins s σ H D I h;refine DA (thn (hv pins s σ H _ I h) fun u s1 ⟨y,H1,I1,ry,q⟩=>thn (ha pins s1 σ H1 _ I1 q) fun ov s2 ⟨x,H2,I2,rx,a,C,dx,fs,ex,ea,c,n,l,q2⟩=>?_) hs;subst ex;obtain rfl:ov=Value.ref a:=rx;exact Uh I2 ea c n l ry fun s3 I3=>⟨σ,_,I3,q2⟩
theorem Rn {m:Str}{apos:Pos}{args:List Expr}{σ:St}{H:Hp}{Q:Value->Shared->Prop}{te:TE}(he:PE X e te) (I:Inv X pins σ H s)
  (h:te σ H fun x H1=>∃ a C dx fs g,x=.ref a/\H1 a=some (.ins C dx fs)/\Cls X.K C/\Lp X.K C m g/\fs.lookup m=none /\
   ∀ s1,Inv X pins σ H1 s1->wpAny (model X.prog X.w) X.A (callWith pos (.ref g) [.ref a] (backTo pos (starEach args X.env)) (backToKw pos (keywordEach [] X.env))) Q X.xe s1)
  (ht:eval (.Call (.Attribute e m apos) args [] pos) X.env=(do
   let ov <-eval e X.env
   standAt apos.atName
   let (f,first) <-holding [ov] (getMethod ov m pl)
   callWith pos f first (backTo pos (starEach args X.env)) (backToKw pos (keywordEach [] X.env)))) :
  wpAny (model X.prog X.w) X.A (eval (.Call (.Attribute e m apos) args [] pos) X.env) Q X.xe s:=by
 refine W.methodCall_KW (pl:=pl) (thn (he pins s σ H _ I h) fun u s1 ⟨x,H1,I1,rx,a,C,dx,fs,g,ex,ea,c,k,l,q⟩=>?_) ht;subst ex;obtain rfl:u=Value.ref a:=rx;exact YL I1 ea c k l (q s1 I1)
end
section
variable {X:Cx} {pins:List (Addr×Obj)} {σ:St} {H:Hp} {s:Shared} {A:Around} {E:Value->Shared->Prop} {Q:Value->Shared->Prop} {c:Value} {b:Bool}
inductive TyOf (K:W.Frag) (H:Hp):V->Value->Prop where
 | non:TyOf K H .non (.type "NoneType")
 | bl (x:Bool):TyOf K H (.bl x) (.type "bool")
 | int (i:Int):TyOf K H (.int i) (.type "int")
 | str (x:Str):TyOf K H (.str x) (.type "str")
 | flt (x:UInt64):TyOf K H (.flt x) (.type "float")
 | lst {a:Addr} {xs:List V} (e:H a=some (.lst xs)):TyOf K H (.ref a) (.type "list")
 | frz {a:Addr} {o:Obj} {xs:List V} (e:H a=some (.frz o (.lst xs))):TyOf K H (.ref a) (.type "list")
 | tup {a:Addr} {xs:List V} (e:H a=some (.tup xs)):TyOf K H (.ref a) (.type "tuple")
 | dK {a:Addr} {kvs:List (Key×V)} (e:H a=some (.dK kvs)):TyOf K H (.ref a) (.type "dict")
 | dT {a:Addr} {kvs:List (List Key×V)} (e:H a=some (.dT kvs)):TyOf K H (.ref a) (.type "dict")
 | ins {a C dx:Addr} {fs:List (Str×V)} (e:H a=some (.ins C dx fs)) (cl:Cls K C) (ha:W.findIn K (.ref C) "__class__"=some (some (.builtin "object.__class__")))
   (hn:W.specialIn K (.builtin "object.__class__") "__get__"=some (some (.builtin "getset_descriptor.__get__"))) (htk:W.takesIn K (.builtin "object.__class__")=some true)
   (hm:W.mroIn K C (.type "object")=some true):TyOf K H (.ref a) (.ref C)
theorem Nf {x:V}{t:Value}(I:Inv X pins σ H s) (rx:RelV x u) (ty:TyOf X.K H x t) (e:W.kitOne X.K t c=some b) (h:∀ tk,Q (.bool b) { s with toks:=tk }) :
  wpAny (model X.prog X.w) A (call (.builtin "isinstance") [u,c]) Q E s:=by
 cases ty with
 | non=>cases (show u=Value.none from rx);exact W.kia_one W.kitx_none I.kIn True.intro e (fun z=>nomatch z) h
 | bl y=>cases (show u=Value.bool y from rx);exact W.kia_one W.kitx_bool I.kIn True.intro e (fun z=>nomatch z) h
 | int i=>obtain ⟨t,q⟩:=(show ∃ t,u=Value.int i t from rx);cases q;exact W.kia_one W.kitx_int I.kIn True.intro e (fun z=>nomatch z) h
 | str y=>obtain ⟨t,q⟩:=(show ∃ t,u=Value.str y t from rx);cases q;exact W.kia_one W.kitx_str I.kIn True.intro e (fun z=>nomatch z) h
 | flt y=>obtain ⟨t,q⟩:=(show ∃ t,u=Value.float y t from rx);cases q;exact W.kia_one W.kitx_float I.kIn True.intro e (fun z=>nomatch z) h
 | @lst a xs ea=>
  cases (show u=Value.ref a from rx);obtain ⟨_,_,n,_,h1⟩:=(show ObjOk X.prog X.w H s.heap a (.lst xs) from I.hok a _ ea)
  exact W.kia_one W.kitx_list I.kIn ⟨_,h1,rfl⟩ e (fun z=>nomatch z) h
 | @frz a ob xs ea=>
  cases (show u=Value.ref a from rx);obtain ⟨_,_,_,n,_,h1⟩:=(show ObjOk X.prog X.w H s.heap a (.frz ob (.lst xs)) from I.hok a _ ea)
  exact W.kia_one W.kitx_list I.kIn ⟨_,h1,rfl⟩ e (fun z=>nomatch z) h
 | @tup a xs ea=>
  cases (show u=Value.ref a from rx);obtain ⟨_,_,_,p⟩:=(show ObjOk X.prog X.w H s.heap a (.tup xs) from I.hok a _ ea)
  obtain ⟨o,h1,h2,_⟩:=p;exact W.kia_one W.kitx_tuple I.kIn ⟨o,h1,h2⟩ e (fun z=>nomatch z) h
 | @dK a kvs ea=>
  cases (show u=Value.ref a from rx);obtain ⟨_,_,vs,_,p⟩:=(show ObjOk X.prog X.w H s.heap a (.dK kvs) from I.hok a _ ea)
  obtain ⟨o,es,ep,h1,h2,_⟩:=p;exact W.kia_one W.kitx_dict I.kIn ⟨o,h1,h2.1⟩ e (fun z=>nomatch z) h
 | @dT a kvs ea=>
  cases (show u=Value.ref a from rx);obtain ⟨_,_,xs,_,o,es,ep,h1,h2,_⟩:=(show ObjOk X.prog X.w H s.heap a (.dT kvs) from I.hok a _ ea)
  exact W.kia_one W.kitx_dict I.kIn ⟨o,h1,h2.1⟩ e (fun z=>nomatch z) h
 | @ins a C dx fs ea cl ha hn htk hm=>
  cases (show u=Value.ref a from rx);obtain ⟨mA,O,_⟩:=Jh I.hok ea;obtain ⟨od,J,_⟩:=O.look;exact W.kia_one (W.kitx_own (cl.get _) cl.hd ha hn htk hm) I.kIn J e (fun z=>nomatch z) h
end
structure Room (k:Nat) (A:Around):Prop where
 hd:A.handled=none
 dp:A.depth+3*k+5<recursionLimit
 un:A.units+16*k+200<cLine
theorem Room.mono {j k:Nat}(r:Room k A) (h:j<=k):Room j A:=⟨r.hd,by have:=r.dp;omega,by have:=r.un;omega⟩
theorem hrm {k j:Nat}(h:Room k A) (e:j<=k:=by decide):Room j A:=h.mono e
theorem Room.deeper {k:Nat}(r:Room (k+1) A) (env:Env):Room k (A.deeper env):=
 ⟨r.hd,by have:=r.dp;show A.depth+1+3*k+5<_;omega,by have:=r.un;show A.units+3+16*k+200<_;omega⟩
theorem UG:(A.under (.builtin "type.__call__" ⟨.ref C :: us,kw⟩)).depth=A.depth+1:=by
 first | rfl | simp [Around.under,Code.weight,Code.isCreation,Code.isGuard,Code.isCaller,Code.frames,Code.isFrame,guardIds]
theorem UF:(A.under (.builtin "type.__call__" ⟨.ref C :: us,kw⟩)).units=A.units+1:=by
 first | rfl | simp [Around.under,Code.cUnits,Code.frames,Code.isFrame]
theorem Room.make {k:Nat}(r:Room (k+1) A) (C:Addr) (us:List Value) (kw:List (Str×Value)):Room k (A.under (.builtin "type.__call__" ⟨.ref C :: us,kw⟩)):=
 ⟨r.hd,by have:=r.dp;rw [UG];omega,by have:=r.un;rw [UF];omega⟩
theorem Room.depth {k:Nat}(r:Room k A):A.depth<recursionLimit:=by have:=r.dp;omega
theorem Room.units {k:Nat}(r:Room k A):A.units+64<cLine:=by have:=r.un;omega
def LG:TA:=fun _ H Q=>Q [] H
def Rb (ta:TE) (tr:TA):TA:=fun σ H Q=>ta σ H fun x H1=>tr σ H1 fun xs H2=>Q (x :: xs) H2
section
variable {X:Cx} {e:Expr} {es:List Expr} {te:TE} {t:TA} {pos:Pos}
theorem Qd:PA X [] LG:=fun _ _ _ _ H Q I h=>Calls.spliced_nil ⟨[],H,I,.nil,h⟩
theorem Qa (ha:PE X e te) (hr:PA X es t) (hs:starEach (e :: es) X.env=(false,eval e X.env) :: starEach es X.env:=by rfl):PA X (e :: es) (Rb te t):=by
 intro pos pins s σ H Q I h;rw [hs];show wpAny _ _ (spliced ((false,eval e X.env) :: backTo pos (starEach es X.env))) _ _ s;refine Calls.spliced_cons (thn (ha pins s σ H _ I h) fun u s1 ⟨x,H1,I1,r1,q1⟩=>?_);exact thn (hr pos pins s1 σ H1 _ I1 q1) fun us s2 ⟨xs,H2,I2,r2,q2⟩=>⟨x :: xs,H2,I2,.cons r1 r2,q2⟩
def Sv (t:TA):TE:=fun σ H Q=>t σ H fun xs H1=>xs.length<=sizeLine/\∀ p,H1 p=none->Q (.ref p) (upd H1 p (.tup xs))
def Sy (t:TA):TE:=fun σ H Q=>t σ H fun xs H1=>xs.length<=sizeLine/\∀ p,H1 p=none->Q (.ref p) (upd H1 p (.lst xs))
theorem QE {x1}(h:PA X es t):PE X (.Tuple es x1 pos) (Sv t):=by
 intro pins s σ H Q I hq;refine wpAny_Tuple_spliced (thn (h pos pins s σ H _ I hq) fun us s1 ⟨xs,H1,I1,r,z,q⟩=>⟨by rw [<-r.length];exact z,?_⟩);have hf:H1 s1.heap.objs.size=none:=I1.hok.fresh (Ft _);refine ⟨.ref s1.heap.objs.size,upd H1 s1.heap.objs.size (.tup xs),I1.laid (t':=s1.toks) (fun b u e=>FG _ e) (Ft _) ?_,rfl,q _ hf⟩;exact ⟨z,us,r,⟨_,FY _ rfl,rfl,_,rfl⟩⟩
theorem QC (h:PA X es t):PE X (.List es pos) (Sy t):=by
 intro pins s σ H Q I hq;refine wpAny_List_spliced (thn (h pos pins s σ H _ I hq) fun us s1 ⟨xs,H1,I1,r,z,q⟩=>⟨by rw [<-r.length];exact z,?_⟩);have hf:H1 s1.heap.objs.size=none:=I1.hok.fresh (Ft _);refine ⟨.ref s1.heap.objs.size,upd H1 s1.heap.objs.size (.lst xs),I1.laid (t':=s1.toks) (fun b u e=>FG _ e) (Ft _) ?_,rfl,q _ hf⟩;exact ⟨z,us,0,r,FY _ rfl⟩
end
abbrev Sp:=List V->Hp->VK->XK->Prop
abbrev CXT:=List Env->Hp->Shared->XK->Value->Shared->Prop
structure Env0 (P:Program) (w:World) (K:W.Frag) (mg:Str->Option Value) (base:Heap) (A:Around) (outer:List Env) (s:Shared) (H:Hp):Prop where
 frames:A.frames=some outer
 mod:Mod K mg base
 bs:∀ b o,base.get? b=some o->s.heap.get? b=some o/\H b=none
 bsz:base.objs.size<=s.heap.objs.size
 funs:s.heap.FunFrames base outer
 frf:∀ b∈frs outer,H b=none
 hok:HOk P w H s.heap
 bare:AllBare s.gens
def CE (outer:List Env) (P:Program) (w:World) (H:Hp) (s:Shared) (Q:VK) (u:Value) (s':Shared):Prop:=
 ∃ v H',s'.os=s.os/\AllBare s'.gens/\Un (frs outer) [] H H' s.heap s'.heap/\HOk P w H' s'.heap/\RelV v u/\Q v H'
def CR (CX:CXT) (outer:List Env) (P:Program) (w:World) (H:Hp) (s:Shared) (Q:VK) (E:XK) (r:Result) (s':Shared):Prop:=
 match r with
 | .ok (.ret u)=>CE outer P w H s Q u s'
 | .ok _=>False
 | .error e=>CX outer H s E e s'
structure FnOk (P:Program) (w:World) (K:W.Frag) (mg:Str->Option Value) (base:Heap) (CX:CXT) (k:Nat) (f:Addr) (fd:FuncData) (ps:List Str) (sp:Sp):Prop where
 len:∀ vs H Q E,sp vs H Q E->vs.length=ps.length
 run:∀ (A:Around) (outer:List Env) (s:Shared) (H:Hp) (args:Args) (us:List Value) (vs:List V) (Q:VK) (E:XK),Room k A->Env0 P w K mg base A outer s H->BindsTo s fd args (ps.zip us)->Vals vs us->sp vs H Q E ->
  codeAny (model P w) A (.call (.ref f) args) (CR CX outer P w H s Q E) s
theorem FnOk.imp {CX:CXT}{k:Nat}{sp sp':Sp}(F:FnOk P w K mg base CX k f fd ps sp)
  (h:∀ vs H Q E,sp' vs H Q E->sp vs H Q E):FnOk P w K mg base CX k f fd ps sp':=
 ⟨fun vs H Q E q=>F.len vs H Q E (h _ _ _ _ q),fun A outer s H args us vs Q E hr he hb hv hs=>F.run A outer s H args us vs Q E hr he hb hv (h _ _ _ _ hs)⟩
theorem Env0.make {H:Hp}(e:Env0 P w K mg base A outer s H) (C:Addr) (us:List Value) (kw:List (Str×Value)) :
  Env0 P w K mg base (A.under (.builtin "type.__call__" ⟨.ref C :: us,kw⟩)) outer s H:=⟨by first | exact e.frames | (simpa [Around.under,Code.envs,Code.isFrame,pushEnvs] using e.frames),e.mod,e.bs,e.bsz,e.funs,e.frf,e.hok,e.bare⟩
section
variable {X:Cx} {pins:List (Addr×Obj)} {σ:St} {H:Hp} {s s':Shared}
theorem Inv.env0 (I:Inv X pins σ H s):Env0 X.prog X.w X.K X.mg X.base X.A X.stack s H:=
 ⟨I.ok.frames,I.ok.mod,I.bs,FQ I.ok.bsz I.sz,I.stack,I.stkFree,I.hok,I.bare⟩
theorem Inv.after {Q:VK}(I:Inv X pins σ H s) (h:CE X.stack X.prog X.w H s Q u s'):EP X pins σ Q u s':=by
 obtain ⟨v,H',os,bare,un,hok,r,q⟩:=h;obtain ⟨hh,g,d,t,os'⟩:=s';obtain rfl:os'=s.os:=os;exact ⟨v,H',I.call (h':=hh) (g':=g) (d':=d) (t':=t) (ch:=[]) un hok bare (fun b z=>absurd z (by simp)),r,q⟩
end
def VE (sp:Sp) (dvs:List V) (E:XK) (t:TA):TE:=fun σ H Q=>t σ H fun vs H1=>sp (vs++dvs) H1 Q E
def VD (C:Addr) (m:Str) (sp:Sp) (dvs:List V) (E:XK) (ta:TE) (t:TA):TE:=fun σ H Q=>ta σ H fun x H1=>∃ a dx fs,x=.ref a/\H1 a=some (.ins C dx fs)/\fs.lookup m=none /\
 t σ H1 fun vs H2=>sp (x :: (vs++dvs)) H2 Q E
def WX (C:Addr) (sp:Sp) (dvs:List V) (E:XK) (t:TA):TE:=fun σ H Q=>t σ H fun vs H1=>∀ x dx,H1 x=none->H1 dx=none->dx≠x ->
 sp (.ref x :: (vs++dvs)) (upd (upd H1 dx (.own x)) x (.ins C dx [])) (fun v H2=>v=.non/\Q (.ref x) H2) E
def Binds (K:W.Frag) (fd:FuncData) (ps:List Str) (ds:List Value):Prop:=
 ∀ (s:Shared) (us:List Value),K.In s.heap->(us++ds).length=ps.length->BindsTo s fd ⟨us,[]⟩ (ps.zip (us++ds))
theorem Binds.all (h:∀ us:List Value,us.length=ps.length->bindArgs fd ⟨us,[]⟩=pure (ps.zip us)):Binds K fd ps []:=fun s us _ hl=>by
 rw [Ec] at hl ⊢;exact .of_eq (h us hl)
def X5 (CX:CXT) (X:Cx) (E:XK):Prop:=∀ (pins:List (Addr×Obj)) (σ:St) (H:Hp) (s:Shared) (e:Value) (s':Shared),Inv X pins σ H s->CX X.stack H s E e s'->X.xe e s'
section
variable {X:Cx} {CX:CXT} {k:Nat} {f C:Addr} {fd:FuncData} {ps:List Str} {sp:Sp} {dvs:List V} {ds:List Value} {E:XK} {x m:Str} {p pos apos:Pos} {e o:Expr} {es:List Expr} {ta:TE} {t:TA}
theorem Um {σ:St}{H:Hp}{Q:VK}{vs:List V}(F:FnOk X.prog X.w X.K X.mg X.base CX k f fd ps sp) (hr:Room k X.A) (hb:Binds X.K fd ps ds) (hd:Vals dvs ds) (hx:X5 CX X E)
  (I:Inv X pins σ H s) (r:Vals vs us) (h:sp (vs++dvs) H Q E):wpAny (model X.prog X.w) X.A (call (.ref f) us) (EP X pins σ Q) X.xe s:=by
 have r2:Vals (vs++dvs) (us++ds):=r.append hd;have hl:(us++ds).length=ps.length:=by rw [<-r2.length];exact F.len _ _ _ _ h
 refine wpAny_call (EW (F.run X.A X.stack s H ⟨us,[]⟩ (us++ds) (vs++dvs) Q E hr I.env0 (hb s us I.kIn hl) r2 h) fun r s' hq=>?_);cases r with
 | error e=>exact hx pins σ H s e s' I hq
 | ok fl=>
  cases fl with
  | ret u=>exact I.after hq
  | next=>exact False.elim hq
  | brk=>exact False.elim hq
  | cont=>exact False.elim hq
theorem Gb (F:FnOk X.prog X.w X.K X.mg X.base CX k f fd ps sp) (hr:Room k X.A) (hg:Gl X x) (hm:X.mg x=some (.ref f)) (hk:W.keepIn X.K (.ref f)=true) (hb:Binds X.K fd ps ds) (hd:Vals dvs ds) (hx:X5 CX X E)
  (ha:PA X (e :: es) t) (hdb:(x == ("__debug__":Str))=false:=by decide) (he:starEach (e :: es) X.env=(false,eval e X.env) :: starEach es X.env:=by rfl) (hpl:(backTo pos (starEach es X.env)).any (·.1)=false:=by rfl) :
  PE X (.Call (.Name x p) (e :: es) [] pos) (VE sp dvs E t):=by
 intro pins s σ H Q I h;refine E7 (X1 I hg hm ?_ hdb);refine W.callWith_K (h₀:=X.base) I.ok.mod.kin hk (thn (ha pos pins s σ H _ I h) fun us s1 ⟨vs,H1,I1,r,q⟩=>⟨I1.kIn,?_⟩) he hpl;exact Um F hr hb hd hx I1 r q
theorem L9 (he:PE X o ta) (c:Cls X.K C) (hm:Lp X.K C m f) (F:FnOk X.prog X.w X.K X.mg X.base CX k f fd ps sp) (hr:Room k X.A) (hb:Binds X.K fd ps ds) (hd:Vals dvs ds) (hx:X5 CX X E) (ha:PA X (e :: es) t)
  (hst:starEach (e :: es) X.env=(false,eval e X.env) :: starEach es X.env:=by rfl) (hpl:(backTo pos (starEach es X.env)).any (·.1)=false:=by rfl)
  (ht:eval (.Call (.Attribute o m apos) (e :: es) [] pos) X.env=(do
   let ov <-eval o X.env
   standAt apos.atName
   let (f,first) <-holding [ov] (getMethod ov m pl)
   callWith pos f first (backTo pos (starEach (e :: es) X.env)) (backToKw pos (keywordEach [] X.env))):=by rfl) :
  PE X (.Call (.Attribute o m apos) (e :: es) [] pos) (VD C m sp dvs E ta t):=by
 intro pins s σ H Q I h;refine W.methodCall_KW (pl:=pl) (thn (he pins s σ H _ I h) fun u s1 ⟨x,H1,I1,rx,a,dx,fs,ex,ea,l,q⟩=>?_) ht;subst ex;obtain rfl:u=Value.ref a:=rx;refine YL I1 ea c hm l ?_;refine W.callWith_K (first:=[.ref a]) (h₀:=X.base) I.ok.mod.kin hm.kp (thn (ha pos pins s1 σ H1 _ I1 q) fun us s2 ⟨vs,H2,I2,r,q2⟩=>⟨I2.kIn,?_⟩) hst hpl;exact Um (us:=.ref a :: us) (vs:=.ref a :: vs) F hr hb hd hx I2 (.cons rfl r) q2
theorem Mc (he:PE X o ta) (c:Cls X.K C) (hm:Lp X.K C m f) (F:FnOk X.prog X.w X.K X.mg X.base CX k f fd ps sp) (hr:Room k X.A) (hb:Binds X.K fd ps ds) (hd:Vals dvs ds) (hx:X5 CX X E)
  (ht:eval (.Call (.Attribute o m apos) [] [] pos) X.env=(do
   let ov <-eval o X.env
   standAt apos.atName
   let (f,first) <-holding [ov] (getMethod ov m pl)
   callWith pos f first (backTo pos (starEach [] X.env)) (backToKw pos (keywordEach [] X.env))):=by rfl) :
  PE X (.Call (.Attribute o m apos) [] [] pos) (VD C m sp dvs E ta LG):=by
 intro pins s σ H Q I h;refine W.methodCall_KW (pl:=pl) (thn (he pins s σ H _ I h) fun u s1 ⟨x,H1,I1,rx,a,dx,fs,ex,ea,l,q⟩=>?_) ht;subst ex;obtain rfl:u=Value.ref a:=rx;refine YL I1 ea c hm l ?_;exact W.callWith_K0 (first:=[.ref a]) I1.kIn hm.kp (Um (us:=[.ref a]) (vs:=[.ref a]) F hr hb hd hx I1 (.cons rfl .nil) q)
structure Mk (K:W.Frag) (C f:Addr):Prop where
 makes:W.makesIn K C=true
 init:W.findIn K (.ref C) "__init__"=some (some (.ref f))
 fn:W.isFn K (.ref f)=true
 kp:W.keepIn K (.ref C)=true
theorem NV {σ:St}{H:Hp}{Q:VK}{vs:List V}(M:Mk X.K C f) (F:FnOk X.prog X.w X.K X.mg X.base CX k f fd ps sp) (hr:Room (k+1) X.A) (hb:Binds X.K fd ps ds) (hd:Vals dvs ds)
  (hx:X5 CX X E) (I:Inv X pins σ H s) (r:Vals vs us)
  (h:∀ x dx,H x=none->H dx=none->dx≠x->sp (.ref x :: (vs++dvs)) (upd (upd H dx (.own x)) x (.ins C dx [])) (fun v H2=>v=.non/\Q (.ref x) H2) E) :
  wpAny (model X.prog X.w) X.A (call (.ref C) us) (EP X pins σ Q) X.xe s:=by
 have hq:=h (s.heap.objs.size+1) s.heap.objs.size (I.hok.fresh (EA _)) (I.hok.fresh (Ft _)) (FI (De _));have I2:=Inv.made (C:=C) I;have r2:Vals (V.ref (s.heap.objs.size+1) :: (vs++dvs)) (Value.ref (s.heap.objs.size+1) :: (us++ds)):=.cons rfl (r.append hd);have hl:(Value.ref (s.heap.objs.size+1) :: us++ds).length=ps.length:=by
  have e:=r2.length;rw [F.len _ _ _ _ hq] at e;exact e.symm
 refine wpAny_call (Ms (f:=f) I.kIn M.makes M.init (beq_iff_eq.mp M.fn) (EW (F.run _ X.stack _ _ ⟨Value.ref (s.heap.objs.size+1) :: us,[]⟩ (Value.ref (s.heap.objs.size+1) :: (us++ds)) _ _ E (hr.make C us [])
  (I2.env0.make C us []) (hb _ (Value.ref (s.heap.objs.size+1) :: us) I2.kIn hl) r2 hq) fun r s' hq'=>?_))
 cases r with
 | error e=>exact hx pins σ _ _ e s' I2 hq'
 | ok fl=>
  cases fl with
  | ret u=>
   obtain ⟨v,H',I3,rv,ev,q3⟩:=I2.after hq';subst ev;exact ⟨rv,⟨V.ref (s.heap.objs.size+1),H',I3,rfl,q3⟩⟩
  | next=>exact False.elim hq'
  | brk=>exact False.elim hq'
  | cont=>exact False.elim hq'
theorem Ba (M:Mk X.K C f) (F:FnOk X.prog X.w X.K X.mg X.base CX k f fd ps sp) (hr:Room (k+1) X.A) (hg:Gl X x) (hm:X.mg x=some (.ref C)) (hb:Binds X.K fd ps ds) (hd:Vals dvs ds) (hx:X5 CX X E)
  (ha:PA X (e :: es) t) (hdb:(x == ("__debug__":Str))=false:=by decide) (he:starEach (e :: es) X.env=(false,eval e X.env) :: starEach es X.env:=by rfl) (hpl:(backTo pos (starEach es X.env)).any (·.1)=false:=by rfl) :
  PE X (.Call (.Name x p) (e :: es) [] pos) (WX C sp dvs E t):=by
 intro pins s σ H Q I h;refine E7 (X1 I hg hm ?_ hdb);refine W.callWith_K (h₀:=X.base) I.ok.mod.kin M.kp (thn (ha pos pins s σ H _ I h) fun us s1 ⟨vs,H1,I1,r,q⟩=>⟨I1.kIn,?_⟩) he hpl;exact NV M F hr hb hd hx I1 r q
end
structure Qn (N P:List Str) (sc:Scope):Prop where
 kind:sc.kind=.function
 co:sc.isCoroutine=false
 gen:sc.isGenerator=false
 nd:N.Nodup
 pre:N.take P.length=P
 par:∀ x∈P,sc.names.lookup x=some .local∨sc.names.lookup x=some .cell
 nofree:∀ y∈sc.names,y.2≠.free
theorem Kv {kindOf:Str->Option NameKind}{x:Str}:∀ {binds:List (Str×Value)}{m:Str->Option Value},(∀ v,(x,v) ∉ binds)->bindL kindOf binds m x=m x
 | [],_,_=>rfl
 | (n,v) :: r,m,h=>by
  unfold bindL;rw [Kv fun w hw=>h w (F9 _ hw)];split
  ·have:x≠n:=by rintro rfl;exact h v Ea
   simp [this]
  ·rfl
theorem Kx {kindOf:Str->Option NameKind}{x:Str}:∀ {binds:List (Str×Value)}{m:Str->Option Value},(∀ v,(x,v) ∉ binds)->bindC kindOf binds m x=m x
 | [],_,_=>rfl
 | (n,v) :: r,m,h=>by
  unfold bindC;rw [Kx fun w hw=>h w (F9 _ hw)];split
  ·rfl
  ·have:x≠n:=by rintro rfl;exact h v Ea
   simp [this]
theorem WT {kindOf:Str->Option NameKind}{x:Str}{v:Value}:∀ {P:List Str}{vs:List Value}{i:Nat}{m:Str->Option Value},P.Nodup->P[i]?=some x->vs[i]?=some v->kindOf x=some .local ->
  bindL kindOf (P.zip vs) m x=some v
 | [],_,_,_,_,h,_,_=>by simp at h
 | _ :: _,[],_,_,_,_,h,_=>by simp at h
 | p :: P,w :: vs,0,m,nd,h1,h2,hk=>by
  simp at h1 h2;subst h1;subst h2;show bindL kindOf ((p,w) :: P.zip vs) m p=_;unfold bindL;rw [Kv fun v hv=>(EB.mp nd).1 (List.of_mem_zip hv).1,Fs hk];simp
 | p :: P,w :: vs,i+1,m,nd,h1,h2,hk=>by
  show bindL kindOf ((p,w) :: P.zip vs) m x=_;unfold bindL;exact WT (i:=i) (EB.mp nd).2 (by simpa using h1) (by simpa using h2) hk
theorem WU {kindOf:Str->Option NameKind}{x:Str}{v:Value}:∀ {P:List Str}{vs:List Value}{i:Nat}{m:Str->Option Value},P.Nodup->P[i]?=some x->vs[i]?=some v->kindOf x≠some .local ->
  bindC kindOf (P.zip vs) m x=some v
 | [],_,_,_,_,h,_,_=>by simp at h
 | _ :: _,[],_,_,_,_,h,_=>by simp at h
 | p :: P,w :: vs,0,m,nd,h1,h2,hk=>by
  simp at h1 h2;subst h1;subst h2;show bindC kindOf ((p,w) :: P.zip vs) m p=_;unfold bindC;rw [Kx fun v hv=>(EB.mp nd).1 (List.of_mem_zip hv).1,Fl hk];simp
 | p :: P,w :: vs,i+1,m,nd,h1,h2,hk=>by
  show bindC kindOf ((p,w) :: P.zip vs) m x=_;unfold bindC;exact WU (i:=i) (EB.mp nd).2 (by simpa using h1) (by simpa using h2) hk
def start (N:List Str) (vs:List V):St:=vs.map some++List.replicate (N.length-vs.length) none
def Wj (CX:CXT) (P:Program) (w:World) (K:W.Frag) (mg:Str->Option Value) (base:Heap) (N:List Str) (qual:Str) (scope:Scope) (f:Addr) (cd:Value) (A:Around) (outer:List Env) (s:Shared) (H:Hp) (E:XK):Cx where
 prog:=P
 w:=w
 K:=K
 mg:=mg
 base:=base
 A:=A.deeper (envOfC qual scope s.heap.objs.size f cd)
 N:=N
 s₀:=s
 H₀:=H
 env:=envOfC qual scope s.heap.objs.size f cd
 outer:=outer
 stack:=envOfC qual scope s.heap.objs.size f cd :: outer
 ex:=[]
 calm:=true
 fn:=fun _=>true
 pn:=[]
 xe:=fun e s'=>wpAny (model P w) (A.deeper (envOfC qual scope s.heap.objs.size f cd)) (leaving (envOfC qual scope s.heap.objs.size f cd) e) (fun _ s''=>CX outer H s E e s'') (fun e' s''=>CX outer H s E e' s'') s'
theorem Wm {sc:Scope}(h:sc.names.lookup x=some .cell):∃ c,(cellsFrom n sc.names []).lookup x=some c:=by
 have q:=W.cellsFrom_some sc.names n [] (.inl h);exact Option.isSome_iff_exists.mp q
theorem Ng {CX:CXT}{cd:Value}{s1:Shared}{H:Hp}{E:XK}{vs:List V} 
  (S:Qn N ps scope) (hd:A.handled=none) (e0:Env0 P w K mg base A outer s H) (hl:vs.length=ps.length) (r:Vals vs us)
  (x:InCallC s s.heap.objs.size (bindL (envOfC qual scope s.heap.objs.size f cd).kindOf (ps.zip us) fun _=>none) (cellsFrom (s.heap.objs.size+1) scope.names []) (bindC (envOfC qual scope s.heap.objs.size f cd).kindOf (ps.zip us) fun _=>none) s1) :
  Inv (Wj CX P w K mg base N qual scope f cd A outer s H E) [] (start N vs) H s1:=by
 have hpl:ps.length<=N.length:=by have:=congrArg List.length S.pre;rw [FX] at this;omega
 obtain ⟨h1,tk,rfl,hk⟩:=x.done;have noA:∀ b:Addr,b ∉ (Wj CX P w K mg base N qual scope f cd A outer s H E).ex:=fun b z=>absurd (show b∈([]:List Addr) from z) (by simp)
 refine ⟨⟨e0.mod,S.kind,rfl,rfl,Ft _,fun y z c h1 h2=>?_,fun y hy=>?_,fun y c _ h=>?_,fun _=>hd,Around.frames_deeper e0.frames,.inr ⟨rfl,rfl⟩,fun b z=>absurd z (noA b),e0.bs,e0.bsz,fun b _ _=>noA b,fun b z=>absurd z (noA b),e0.funs,e0.frf⟩,
  rfl,e0.bare,Un.kept hk,⟨_,x.toInCall.ns,fun i y v h1 h2 h3=>?_⟩,fun y c h=>⟨_,x.cell y c h⟩,e0.hok.fresh (Ft _),fun y c h=>?_,fun p hp=>absurd (show p∈([]:List (Addr×Obj)) from hp) (by simp),e0.hok.kept hk,?_⟩
 ·exact name_of_addr x.apart (EG h1) (EG h2)
 ·have hy:scope.names.lookup y=some .cell∨scope.names.lookup y=some .free:=hy;rcases hy with hy | hy
  ·exact Wm hy
  ·exact absurd rfl (S.nofree _ (EG hy))
 ·exact Dc (x.above y c (EG h))
 ·have hi:i<vs.length:=by
   unfold start at h2;by_cases hi:i<vs.length
   ·exact hi
   ·rw [Ed (by simpa using hi)] at h2;rw [List.getElem?_replicate] at h2;split at h2 <;> cases h2
  have ha:vs[i]?=some v:=by
   unfold start at h2;rw [Ei (by simpa using hi),Fx] at h2;cases e:vs[i]? with
   | none=>rw [e] at h2;cases h2
   | some a=>rw [e] at h2;cases h2;rfl
  obtain ⟨u,hu,rv⟩:=r.get ha;have hp:ps[i]?=some y:=by
   rw [<-S.pre,List.getElem?_take_of_lt (by omega)];exact h1
  have ndP:ps.Nodup:=by rw [<-S.pre];exact S.nd.sublist (List.take_sublist _ _)
  refine ⟨u,rv,?_⟩;rcases S.par y (FD hp) with k | k
  ·exact .inl ⟨k,WT ndP hp hu k⟩
  ·obtain ⟨c,e⟩:=Wm (n:=s.heap.objs.size+1) k;refine .inr ⟨.inl k,c,e,?_⟩;have q:=x.cell y c e;rw [WU ndP hp hu (by show scope.names.lookup y≠_;rw [k];decide)] at q;exact q
 ·exact e0.hok.fresh (Dc (x.above y c (EG h)))
 ·unfold start;show _=N.length;rw [Fv,Fo,List.length_replicate];omega
theorem MS {CX:CXT}{k:Nat}{name:Str}{params:Arguments}{dV kV:Value} 
  {osl:Array (Option Value)} {N ps:List Str} {sp:Sp} (lk:K.lookup f=some ⟨oc,od,.func (W.fnOf name qual params body scope dV kV doc pm an cdv ct),osl⟩) (hcd:W.codeIn K cdv qual=true) (S:Qn N ps scope)
  (len:∀ vs H Q E,sp vs H Q E->vs.length=ps.length)
  (hbody:∀ (A:Around) (outer:List Env) (s:Shared) (H:Hp) (vs:List V) (Q:VK) (E:XK),Room k (A.deeper (envOfC qual scope s.heap.objs.size f cdv))->sp vs H Q E ->
   ∃ t,PSs (Wj CX P w K mg base N qual scope f cdv A outer s H E) body t/\t { nx:=fun _ H'=>Q .non H',rt:=Q } (start N vs) H) :
  FnOk P w K mg base CX (k+1) f (W.fnOf name qual params body scope dV kV doc pm an cdv ct) ps sp:=by
 refine ⟨len,fun A outer s H args us vs Q E hr e0 hb r hsp=>?_⟩;have hl:=len _ _ _ _ hsp;have KX:K.In s.heap:=e0.mod.kin.keeps fun b o e=>(e0.bs b o e).1
 have lim:s.heap.NoLimit:=e0.mod.nolimit.keeps fun b o e=>(e0.bs b o e).1
 have hkind:∀ y∈ps.zip us,scope.names.lookup y.1=some .local∨(scope.names.lookup y.1=some .cell/\((cellsFrom (s.heap.objs.size+1) scope.names []).lookup y.1).isSome=true):=fun ⟨n,v⟩ hy=>by
  rcases S.par n (List.of_mem_zip hy).1 with q | q
  ·exact .inl q
  ·exact .inr ⟨q,W.cellsFrom_some _ _ _ (.inl q)⟩
 refine codeAny_call_function hr.depth (KX _ _ lk) rfl S.co S.gen rfl (W.codeRec_of KX hcd) (hb _ _ _ _ ?_);refine wpAny_newFunctionEnv_cells S.kind hkind fun env he s1 x=>?_
 subst he;refine ⟨lim.keeps x.toInCall.keep,codeAny_func ?_⟩;obtain ⟨t,ht,hq⟩:=hbody A outer s H vs Q E (hr.deeper _) hsp;have I:Inv (Wj CX P w K mg base N qual scope f cdv A outer s H E) [] (start N vs) H s1:=Ng S hr.hd e0 hl r x;refine FV (ht [] s1 (start N vs) H _ I hq) (fun fl s' hs=>?_) fun e s' hs=>hs
 have fin:∀ {σ':St} {H':Hp} {v:V} {u:Value},Inv (Wj CX P w K mg base N qual scope f cdv A outer s H E) [] σ' H' s'->RelV v u->Q v H'->CE outer P w H s Q u s':=
  fun {σ' H' v u} J rv q=>⟨v,H',J.os,J.bare,J.base,J.hok,rv,q⟩
 cases fl with
 | ret u=>
  obtain ⟨v,σ',H',J,rv,q⟩:=hs;exact fin J rv q
 | next=>
  obtain ⟨σ',H',J,q⟩:=hs;exact fin (v:=V.non) (u:=Value.none) J rfl q
 | brk=>
  obtain ⟨_,_,_,q⟩:=hs;exact False.elim q
 | cont=>
  obtain ⟨_,_,_,q⟩:=hs;exact False.elim q
section
variable {X:Cx} {x:Str} {p pos:Pos} {e:Expr} {es:List Expr} {t:TA} {id T:String} {r:List V->Hp->VK->Prop}
def tCB (r:List V->Hp->VK->Prop) (t:TA):TE:=fun σ H Q=>t σ H fun vs H1=>r vs H1 Q
theorem Qo (hc:ZT X (.builtin id) r) (hg:Gl X x) (hm:X.mg x=none) (hv:bootBuiltins x=some (.builtin id)) (ha:PA X (e :: es) t) (hn:x≠"__name__":=by decide) (hdb:(x == ("__debug__":Str))=false:=by decide)
  (he:starEach (e :: es) X.env=(false,eval e X.env) :: starEach es X.env:=by rfl) (hpl:(backTo pos (starEach es X.env)).any (·.1)=false:=by rfl):PE X (.Call (.Name x p) (e :: es) [] pos) (tCB r t):=by
 intro pins s σ H Q I h;refine E7 (WK I hg hm hv ?_ hn hdb);exact PyProof.Rows.callWith_builtin1 (thn (ha pos pins s σ H _ I h) fun us s1 ⟨vs,H1,I1,r1,q1⟩=>hc pins s1 σ H1 vs us Q I1 r1 q1) he hpl
theorem QJ (hc:ZT X (.type T) r) (hg:Gl X x) (hm:X.mg x=none) (hv:bootBuiltins x=some (.type T)) (ha:PA X (e :: es) t) (hn:x≠"__name__":=by decide) (hdb:(x == ("__debug__":Str))=false:=by decide)
  (he:starEach (e :: es) X.env=(false,eval e X.env) :: starEach es X.env:=by rfl) (hpl:(backTo pos (starEach es X.env)).any (·.1)=false:=by rfl):PE X (.Call (.Name x p) (e :: es) [] pos) (tCB r t):=by
 intro pins s σ H Q I h;refine E7 (WK I hg hm hv ?_ hn hdb);exact Dt (thn (ha pos pins s σ H _ I h) fun us s1 ⟨vs,H1,I1,r1,q1⟩=>hc pins s1 σ H1 vs us Q I1 r1 q1) he hpl
end
end L2
variable {g:L2.TG}{c v z:L2.V}{xs vs ws ys:List L2.V}{H H' H1 H2 H4:L2.Hp}{Q:L2.VK}{X:L2.Cx}{ta te tl:L2.TE}{tb:L2.TS}{σ σ0:L2.St}{R:L2.It->L2.Hp->Prop}{CX:L2.CXT}{tt:L2.TT}{kvs:List (L2.Key×L2.V)}
namespace HT
open PySem PyProof.Rows
section
variable {prog:Program} {w:World} {A:Around} {E:Value->Shared->Prop} {s:Shared}
theorem cat_tup {t b:Addr}{vs ws:List Value}{Q:Value->Shared->Prop}(ht:IsTup s.heap t vs.toArray) (hb:IsTup s.heap b ws.toArray) (hv:vs≠[])
  (h1:ws=[]->Q (.ref t) s) (h2:ws≠[]->Q (.ref s.heap.objs.size) { s with heap:=s.heap.push { cls:=.type "tuple",data:=.seq (vs++ws).toArray } })
  (hsz:vs.length+ws.length<=sizeLine):wpAny (model prog w) A (binaryOp .Add (.ref t) (.ref b)) Q E s:=by
 obtain ⟨⟨cls,dd,data,sl⟩,ho,hc,n,hd⟩:=id ht;obtain ⟨⟨cls2,dd2,data2,sl2⟩,ho2,hc2,n2,hd2⟩:=id hb;simp only at hc hd hc2 hd2;subst hc hd hc2 hd2;have e:vs.toArray++ws.toArray=(vs++ws).toArray:=by simp
 by_cases hw:ws=[]
 ·exact concat_meets ⟨_,ho,rfl⟩ ⟨_,ho2,rfl⟩ noFill_tuple_add seq_tuple_add PySem.F.slot_tuple_add PySem.F.entry_tuple_add (PySem.F.args_tuple_add_2 _ _)
   (tuple_addW1 t b vs.toArray ws.toArray n n2 dd dd2 sl sl2 (by simpa using hv) (by simp [hw])) ⟨ho,ho2,h1 hw⟩
 ·refine concat_meets ⟨_,ho,rfl⟩ ⟨_,ho2,rfl⟩ noFill_tuple_add seq_tuple_add PySem.F.slot_tuple_add PySem.F.entry_tuple_add (PySem.F.args_tuple_add_2 _ _)
   (tuple_addW2 t b vs.toArray ws.toArray n n2 dd dd2 sl sl2 (by simpa using hv) (by simpa using hw) (by rw [FN,FN];exact hsz)) ⟨ho,ho2,?_⟩
  rw [e];exact h2 hw
def sIx (n d:Nat):Option Int->Nat
 | none=>d
 | some v=>if v<0 then (v+(n:Int)).toNat else min v.toNat n
theorem sIx_none (n d:Nat):sIx n d none=d:=rfl
theorem sIx_nat (n d k:Nat):sIx n d (some (k:Int))=min k n:=by
 show (if (k:Int)<0 then ((k:Int)+(n:Int)).toNat else min (k:Int).toNat n)=min k n;rw [Fl (by omega),Int.toNat_natCast]
end
end HT
namespace L2
open PySem PySem.Spec PyProof.Rows
abbrev TO:=St->Hp->(Option Int->Hp->Prop)->Prop
def PO (X:Cx) (e:Option Expr) (t:TO):Prop:=
 ∀ (pins:List (Addr×Obj)) (s:Shared) (σ:St) (H:Hp) (Q:Option Int->Hp->Prop),Inv X pins σ H s->t σ H Q ->
  wpAny (model X.prog X.w) X.A (evalPart e X.env) (fun u s'=>∃ o H',Inv X pins σ H' s'/\IsPart u o/\Q o H') X.xe s
def U4:TO:=fun _ H Q=>Q none H
def B8 (t:TE):TO:=fun σ H Q=>t σ H fun x H1=>∃ i,x=.int i/\Q (some i) H1
theorem JE:∀ {us:List Value},Vals (ns.map V.int) us->IntsAre us ns:=by
 induction ns with
 | nil=>intro us r;rw [List.map_nil] at r;cases r;exact .nil
 | cons n ns ih=>
  intro us r;rw [F5] at r;cases r with
  | cons r1 r2=>
   obtain ⟨t,e⟩:=r1;subst e;exact .cons n t (ih r2)
section
variable {X:Cx} {e:Expr} {te:TE} {lo hi:Option Expr} {tl th:TO} {pos p2:Pos}
theorem XZ:PO X none U4:=by
 intro pins s σ H Q I h;rw [evalPart_none];exact Fw ⟨none,H,I,.none,h⟩
theorem XY (h:PE X e te):PO X (some e) (B8 te):=by
 intro pins s σ H Q I hw;rw [evalPart_some];refine thn (h pins s σ H _ I hw) fun u s1 ⟨x,H1,I1,r1,q1⟩=>?_
 obtain ⟨i,rfl,q⟩:=q1;obtain ⟨t,rfl⟩:=r1;exact ⟨some i,H1,I1,.int i t,q⟩
def SlR (X:Cx) (r:V->Option Int->Option Int->Hp->VK->Prop):Prop:=
 ∀ (pins:List (Addr×Obj)) (s:Shared) (σ:St) (H:Hp) (x:V) (v vl vu:Value) (lo hi:Option Int) (sl:Addr) (Q:VK),Inv X pins σ H s->RelV x v->s.heap.IsSliceOf sl vl vu .none->IsPart vl lo->IsPart vu hi->r x lo hi H Q ->
  ∃ T id,typeLookup (.type T) "__getitem__"=pure (some (.builtin id))/\s.TypeIs v T/\wpAny (model X.prog X.w) X.A (getItem v (.ref sl)) (EP X pins σ Q) X.xe s
def tSl (r:V->Option Int->Option Int->Hp->VK->Prop) (te:TE) (tl th:TO):TE:=fun σ H Q=>te σ H fun x H1=>tl σ H1 fun l H2=>th σ H2 fun u H3=>r x l u H3 Q
theorem Xh {r:V->Option Int->Option Int->Hp->VK->Prop}(hr:SlR X r) (he:PE X e te) (hl:PO X lo tl) (hu:PO X hi th):PE X (.Subscript e (.Slice lo hi none p2) pos) (tSl r te tl th):=by
 intro pins s σ H Q I h;refine Subscript_ (thn (he pins s σ H _ I h) fun v s1 ⟨x,H1,I1,r1,q1⟩=>?_);refine wpAny_Slice (thn (hl pins s1 σ H1 _ I1 q1) fun vl s2 ⟨l,H2,I2,pl,q2⟩=>thn (hu pins s2 σ H2 _ I2 q2) fun vu s3 ⟨u,H3,I3,pu,q3⟩=>?_);rw [evalPart_none];refine Fw ?_;have I4:Inv X pins σ H3 { s3 with heap:=s3.heap.push { cls:=.type "slice",data:=.fields #[vl,vu,.none] } }:=I3.kept (t':=s3.toks) fun b ob q=>FG _ q
 obtain ⟨T,id,hT,ht,hg⟩:=hr pins { s3 with heap:=s3.heap.push { cls:=.type "slice",data:=.fields #[vl,vu,.none] } } σ H3 x v vl vu l u s3.heap.objs.size Q I4 r1 (Heap.IsSliceOf.new ..) pl pu q3;show wpAny (model X.prog X.w) X.A (subscriptTail e (.Slice lo hi none p2) v (.ref s3.heap.objs.size)) (EP X pins σ Q) X.xe { s3 with heap:=s3.heap.push { cls:=.type "slice",data:=.fields #[vl,vu,.none] } };exact tail_any (ops:=[.ref s3.heap.objs.size,v]) ht hT hg (by with_unfolding_all rfl)
def YN (xs:List V) (lo hi:Option Int):List V:=(xs.drop (HT.sIx xs.length 0 lo)).take (HT.sIx xs.length xs.length hi-HT.sIx xs.length 0 lo)
theorem V1 (xs:List V) (lo hi:Option Int):(YN xs lo hi).length<=xs.length:=by
 unfold YN;rw [FX,Et];omega
def Rj (K:W.Frag):R2:=fun x y H Q=>∃ a b xs ys,x=.ref a/\y=.ref b/\SqT K H a xs/\SqT K H b ys/\xs≠[]/\xs.length+ys.length<=sizeLine /\
 (ys=[]->Q (.ref a) H)/\(ys≠[]->∀ p,H p=none->Q (.ref p) (upd H p (.tup (xs++ys))))
theorem Vals.nil_iff (r:Vals xs us):us=[]↔xs=[]:=by
 cases r with
 | nil=>simp
 | cons _ _=>simp
theorem Bg:OpR X (binaryOp .Add) (Rj X.K):=by
 intro pins s σ H x y v u Q I rx ry h;obtain ⟨a,b,xs,ys,rfl,rfl,ha,hb,hx,hz,q1,q2⟩:=h;cases rx;cases ry;obtain ⟨its,r1,p1,_⟩:=I.tuple ha;obtain ⟨its2,r2,p2,_⟩:=I.tuple hb;refine HT.cat_tup p1 p2 (fun z=>hx (r1.nil_iff.mp z)) (fun z=>⟨.ref a,H,I,rfl,q1 (r2.nil_iff.mp z)⟩) (fun z=>?_) (by rw [<-r1.length,<-r2.length];exact hz);refine ⟨.ref s.heap.objs.size,_,I.laid (t':=s.toks) (o:=.tup (xs++ys)) (fun b ob q=>FG _ q) (Ft _) ?_,rfl,q2 (fun w=>z (r2.nil_iff.mpr w)) _ (I.hok.fresh (Ft _))⟩;exact ⟨by rw [Fv];exact hz,_,r1.append r2,IsTup.new _ _⟩
end
def ixN (n:Nat) (i:Int):Option Nat:=if 0<=i then (if i<n then some i.toNat else none) else if -(n:Int)<=i then some (i+n).toNat else none
def atI (xs:List α) (i:Int):Option α:=(ixN xs.length i).bind fun j=>xs[j]?
theorem Bs {i:Int}{j:Nat}(h:ixN n i=some j):seqIndex? i n=some j/\j<n/\-(n:Int)<=i/\i<n:=by
 unfold ixN at h;by_cases h0:0<=i
 ·rw [Fs h0] at h;by_cases h1:i<n
  ·rw [Fs h1] at h;have e:i.toNat=j:=FF h;exact ⟨by rw [seqIndex_of h0 h1,e],by omega,by omega,h1⟩
  ·rw [Fl h1] at h;cases h
 ·rw [Fl h0] at h;by_cases h1:-(n:Int)<=i
  ·rw [Fs h1] at h;have e:(i+n).toNat=j:=FF h;exact ⟨by rw [seqIndex_neg (by omega) h1,e],by omega,h1,by omega⟩
  ·rw [Fl h1] at h;cases h
theorem Vw {xs:List α}{i:Int}{v:α}(h:atI xs i=some v):∃ j,seqIndex? i xs.length=some j/\xs[j]?=some v/\j<xs.length/\-(xs.length:Int)<=i/\i<xs.length:=by
 unfold atI at h;cases e:ixN xs.length i with
 | none=>rw [e] at h;cases h
 | some j=>
  rw [e] at h;obtain ⟨h1,h2,h3,h4⟩:=Bs e;exact ⟨j,h1,h,h2,h3,h4⟩
theorem QP {xs:List α}{j:Nat}{v:α}(h:xs[j]?=some v):atI xs (j:Int)=some v:=by
 have hj:j<xs.length:=(EJ.mp h).1;have e:ixN xs.length (j:Int)=some j:=by
  unfold ixN;rw [Fs (by omega),Fs (by omega)];simp
 unfold atI;rw [e];exact h
theorem Ll (xs:List α) (v:α):atI (xs++[v]) (-1)=some v:=by
 have hl:(xs++[v]).length=xs.length+1:=by simp
 have e:ixN (xs++[v]).length (-1)=some xs.length:=by
  unfold ixN;rw [hl,Fl (by decide),Fs (by omega)]
  congr 1
  omega
 unfold atI;rw [e];show (xs++[v])[xs.length]?=some v;simp
def BZ (b:Expr):Prop:=∀ o i,subscripted b false o i=operate [o,i] (getItem o i)
def IxR (X:Cx) (r:R2):Prop:=
 ∀ (value slice:Expr) (pins:List (Addr×Obj)) (s:Shared) (σ:St) (H:Hp) (x y:V) (v u:Value) (Q:VK),Inv X pins σ H s->RelV x v->RelV y u->r x y H Q ->
  subscripted slice false v u=operate [v,u] (getItem v u)->wpAny (model X.prog X.w) X.A (subscriptTail value slice v u) (EP X pins σ Q) X.xe s
def MtR (X:Cx) (id:String) (r:V->List V->Hp->VK->Prop):Prop:=
 ∀ (pins:List (Addr×Obj)) (s:Shared) (σ:St) (H:Hp) (x:V) (xs:List V) (v:Value) (us:List Value) (Q:VK),Inv X pins σ H s->RelV x v->Vals xs us->r x xs H Q ->
  wpAny (model X.prog X.w) X.A (call (.builtin id) (v :: us)) (EP X pins σ Q) X.xe s
section
variable {X:Cx} {a b:Expr} {ta tb:TE} {pos:Pos}
theorem IxR.or {r r':R2}(h:IxR X r) (h':IxR X r'):IxR X (fun x y H Q=>r x y H Q∨r' x y H Q):=by
 intro value slice pins s σ H x y v u Q I rx ry q hs;rcases q with q | q
 ·exact h value slice pins s σ H x y v u Q I rx ry q hs
 ·exact h' value slice pins s σ H x y v u Q I rx ry q hs
theorem Qp {r:R2}(hr:IxR X r) (ha:PE X a ta) (hb:PE X b tb) (hs:BZ b):PE X (.Subscript a b pos) (tOp r ta tb):=by
 intro pins s σ H Q I h;exact Subscript_ (P4 ha hb I h fun v u s2 x y H2 I2 rx ry q=>hr a b pins s2 σ H2 x y v u Q I2 rx ry q (hs _ _))
def SK (K:W.Frag):R2:=fun x y H Q=>∃ p xs i v,x=.ref p/\y=.int i/\SqL K H p xs/\atI xs i=some v/\Q v H
def SI (K:W.Frag):R2:=fun x y H Q=>∃ p xs i v,x=.ref p/\y=.int i/\SqT K H p xs/\atI xs i=some v/\Q v H
def SJ:R2:=fun x y H Q=>∃ z i c,x=.str z/\y=.int i/\z.length<=sizeLine/\atI z.cps.toList i=some c/\Q (.str ⟨#[c]⟩) H
theorem ix_list:IxR X (SK X.K):=by
 intro value slice pins s σ H x y v u Q I rx ry h hs;obtain ⟨p,xs,i,z,rfl,rfl,hq,he,q⟩:=h;cases rx;obtain ⟨t,rfl⟩:=ry;obtain ⟨its,r,pl,hz⟩:=I.list hq;obtain ⟨j,h1,h2,h3,h4,h5⟩:=Vw he;obtain ⟨w,ew,rw'⟩:=r.get h2;have hl:=r.length;have hn:=Jy;have fin:EP X pins σ Q w s:=⟨z,H,I,rw',q⟩
 by_cases h0:0<=i
 ·have hj:i.toNat=j:=by
   rw [seqIndex_of h0 h5] at h1;exact FF h1
  exact item_listR pl.isList h0 (by omega) (by rw [hj];simpa using ew) fin hs
 ·have hj:(i+(its.toArray.size:Int)).toNat=j:=by
   rw [seqIndex_neg (by omega) h4] at h1;rw [FN,<-hl];exact FF h1
  exact subscriptTail_builtinR (x:=w) pl.isList.typeIs slot_list_getitem.lookup
   (wpAny_getItem_list_neg (Q:=fun r s'=>r=w/\EP X pins σ Q r s') pl.isList (by omega) (by rw [FN] <;> omega) (by omega) (by rw [hj];simpa using ew) ⟨rfl,fin⟩) hs
theorem ix_tup:IxR X (SI X.K):=by
 intro value slice pins s σ H x y v u Q I rx ry h hs;obtain ⟨p,xs,i,z,rfl,rfl,hq,he,q⟩:=h;cases rx;obtain ⟨t,rfl⟩:=ry;obtain ⟨its,r,pl,hz⟩:=I.tuple hq;obtain ⟨j,h1,h2,h3,h4,h5⟩:=Vw he;obtain ⟨w,ew,rw'⟩:=r.get h2;have hl:=r.length;have hn:=Jy;have fin:EP X pins σ Q w s:=⟨z,H,I,rw',q⟩
 exact subscriptTail_builtinR (x:=w) pl.typeIs slot_tuple_getitem.lookup
  (getItem_tuple (j:=j) (Q:=fun r s'=>r=w/\EP X pins σ Q r s') pl (by omega) (by omega) (by rw [FN,<-hl];exact h1) (by simpa using ew) ⟨rfl,fin⟩) hs
theorem PN:IxR X SJ:=by
 intro value slice pins s σ H x y v u Q I rx ry h hs;obtain ⟨z,i,c,rfl,rfl,hz,he,q⟩:=h;obtain ⟨t,rfl⟩:=rx;obtain ⟨t',rfl⟩:=ry;obtain ⟨j,h1,h2,h3,h4,h5⟩:=Vw he;have hl:z.cps.toList.length=z.length:=by simp [Str.length]
 rw [hl] at h1 h4 h5;have hn:=Jy;exact tail_any (typeIs_str s z t) slot_str_getitem.lookup (getItem_str (c:=c) (by
  have e1:decide (i < -(2 ^ 63:Int))=false:=F6 (by omega);have e2:decide (i ≥ 2 ^ 63)=false:=F6 (by omega);rw [e1,e2,Bool.or_false]) (by rw [h1];simpa using h2) ⟨.str ⟨#[c]⟩,H,I.tok _,⟨_,rfl⟩,q⟩) hs
def rIx (K:W.Frag):R2:=fun x y H Q=>SK K x y H Q∨SI K x y H Q∨SJ x y H Q
theorem PP:IxR X (rIx X.K):=ix_list.or (ix_tup.or PN)
theorem KG (lo hi:Option Int) (n:Nat):(sliceBounds lo hi none n).1=((HT.sIx n 0 lo:Nat):Int)/\(sliceBounds lo hi none n).2.1=((HT.sIx n n hi:Nat):Int)/\(sliceBounds lo hi none n).2.2=1:=by
 refine ⟨?_,?_,rfl⟩
 ·cases lo with
  | none=>simp [sliceBounds,HT.sIx]
  | some i=>
   simp only [sliceBounds,HT.sIx,Option.getD_none,show (1:Int) > 0 by decide,if_true];by_cases h:i<0
   ·simp only [h,if_true] <;> omega
   ·simp only [h,if_false] <;> omega
 ·cases hi with
  | none=>simp [sliceBounds,HT.sIx]
  | some i=>
   simp only [sliceBounds,HT.sIx,Option.getD_none,show (1:Int) > 0 by decide,if_true];by_cases h:i<0
   ·simp only [h,if_true] <;> omega
   ·simp only [h,if_false] <;> omega
theorem JS (its:List Value) (lo hi:Option Int):slicePick its.toArray lo hi none=((its.drop (HT.sIx its.length 0 lo)).take (HT.sIx its.length its.length hi-HT.sIx its.length 0 lo)).toArray:=by
 obtain ⟨h1,h2,h3⟩:=KG lo hi its.toArray.size;unfold slicePick;rw [h1,h2,h3];simp only [sliceRange_one,pick_run,FN] <;> rfl
def N0 (K:W.Frag):V->Option Int->Option Int->Hp->VK->Prop:=fun x lo hi H Q=>∃ a xs,x=.ref a/\SqL K H a xs/\∀ p,H p=none->Q (.ref p) (upd H p (.lst (YN xs lo hi)))
theorem LM:SlR X (N0 X.K):=by
 intro pins s σ H x v vl vu lo hi sl Q I rx hs pl pu h;obtain ⟨a,xs,rfl,hx,q⟩:=h;cases rx;obtain ⟨its,r,ht,hz⟩:=I.list hx;have hlen:=r.length;refine ⟨"list",_,slot_list_getitem.lookup,ht.isList.typeIs,?_⟩;refine wpAny_getItem_list_slice ht.isList hs pl pu .none (by simp) ?_ (by rw [FN] <;> omega);rw [JS,<-hlen];refine ⟨.ref s.heap.objs.size,_,I.laid (t':=s.toks) (o:=.lst (YN xs lo hi)) (fun b ob q=>FG _ q) (Ft _) ?_,rfl,q _ (I.hok.fresh (Ft _))⟩;exact ⟨FQ (V1 xs lo hi) hz,_,0,(r.drop (HT.sIx xs.length 0 lo)).take (HT.sIx xs.length xs.length hi-HT.sIx xs.length 0 lo),FY _ rfl⟩
def Wf:V->Bool
 | .non=>true
 | .bl _=>true
 | .int _=>true
 | .str _=>true
 | _=>false
def eqV:V->V->Bool
 | .non,.non=>true
 | .bl a,.bl b=>a == b
 | .bl a,.int b=>(if a then 1 else 0) == b
 | .int a,.bl b=>a == (if b then 1 else 0)
 | .int a,.int b=>a == b
 | .str a,.str b=>a == b
 | _,_=>false
theorem PX {y x:V}{v:Value}(ry:RelV y u) (rx:RelV x v) (fy:Wf y=true) (fx:Wf x=true):SeqAt.EqAt A s u v (eqV y x):=by
 cases y with
 | non=>
  cases ry;cases x with
  | non=>cases rx;exact SeqAt.EqAt.same _
  | bl b=>cases rx;exact SeqAt.EqAt.none_bool b
  | int b=>obtain ⟨t,rfl⟩:=rx;exact SeqAt.EqAt.none_int b t
  | str b=>obtain ⟨t,rfl⟩:=rx;exact SeqAt.EqAt.none_str b t
  | _=>exact absurd (show false=true from fx) FT
 | bl a=>
  cases ry;cases x with
  | non=>cases rx;exact SeqAt.EqAt.bool_none a
  | bl b=>cases rx;exact SeqAt.EqAt.bool_bool a b
  | int b=>obtain ⟨t,rfl⟩:=rx;exact SeqAt.EqAt.bool_int a b t
  | str b=>obtain ⟨t,rfl⟩:=rx;exact SeqAt.EqAt.bool_str a b t
  | _=>exact absurd (show false=true from fx) FT
 | int a=>
  obtain ⟨t',rfl⟩:=ry;cases x with
  | non=>cases rx;exact SeqAt.EqAt.int_none a t'
  | bl b=>cases rx;exact SeqAt.EqAt.int_bool a t' b
  | int b=>obtain ⟨t,rfl⟩:=rx;exact SeqAt.EqAt.int_int a t' b t
  | str b=>obtain ⟨t,rfl⟩:=rx;exact SeqAt.EqAt.int_str a t' b t
  | _=>exact absurd (show false=true from fx) FT
 | str a=>
  obtain ⟨t',rfl⟩:=ry;cases x with
  | non=>cases rx;exact SeqAt.EqAt.str_none a t'
  | bl b=>cases rx;exact SeqAt.EqAt.str_bool a t' b
  | int b=>obtain ⟨t,rfl⟩:=rx;exact SeqAt.EqAt.str_int a t' b t
  | str b=>obtain ⟨t,rfl⟩:=rx;exact SeqAt.EqAt.str_str a t' b t
  | _=>exact absurd (show false=true from fx) FT
 | _=>exact absurd (show false=true from fy) FT
def eqU (x:V) (u:Value):Bool:=match u with
 | .none=>eqV .non x
 | .bool b=>eqV (.bl b) x
 | .int i _=>eqV (.int i) x
 | .str z _=>eqV (.str z) x
 | _=>false
theorem MY {x y:V}(r:RelV y u) (f:Wf y=true):eqU x u=eqV y x:=by
 cases y with
 | non=>cases r;rfl
 | bl b=>cases r;rfl
 | int i=>obtain ⟨t,rfl⟩:=r;rfl
 | str z=>obtain ⟨t,rfl⟩:=r;rfl
 | _=>exact absurd (show false=true from f) FT
theorem Wn {x:V}:∀ {xs:List V}{us:List Value},Vals xs us->xs.all Wf=true->us.any (eqU x)=xs.any fun y=>eqV y x
 | _,_,.nil,_=>rfl
 | y :: xs,u :: us,.cons r t,f=>by
  rw [List.all_cons,Eo] at f;rw [List.any_cons,List.any_cons,MY r f.1,Wn t f.2]
theorem Yd {A:Around}{s:Shared}{x:V}{v:Value}(rx:RelV x v) (fx:Wf x=true):∀ {xs:List V}{us:List Value},Vals xs us->xs.all Wf=true->∀ u∈us,SeqAt.EqAt A s u v (eqU x u)
 | _,_,.nil,_=>fun u hu=>by cases hu
 | y :: xs,u :: us,.cons r t,f=>fun u' hu=>by
  rw [List.all_cons,Eo] at f;rcases FS.mp hu with rfl | hu
  ·rw [MY r f.1];exact PX r rx f.1 fx
  ·exact Yd rx fx t f.2 u' hu
def inV (x:V) (xs:List V):Bool:=xs.any fun y=>eqV y x
def rIn (K:W.Frag) (neg:Bool):R2:=fun x y H Q=>∃ p xs,y=.ref p/\(SqL K H p xs∨SqT K H p xs)/\Wf x=true/\xs.all Wf=true/\Q (.bl (if neg then !inV x xs else inV x xs)) H
theorem op_in_seq:OpR X (compareOp .In) (rIn X.K false):=by
 intro pins s σ H x y v u Q I rx ry h;obtain ⟨p,xs,rfl,hq,fx,fs,q⟩:=h;cases ry;rcases hq with hq | hq
 ·obtain ⟨its,r,pl,hz⟩:=I.list hq;refine SeqAt.in_listAt (eqU x) pl.isList (fun w hw=>Yd rx fx r fs w (by simpa using hw)) ⟨.bl _,H,I,rfl,?_⟩;rw [show its.toArray.any (eqU x)=its.any (eqU x) by simp,Wn r fs];exact q
 ·obtain ⟨its,r,pl,hz⟩:=I.tuple hq;refine SeqAt.in_tupleAt (eqU x) pl (fun w hw=>Yd rx fx r fs w (by simpa using hw)) ⟨.bl _,H,I,rfl,?_⟩;rw [show its.toArray.any (eqU x)=its.any (eqU x) by simp,Wn r fs];exact q
theorem op_notIn_seq:OpR X (compareOp .NotIn) (rIn X.K true):=by
 intro pins s σ H x y v u Q I rx ry h;obtain ⟨p,xs,rfl,hq,fx,fs,q⟩:=h;cases ry;rcases hq with hq | hq
 ·obtain ⟨its,r,pl,hz⟩:=I.list hq;refine SeqAt.notIn_listAt (eqU x) pl.isList (fun w hw=>Yd rx fx r fs w (by simpa using hw)) ⟨.bl _,H,I,rfl,?_⟩;rw [show its.toArray.any (eqU x)=its.any (eqU x) by simp,Wn r fs];exact q
 ·obtain ⟨its,r,pl,hz⟩:=I.tuple hq;refine SeqAt.notIn_tupleAt (eqU x) pl (fun w hw=>Yd rx fx r fs w (by simpa using hw)) ⟨.bl _,H,I,rfl,?_⟩;rw [show its.toArray.any (eqU x)=its.any (eqU x) by simp,Wn r fs];exact q
theorem Vu:ZT X (.type "list") (fun xs H Q=>∃ p ys,xs=[.ref p]/\(SqL X.K H p ys∨SqT X.K H p ys)/\∀ l,H l=none->Q (.ref l) (upd H l (.lst ys))):=by
 intro pins s σ H xs us Q I r h;obtain ⟨p,ys,rfl,hq,q⟩:=h;obtain ⟨u,rfl,rx⟩:=XH r;cases rx;have fin:∀ (its:List Value),Vals ys its->ys.length<=sizeLine->∀ (h':Heap) (c':Nat),(∀ b o',s.heap.get? b=some o'->h'.get? b=some o') ->
   h'.get? s.heap.objs.size=some { cls:=.type "list",dict:=none,data:=.seq its.toArray c',slots:=#[] }->EP X pins σ Q (.ref s.heap.objs.size) { s with heap:=h' }:=fun its r' hz h' c' kp e=>
  ⟨.ref s.heap.objs.size,_,I.laid (t':=s.toks) kp (Ft _) (show ObjOk X.prog X.w _ h' _ (.lst ys) from ⟨hz,its,c',r',e⟩),rfl,q _ (I.hok.fresh (Ft _))⟩
 rcases hq with hq | hq
 ·obtain ⟨its,r',pl,hz⟩:=I.list hq;have hlen:=r'.length;obtain ⟨o,ho,hc,n,hd⟩:=pl.isList;exact call_list_seq p (.inl rfl) ho hc hd (fun h' c' kp e=>fin its r' hz h' c' kp e) (by simp only [FN] <;> omega)
 ·obtain ⟨its,r',pl,hz⟩:=I.tuple hq;have hlen:=r'.length;obtain ⟨o,ho,hc,n,hd⟩:=pl;exact call_list_seq p (.inr rfl) ho hc hd (fun h' c' kp e=>fin its r' hz h' c' kp e) (by simp only [FN] <;> omega)
def tyV (K:W.Frag) (T:String) (x:V) (H:Hp):Prop:=match x with
 | .str _=>T="str"
 | .int _=>T="int"
 | .ref p=>(T="list"/\∃ xs,SqL K H p xs)∨(T="tuple"/\∃ o,K.lookup p=some o/\o.cls=.type "tuple"/\o.dict=none) ∨
   (T="dict"/\((∃ kvs,H p=some (.dK kvs))∨∃ kvs,H p=some (.dT kvs)))∨(T="set"/\∃ S n,H p=some (.set S n))
 | _=>False
theorem NI {x:V}{v:Value}(I:Inv X pins σ H s) (r:RelV x v) (ty:tyV X.K T x H) :
  s.TypeIs v T/\∀ a,v=.ref a->∃ ob,s.heap.get? a=some ob/\ob.dict=none:=by
 cases x with
 | str z=>
  obtain ⟨t,rfl⟩:=r;cases (show T="str" from ty);exact ⟨typeIs_str s z t,fun _ e=>nomatch e⟩
 | int i=>
  obtain ⟨t,rfl⟩:=r;cases (show T="int" from ty);exact ⟨typeIs_int s i t,fun _ e=>nomatch e⟩
 | ref p=>
  cases r;rcases ty with ⟨rfl,xs,hq⟩ | ⟨rfl,o,hk,hc,hd⟩ | ⟨rfl,hk⟩ | ⟨rfl,S,n,hk⟩
  ·obtain ⟨its,_,pl,_⟩:=I.list hq;refine ⟨pl.isList.typeIs,fun a e=>?_⟩;cases e;obtain ⟨o,n,e,c,hd,_⟩:=pl;exact ⟨o,e,hd⟩
  ·refine ⟨⟨o,I.kIn p o hk,hc⟩,fun a e=>?_⟩;cases e;exact ⟨o,I.kIn _ o hk,hd⟩
  ·have z:∃ o,s.heap.get? p=some o/\o.ExactDict:=by
    rcases hk with ⟨kvs,hk⟩ | ⟨kvs,hk⟩
    ·obtain ⟨_,_,_,_,o,_,_,e,ex,_⟩:=I.hok p _ hk;exact ⟨o,e,ex⟩
    ·obtain ⟨_,_,_,_,o,_,_,e,ex,_⟩:=I.hok p _ hk;exact ⟨o,e,ex⟩
   obtain ⟨o,e,ex⟩:=z;refine ⟨⟨o,e,ex.1⟩,fun a e2=>?_⟩;cases e2;exact ⟨o,e,ex.2.1⟩
  ·obtain ⟨o,_,_,_,e,ex,_⟩:=I.hok p _ hk;refine ⟨⟨o,e,ex.1⟩,fun a e2=>?_⟩;cases e2;exact ⟨o,e,ex.2.1⟩
 | _=>exact False.elim ty
def Pa (K:W.Frag) (T:String) (r:V->List V->Hp->VK->Prop) (to:TE):TE:=fun σ H Q=>to σ H fun x H1=>tyV K T x H1/\r x [] H1 Q
def tBM (K:W.Frag) (T:String) (r:V->List V->Hp->VK->Prop) (to:TE) (t:TA):TE:=fun σ H Q=>to σ H fun x H1=>tyV K T x H1/\t σ H1 fun xs H2=>r x xs H2 Q
variable {o e:Expr} {es:List Expr} {to:TE} {t:TA} {name:Str} {apos cpos:Pos} {T id:String} {r:V->List V->Hp->VK->Prop}
theorem Pn (pa:PlainAttrs T) (slot:Slot T name id) (hty:typeOf (.builtin id)=pure (.type "method_descriptor")) (hm:MtR X id r) (ho:PE X o to)
  (hbase:attributeBase o name X.env (eval o X.env)=eval o X.env:=by rfl) (hline:(apos.endLine == cpos.line)=true:=by rfl):PE X (.Call (.Attribute o name apos) [] [] cpos) (Pa X.K T r to):=by
 intro pins s σ H Q I h;refine wpAny_Call_method0_late hbase hline (thn (ho pins s σ H _ I h) fun v s1 ⟨x,H1,I1,r1,ty,q1⟩=>?_);obtain ⟨h1,h2⟩:=NI I1 r1 ty;exact ⟨T,id,pa,slot,hty,h1,h2,Calls.callWith_builtin rfl (PySem.evalArgs_none (hm pins s1 σ H1 x [] v [] Q I1 r1 .nil q1))⟩
theorem SS (pa:PlainAttrs T) (slot:Slot T name id) (hty:typeOf (.builtin id)=pure (.type "method_descriptor")) (hm:MtR X id r) (ho:PE X o to) (ha:PA X (e :: es) t)
  (hbase:attributeBase o name X.env (eval o X.env)=eval o X.env:=by rfl)
  (hfew:((backTo cpos (starEach (e :: es) X.env)).all (fun x=>!x.1)&&(backToKw cpos (keywordEach [] X.env)).all (fun x=>x.1.isSome)
   && decide ((e :: es).length+([]:List Keyword).length+(if ([]:List Keyword).isEmpty then 0 else 1)<30))=true:=by rfl)
  (hline:(apos.endLine == cpos.line)=true:=by rfl) (hs:starEach (e :: es) X.env=(false,eval e X.env) :: starEach es X.env:=by rfl) (hplain:(backTo cpos (starEach es X.env)).any (·.1)=false:=by rfl) :
  PE X (.Call (.Attribute o name apos) (e :: es) [] cpos) (tBM X.K T r to t):=by
 intro pins s σ H Q I h;refine wpAny_Call_method_late hbase hfew hline rfl (thn (ho pins s σ H _ I h) fun v s1 ⟨x,H1,I1,r1,ty,q1⟩=>?_);obtain ⟨h1,h2⟩:=NI I1 r1 ty;refine ⟨T,id,pa,slot,hty,h1,h2,?_⟩;have hA:=ha cpos pins s1 σ H1 _ I1 q1;rw [hs] at hA ⊢;refine Calls.callWith_builtin (by show (false||(backTo cpos (starEach es X.env)).any (·.1))=false;rw [hplain] <;> rfl) (Calls.evalArgs_plain ?_);exact thn hA fun us s2 ⟨vs,H2,I2,r2,q2⟩=>hm pins s2 σ H2 x vs v us Q I2 r1 r2 q2
end
def MtM (X:Cx) (id:String) (r:V->List V->Hp->VK->Prop):Prop:=
 ∀ (pins:List (Addr×Obj)) (s:Shared) (σ:St) (H:Hp) (x:V) (xs:List V) (v:Value) (us:List Value) (Q:VK),Inv X pins σ H s->RelV x v->Vals xs us->r x xs H Q ->
  wpAny (model X.prog X.w) X.A (call (.builtin id) (v :: us)) (EP X pins σ Q) X.xe s
theorem Vals.one:∀ {x:V}{us:List Value},Vals [x] us->∃ u,us=[u]/\RelV x u
 | _,_,.cons r .nil=>⟨_,rfl,r⟩
theorem Vals.zero:∀ {us:List Value},Vals [] us->us=[]
 | _,.nil=>rfl
theorem Vals.dropLast (h:Vals xs us):Vals xs.dropLast us.dropLast:=by
 induction h with
 | nil=>exact .nil
 | cons r t ih=>
  cases t with
  | nil=>exact .nil
  | cons q t'=>exact .cons r ih
theorem UP (l:List α):l.eraseIdx (l.length-1)=l.dropLast:=by
 induction l with
 | nil=>rfl
 | cons a r ih=>
  cases r with
  | nil=>rfl
  | cons b r=>
   have e:(a :: b :: r).length-1=((b :: r).length-1)+1:=by
    have h1:(a :: b :: r).length=r.length+2:=rfl;have h2:(b :: r).length=r.length+1:=rfl;omega
   rw [e,List.eraseIdx_cons_succ,ih];all_goals rfl
section
variable {X:Cx} {pins:List (Addr×Obj)} {σ:St} {H:Hp} {s:Shared} {l b:Addr} {xs ys zs:List V}
theorem Inv.lset {its':List Value}{f:Array Value->Array Value}(I:Inv X pins σ H s) (hH:H l=some (.lst xs))
  (e:s.heap.get? l=some { cls:=.type "list",data:=.seq its.toArray n }) (hf:f its.toArray=its'.toArray) (hv:Vals ys its') (hz:ys.length<=sizeLine) :
  Inv X pins σ (upd H l (.lst ys)) { s with heap:=s.heap.update l (Obj.mapSeq f),toks:=t' }:=by
 have q:=PySem.IsL.update e f;rw [hf] at q;refine I.write (x:=l) (e:=l) (by rw [hH];exact trivial) (.inl rfl) (fun b' u hb hu=>(Heap.get?_update_other s.heap (Obj.mapSeq f) (Eb hb)).trans hu) ⟨_,q⟩ ?_;exact ⟨hz,its',_,hv,q⟩
theorem Inv.lnew (I:Inv X pins σ H s) (hv:Vals ys its) (hz:ys.length<=sizeLine) :
  Inv X pins σ (upd H s.heap.objs.size (.lst ys)) { s with heap:=s.heap.push { cls:=.type "list",data:=.seq its.toArray },toks:=t' }:=
 I.laid (fun _ _ q=>FG _ q) (Ft _) ⟨hz,its,0,hv,FY _ rfl⟩
theorem Inv.fresh (I:Inv X pins σ H s):H s.heap.objs.size=none:=I.hok.fresh (Ft _)
theorem Inv.lstM (I:Inv X pins σ H s) (hH:H l=some (.lst xs)):xs.length<=sizeLine/\∃ (its:List Value) (n:Nat),Vals xs its/\xs.length=its.length/\s.heap.get? l=some { cls:=.type "list",data:=.seq its.toArray n }:=by
 obtain ⟨z,its,n,r,e⟩:=I.hok l _ hH;exact ⟨z,its,n,r,r.length,e⟩
theorem Mp (h:n<=sizeLine):Builtin.List.listTooLong n=false:=by
 unfold Builtin.List.listTooLong;exact F6 (by omega)
end
section
variable {X:Cx}
def KS:V->List V->Hp->VK->Prop:=fun x vs H Q=>∃ l xs y,x=.ref l/\vs=[y]/\H l=some (.lst xs)/\xs.length<sizeLine/\Q .non (upd H l (.lst (xs++[y])))
theorem QO:MtM X "list.append" KS:=by
 intro pins s σ H x vs v us Q I rx rv h;obtain ⟨l,xs,y,rfl,rfl,hH,hz,q⟩:=h;cases rx;obtain ⟨u,rfl,ru⟩:=rv.one;obtain ⟨z,its,n,r,hl,e⟩:=I.lstM hH;refine call_meets F.slot_list_append ⟨_,e,rfl⟩ F.entry_list_append (F.args_list_append_2 _ _) (PySem.list_append l its.toArray n u (by rw [FN];omega)) ⟨e,?_⟩;refine ⟨.non,_,I.lset (its':=its++[u]) hH e (by simp) (r.append (.cons ru .nil)) ?_,rfl,q⟩;rw [Fv,FH];omega
def LX:V->List V->Hp->VK->Prop:=fun x vs H Q=>∃ l b xs zs,x=.ref l/\vs=[.ref b]/\H l=some (.lst xs)/\H b=some (.lst zs)/\xs.length+zs.length<=sizeLine/\Q .non (upd H l (.lst (xs++zs)))
theorem G7:MtM X "list.extend" LX:=by
 intro pins s σ H x vs v us Q I rx rv h;obtain ⟨l,b,xs,zs,rfl,rfl,hH,hB,hz,q⟩:=h;cases rx;obtain ⟨u,rfl,ru⟩:=rv.one;cases ru;obtain ⟨z,its,n,r,hl,e⟩:=I.lstM hH;obtain ⟨z2,its2,n2,r2,hl2,e2⟩:=I.lstM hB;have hsz:its.toArray.size+its2.toArray.size<=sizeLine:=by rw [FN,FN];omega
 have hlong:¬ (!its.toArray.isEmpty&&Builtin.List.listTooLong (its.toArray.size+its2.toArray.size))=true:=by
  rw [Mp hsz,EL];exact FT
 refine call_meets F.slot_list_extend ⟨_,e,rfl⟩ F.entry_list_extend (F.args_list_extend_2 _ _)
  (AutoSeq1.list_extend_list_list_0 l its.toArray n b its2.toArray n2 hlong (by rw [FN];omega) (by omega)) ⟨e,e2,?_⟩
 refine ⟨.non,_,I.lset (its':=its++its2) hH e (by simp) (r.append r2) ?_,rfl,q⟩;rw [Fv];omega
def HG:V->List V->Hp->VK->Prop:=fun x vs H Q=>∃ l xs y,x=.ref l/\vs=[]/\H l=some (.lst xs)/\xs[xs.length-1]?=some y/\Q y (upd H l (.lst xs.dropLast))
theorem PF:MtM X "list.pop" HG:=by
 intro pins s σ H x vs v us Q I rx rv h;obtain ⟨l,xs,y,rfl,rfl,hH,hy,q⟩:=h;cases rx;have hus:=rv.zero;subst hus;obtain ⟨z,its,n,r,hl,e⟩:=I.lstM hH;obtain ⟨u,hu,ru⟩:=r.get hy;have hy':its.toArray[its.toArray.size-1]?=some u:=by
  show its.toArray[its.length-1]?=some u;rw [<-Array.getElem?_toList,<-hl];exact hu
 refine call_meets F.slot_list_pop ⟨_,e,rfl⟩ F.entry_list_pop (F.args_list_pop_1 _) (MeetsSeq.list_pop_last l its.toArray n u hy' (by rw [FN];omega)) ⟨e,?_⟩;refine ⟨y,_,I.lset (its':=its.dropLast) hH e ?_ r.dropLast ?_,ru,q⟩
 ·show its.toArray.eraseIdxIfInBounds (its.toArray.size-1)=its.dropLast.toArray;rw [FN,List.eraseIdxIfInBounds_toArray,UP]
 ·rw [List.length_dropLast];omega
def LZ:R2:=fun x y H Q=>∃ l b xs zs,x=.ref l/\y=.ref b/\H l=some (.lst xs)/\H b=some (.lst zs)/\xs.length+zs.length<=sizeLine/\∀ p,H p=none->Q (.ref p) (upd H p (.lst (xs++zs)))
theorem Pw:OpR X (binaryOp .Add) LZ:=by
 intro pins s σ H x y v u Q I rx ry h;obtain ⟨l,b,xs,zs,rfl,rfl,hH,hB,hz,q⟩:=h;cases rx;cases ry;obtain ⟨z,its,n,r,hl,e⟩:=I.lstM hH;obtain ⟨z2,its2,n2,r2,hl2,e2⟩:=I.lstM hB;refine PySem.P.add_list e e2 ?_ (by rw [FN,FN];omega);have ea:its.toArray++its2.toArray=(its++its2).toArray:=by simp
 rw [ea];exact ⟨.ref _,_,I.lnew (t':=s.toks) (r.append r2) (by rw [Fv];omega),rfl,q _ I.fresh⟩
end
end L2
namespace Att
open PySem PySem.W PySem.Calls PyProof.Rows
theorem W4 {P:Params}:∀ (ns:List Int) (vs:List Value),WellAll P h vs (ns.map WData.int)->IntsAre vs ns:=by
 intro ns
 induction ns with
 | nil=>
  intro vs w;rw [List.map_nil] at w;cases w;exact .nil
 | cons n ns ih=>
  intro vs w;rw [F5] at w;cases w with
  | cons a b=>
   cases a;exact .cons _ _ (ih _ b)
theorem script_of {l:OpenLaw}(hn:l.most=some n) {P:Params}{h:Heap}{args:List WData}{vals:List Value}
  (hpre:l.row.toRowW.claim.pre args=true) (hwl:WellAll P h vals args) :
  ∃ a vs ns,vals=[Value.ref a]/\args=[WData.list (ns.map WData.int)]/\h.get? a=some { cls:=.type "list",data:=.seq vs.toArray }/\IntsAre vs ns/\ns.length<=n:=by
 have hsh:WShape.hasAll [] args [.list .int]=true:=(pre_splitW hpre).1;have hc:l.pre.holds [] { args:=args }=true:=(pre_splitW hpre).2;obtain ⟨d,r,rfl,h1,h2⟩:=hasAllW_cons hsh;obtain rfl:=hasAllW_nil h2;obtain ⟨xs,rfl,h3⟩:=hasW_list h1;obtain ⟨ns,rfl⟩:=items_int h3;have hlen:ns.length<=n:=by
  unfold OpenLaw.pre at hc;have h4:(WTm.not (.lt (.lit (.int (n:Int))) (.len (.arg 0)))).holds [] { args:=[.list (ns.map .int)] }=true:=by
   have h4:=(holds_andW hc).1;rw [hn] at h4;exact h4
  have h5:=condW_of h4 (w_not (w_lt w_lit (w_len_list (w_arg rfl))));rw [Fo] at h5;refine Nat.le_of_not_lt fun q=>?_
  have q':(n:Int)<((ns.length:Nat):Int):=by omega
  first
   | (rw [EC q'] at h5;exact absurd h5 (by decide))
   | (simp at h5;omega)
 cases hwl with
 | cons w1 w2=>
  cases w2;cases w1 with
  | list ho hall=>exact ⟨_,_,ns,rfl,rfl,ho,W4 ns _ hall,hlen⟩
theorem post_true (l:OpenLaw) (args:List WData):l.row.toRowW.claim.post args (.bool true) args=true:=
 postW_of (r:=l.row.toRowW) (X:=(true == true))
  (show WShape.has [] (.bool true) .bool=true by first | rfl | decide | simp [WShape.has,WShape.arms,WShape.armsAll])
  (show (WTm.eq .res (.lit (.bool true))).value [] { args:=args,res:=some (.bool true),after:=args }=some (.bool (true == true)) from w_eq_bool (w_res rfl) w_lit) rfl
end Att
namespace L2
open PySem PySem.Spec PyProof.Rows
theorem Kd:∀ {vs:List Value}{ns:List Int},IntsAre vs ns->Vals (ns.map V.int) vs
 | _,_,.nil=>.nil
 | _,_,.cons n t h=>.cons ⟨t,rfl⟩ (Kd h)
def B0 (H:Hp):Prop:=∀ b,H b=none∨∃ o xs,H b=some (.frz o (.lst xs))
theorem Mu {mb:Str->Option Value}{k:Nat}{fa:Addr}{sp:Sp}{s₁:Shared}{vs:List Value} 
  (KX:K.In s₁.heap) (hns:s₁.heap.Ns mainGlobals mg) (hb:s₁.heap.Ns builtinsNs mb) (hbb:∀ x:Str,x≠"__name__"->mb x=bootBuiltins x) (hlim:s₁.heap.NoLimit) (hg:s₁.gens=#[])
  (ha:s₁.heap.get? a=some { cls:=.type "list",data:=.seq vs.toArray }) (hi:IntsAre vs ns) (hl:ns.length<=sizeLine) (hr:Room k callerA)
  (F:∀ base:Heap,K.In base->base.Ns mainGlobals mg->FnOk P w K mg base CX k fa fd [x] sp) (hbind:∀ (s:Shared) (u:Value),BindsTo s fd ⟨[u],[]⟩ [(x,u)])
  (hsp:∀ H:Hp,B0 H->SqL K H a (ns.map V.int)->sp [.ref a] H (fun v _=>v=.bl true) fun _ _ _=>False)
  (hCX:∀ H e s',CX [] H s₁ (fun _ _ _=>False) e s'->False) :
  codeAny (model P w) callerA (.call (.ref fa) ⟨[.ref a],[]⟩) (fun r s'=>r=.ok (.ret (.bool true))/\OldK s₁.heap s'.heap/\s'.os=s₁.os/\AllBare s'.gens) s₁:=by
 have rv:=Kd hi;have lenV:=hi.length;have core:∀ H:Hp,B0 H->SqL K H a (ns.map V.int)->HOk P w H s₁.heap->(∀ b,H b≠none->b=a)->(H a≠none->K.lookup a=none) ->
   codeAny (model P w) callerA (.call (.ref fa) ⟨[.ref a],[]⟩) (fun r s'=>r=.ok (.ret (.bool true))/\OldK s₁.heap s'.heap/\s'.os=s₁.os/\AllBare s'.gens) s₁:=by
  intro H hO hS hok hA hK;have base_of:∀ {b:Addr} {o:Obj},s₁.heap.get? b=some o->H b=none->(Vj s₁.heap H).get? b=some o:=fun e n=>MA e n
  have noA:∀ {b:Addr} {o:Obj} {es:Array DictEntry} {ep:Nat},s₁.heap.get? b=some o->o.data=.dict es ep->H b=none:=fun {b o es ep} e d=>by
   cases q:H b with
   | none=>rfl
   | some u=>
    have e':b=a:=hA b (by rw [q];simp);subst e';rw [ha] at e;cases e;have d':Data.seq vs.toArray _=Data.dict es ep:=d;cases d'
  have nsK:∀ {b:Addr} {m:Str->Option Value},s₁.heap.Ns b m->(Vj s₁.heap H).Ns b m:=fun {b m} ⟨o,es,ep,e,d,r⟩=>⟨o,es,ep,base_of e (noA e d),d,r⟩
  have hKb:K.In (Vj s₁.heap H):=fun b o e=>base_of (KX b o e) (by
   cases q:H b with
   | none=>rfl
   | some u=>
    have e':b=a:=hA b (by rw [q];simp);subst e';rw [hK (by rw [q];simp)] at e;cases e)
  have hM:Mod K mg (Vj s₁.heap H):=⟨hKb,nsK hns,⟨mb,nsK hb,hbb⟩,let ⟨mc,h1,h2⟩:=hlim;⟨mc,nsK h1,h2⟩⟩
  have e0:Env0 P w K mg (Vj s₁.heap H) callerA [] s₁ H:=⟨rfl,hM,fun b o e=>Bi e,Nat.le_of_eq (Nh _ _),trivial,fun b hb=>absurd (show b∈([]:List Addr) from hb) (by simp),hok,.of_eq hg⟩
  refine EW ((F _ hKb (nsK hns)).run callerA [] s₁ H ⟨[.ref a],[]⟩ [.ref a] [.ref a] _ _ hr e0 (hbind s₁ (.ref a)) (.cons rfl .nil) (hsp H hO hS)) fun r s' h=>?_
  cases r with
  | error e=>exact (hCX H e s' h).elim
  | ok fl=>
   cases fl with
   | next=>exact False.elim h
   | brk=>exact False.elim h
   | cont=>exact False.elim h
   | ret u=>
    obtain ⟨v,H',os,bare,un,hok',r',q⟩:=h;have q':v=.bl true:=q;subst q';obtain rfl:u=Value.bool true:=r';refine ⟨rfl,OldK.of_keep fun b o e=>?_,os,bare⟩;cases q:H b with
    | none=>exact un.keep b o e q (by intro z;exact absurd (show b∈([]:List Addr) from z) (by simp)) (by simp)
    | some u=>
     rcases hO b with z | ⟨ob,xs,z⟩
     ·rw [q] at z;cases z
     ·have z2:=un.frzs b ob _ z;obtain ⟨e1,_⟩:=hok b _ z;obtain ⟨e2,_⟩:=hok' b _ z2;rw [e] at e1;cases e1;exact e2
 cases hk:K.lookup a with
 | some o=>
  have e:=KX a o hk;rw [ha] at e;cases e;refine core (fun _=>none) (fun _=>.inl rfl) (.inr ⟨_,vs.toArray,_,hk,rfl,rfl,rfl,by rw [FN,lenV];exact hl,by simpa using rv⟩) (fun b u z=>by have z':(none:Option HO)=some u:=z;cases z') (fun b z=>absurd rfl z) fun z=>absurd rfl z
 | none=>
  refine core (fun b=>if b=a then some (.frz { cls:=.type "list",data:=.seq vs.toArray } (.lst (ns.map V.int))) else none) (fun b=>?_) (.inl (.inr ⟨{ cls:=.type "list",data:=.seq vs.toArray },Fs rfl⟩)) (fun b u z=>?_) (fun b z=>?_) fun _=>hk
  ·by_cases hb:b=a
   ·exact .inr ⟨_,_,Fs hb⟩
   ·exact .inl (Fl hb)
  ·by_cases hb:b=a
   ·have z':=(Fs hb).symm.trans z;cases z';subst hb;exact ⟨ha,by rw [Fo];exact hl,vs,_,rv,ha⟩
   ·have z':=(Fl hb).symm.trans z;cases z'
  ·by_cases hb:b=a
   ·exact hb
   ·exact absurd (Fl hb) z
abbrev CX0:CXT:=fun _ _ _ _ _ _=>False
abbrev E0:XK:=fun _ _ _=>False
theorem Gd:X5 CX0 X E0:=fun _ _ _ _ _ _ _ h=>h.elim
structure Fun (K:W.Frag) (x qual:Str) (st:Stmt) (f:Addr) (fd:FuncData):Prop where
 ex:∃ (oc:Value) (od:Option Addr) (kV doc pm:Value) (an:Option Addr) (cdv ct:Value) (osl:Array (Option Value)),
  fd=W.fnOf x qual (Za st) (QT st) (Qh st) .none kV doc pm an cdv ct/\K.lookup f=some ⟨oc,od,.func fd,osl⟩/\W.codeIn K cdv qual=true
 kp:W.keepIn K (.ref f)=true
section
variable {P:Program} {w:World} {K:W.Frag} {mg:Str->Option Value} {base:Heap}
theorem Fun.ok {k:Nat}{sp:Sp}(F:Fun K x qual st f fd) (S:Qn N ps (Qh st)) (len:∀ vs H Q E,sp vs H Q E->vs.length=ps.length)
  (hbody:∀ (cdv:Value) (A:Around) (outer:List Env) (s:Shared) (H:Hp) (vs:List V) (Q:VK) (E:XK),Room k (A.deeper (envOfC qual (Qh st) s.heap.objs.size f cdv))->sp vs H Q E ->
   ∃ t,PSs (Wj CX0 P w K mg base N qual (Qh st) f cdv A outer s H E).nox (QT st) t/\t { nx:=fun _ H'=>Q .non H',rt:=Q } (start N vs) H):FnOk P w K mg base CX0 (k+1) f fd ps sp:=by
 obtain ⟨oc,od,kV,doc,pm,an,cdv,ct,osl,rfl,lk,hcd⟩:=F.ex;refine MS lk hcd S len fun A outer s H vs Q E hr hsp=>?_
 obtain ⟨t,h,q⟩:=hbody cdv A outer s H vs Q E hr hsp;exact ⟨t,h.nox,q⟩
theorem Fun.binds (F:Fun K x qual st f fd)
  (h:∀ (kV doc pm:Value) (an:Option Addr) (cdv ct:Value) (us:List Value),us.length=ps.length->bindArgs (W.fnOf x qual (Za st) (QT st) (Qh st) .none kV doc pm an cdv ct) ⟨us,[]⟩=pure (ps.zip us)):Binds K fd ps []:=by
 obtain ⟨oc,od,kV,doc,pm,an,cdv,ct,osl,rfl,lk,hcd⟩:=F.ex;exact .all (h kV doc pm an cdv ct)
theorem fun_mk {osl:Array (Option Value)}{kV:Value}(l:K.lookup f=some ⟨oc,od,.func (W.fnOf x qual (Za st) (QT st) (Qh st) .none kV doc pm an cdv ct),osl⟩)
  (c:W.codeIn K cdv qual=true) (k:W.keepIn K (.ref f)=true):Fun K x qual st f (W.fnOf x qual (Za st) (QT st) (Qh st) .none kV doc pm an cdv ct):=⟨⟨oc,od,kV,doc,pm,an,cdv,ct,osl,rfl,l,c⟩,k⟩
end
theorem Q9 {k:Nat}(hr:Room k A):A.units+1<cLine:=Ep (Nat.add_le_add_left (by decide:1<=64) _) hr.units
theorem QF (h:n<=1000):n<sizeLine:=Ep h (by decide)
section
variable {X:Cx}
theorem pv (i:Nat) {x:Str}{pos:Pos}(hN:X.N[i]?=some x:=by rfl) (hv:Vis X.env.scope x:=by first | exact Or.inl rfl | exact Or.inr (Or.inl rfl) | exact Or.inr (Or.inr rfl)) (hd:(x == ("__debug__":Str))=false:=by decide)
  (hcd:(x == ("__classdict__":Str))=false:=by decide):PE X (.Name x pos) (Su i):=Pk hN hv hd hcd
end
def Same (H H':Hp):Prop:=∀ b o,H b=some o->H' b=some o
theorem Same.refl (H:Hp):Same H H:=fun _ _ h=>h
theorem Same.trans (a:Same H H1) (b:Same H1 H2):Same H H2:=fun c o h=>b c o (a c o h)
theorem Same.free (e:Same H H') {l:Addr}(h:H' l=Option.none):H l=Option.none:=by
 cases q:H l with
 | none=>rfl
 | some o=>
  rw [e l o q] at h;cases h
theorem Same.seq (e:Same H H') (h:SqL K H a xs):SqL K H' a xs:=by
 rcases h with (h | ⟨o,h⟩) | h
 ·exact .inl (.inl (e _ _ h))
 ·exact .inl (.inr ⟨o,e _ _ h⟩)
 ·exact .inr h
def Bd (n:Nat) (i:Int):Prop:=i.natAbs<2 ^ n
theorem Bd.mono {i:Int}(h:Bd m i) (hl:m<=n):Bd n i:=FP h (Nat.pow_le_pow_right (by decide) hl)
theorem Bd.add {i:Int}(h:Bd m i) (h':Bd n j):Bd (max m n+1) (i+j):=by
 have a:=h.mono (Nat.le_max_left m n);have b:=h'.mono (Nat.le_max_right m n);unfold Bd at *;rw [Nat.pow_succ];omega
theorem Bd.mul {i:Int}(h:Bd m i) (h':Bd n j):Bd (m+n) (i*j):=by
 unfold Bd at *;rw [EH,Nat.pow_add];exact Nat.mul_lt_mul'' h h'
theorem Bd.le {i:Int}(h:Bd m j) (hl:i.natAbs<=j.natAbs):Bd m i:=Ep hl h
theorem Bd.bits {i:Int}(h:Bd m i):Builtin.Int.intBits i<=m:=by
 unfold Builtin.Int.intBits;split
 ·exact FZ _
 ·rename_i h0;have h0':i.natAbs≠0:=by
   intro e;apply h0;have:i=0:=Int.natAbs_eq_zero.mp e;rw [this];rfl
  have:i.natAbs.log2<m:=(Nat.log2_lt h0').mpr h;omega
theorem Bd.log2 {i:Int}(h:Bd m i) (hm:0<m):i.natAbs.log2<m:=by
 rcases Nat.eq_zero_or_pos i.natAbs with h0 | hp
 ·rw [h0];simpa using hm
 ·exact (Nat.log2_lt (Dz hp)).mpr h
def CMulB (i j:Int):Prop:=Bd 60000 i/\Bd 60000 j
def CDivB (j:Int):Prop:=j≠0/\Bd 9000 j
section
variable {X:Cx}
theorem CMulB.ok {i:Int}(h:CMulB i j):IntMulOk i j:=by
 refine IntMulOk.of_bits ?_ ?_
 ·exact FQ h.1.bits (by decide)
 ·exact FQ h.2.bits (by decide)
theorem op_mulB:OpR X (binaryOp .Mult) (rI CMulB fun i j=>.int (i*j)):=opI fun _ _ _ _ _ _ _ hc q=>mul_int q hc.ok
theorem op_fdivB:OpR X (binaryOp .FloorDiv) (rI (fun _ j=>CDivB j) fun i j=>.int (i.fdiv j)):=opI fun _ _ _ _ _ _ _ hc q=>floordiv_int hc.1 q (.inl (PyProof.noPylong_of_log2 (hc.2.log2 (by decide))))
end
def Pg (K:W.Frag):List V->Hp->VK->Prop:=fun xs H Q=>∃ x c t b u,xs=[x,c]/\RelV c u/\(∀ u',RelV c u'->u'=u)/\TyOf K H x t/\W.kitOne K t u=some b/\Q (.bl b) H
section
variable {X:Cx}
theorem Le:ZT X (.builtin "isinstance") (Pg X.K):=by
 intro pins s σ H xs us Q I r h;obtain ⟨x,c,t,b,u,rfl,rc,uq,ty,e,q⟩:=h;obtain ⟨u1,u2,rfl,r1,r2⟩:=Ke r;obtain rfl:=uq _ r2;exact Nf I r1 ty e fun tk=>⟨.bl b,H,I.tok tk,rfl,q⟩
end
structure Cal (P:Program) (w:World) (K:W.Frag) (mg:Str->Option Value) (base:Heap) (k:Nat) (name:Str) (ps:List Str) (sp:Sp):Prop where
 ex:∃ (f:Addr) (fd:FuncData),FnOk P w K mg base CX0 k f fd ps sp/\Binds K fd ps []/\W.keepIn K (.ref f)=true/\mg name=some (.ref f)
section
variable {X:Cx} {k:Nat} {name:Str} {ps:List Str} {sp:Sp} {p pos:Pos} {e:Expr} {es:List Expr} {t:TA}
theorem Qs (C:Cal X.prog X.w X.K X.mg X.base k name ps sp) (hr:Room k X.A) (hg:Gl X name) (ha:PA X (e :: es) t) (hdb:(name == ("__debug__":Str))=false:=by decide)
  (he:starEach (e :: es) X.env=(false,eval e X.env) :: starEach es X.env:=by rfl) (hpl:(backTo pos (starEach es X.env)).any (·.1)=false:=by rfl) :
  PE X (.Call (.Name name p) (e :: es) [] pos) (VE sp [] E0 t):=by
 obtain ⟨f,fd,F,b,kp,m⟩:=C.ex;exact Gb F hr hg m kp b .nil Gd ha hdb he hpl
end
theorem Qi (h:H p=none) (o:HO):Same H (upd H p o):=fun b u q=>by rw [Qj (Zc q h)];exact q
theorem x_c:tC v σ H Q=Q v H:=rfl
theorem HB {r:R2}{tb:TE}:tOp r ta tb σ H Q=ta σ H fun x H1=>tb σ H1 fun y H2=>r x y H2 Q:=rfl
theorem Hw {r:V->Hp->VK->Prop}:tUn r ta σ H Q=ta σ H fun x H1=>r x H1 Q:=rfl
theorem Sk {i:Int}:rEq (.int i) (.int j) H Q=Q (.bl (decide (i=j))) H:=by
 have e:decide (V.int i=V.int j)=decide (i=j):=by
  rw [Jj,Bool.beq_eq_decide_eq]
 unfold rEq;rw [e];exact propext ⟨fun h=>h.2,fun h=>⟨rfl,h⟩⟩
theorem T7 {i:Int}:rNe (.int i) (.int j) H Q=Q (.bl (!decide (i=j))) H:=by
 have e:decide (V.int i=V.int j)=decide (i=j):=by
  rw [Jj,Bool.beq_eq_decide_eq]
 unfold rNe;rw [e];exact propext ⟨fun h=>h.2,fun h=>⟨rfl,h⟩⟩
theorem HE {b:Bool}{P:Bool->Prop}:(∃ k,V.bl b=V.bl k/\P k)=P b:=by
 refine propext ⟨fun ⟨k,e,q⟩=>?_,fun q=>⟨b,rfl,q⟩⟩;cases e;exact q
theorem Sq {t u:TT}{Q:Bool->Hp->Prop}:SA t u σ H Q=t σ H fun c H1=>if c=true then u σ H1 Q else Q false H1:=rfl
theorem HA {t u:TT}{Q:Bool->Hp->Prop}:tOr t u σ H Q=t σ H fun c H1=>if c=true then Q true H1 else u σ H1 Q:=rfl
theorem TZ {t:TT}{Q:Bool->Hp->Prop}:Sx t σ H Q=t σ H fun c H1=>Q (!c) H1:=rfl
theorem Si {t:TT}{tb:TE}:tIf t ta tb σ H Q=t σ H fun c H1=>if c=true then ta σ H1 Q else tb σ H1 Q:=rfl
theorem V8 {D:Q3}:B9 D σ H=D.nx σ H:=rfl
theorem TR {t u:TS}{D:Q3}:ZH t u D σ H=t { D with nx:=u D } σ H:=rfl
theorem TV {D:Q3}:GJ te D σ H=te σ H D.rt:=rfl
theorem R5 {D:Q3}:Jo te D σ H=te σ H fun _ H1=>D.nx σ H1:=rfl
theorem Sh {c:TT}{t u:TS}{D:Q3}:Ud c t u D σ H=c σ H fun b H1=>if b=true then t D σ H1 else u D σ H1:=rfl
theorem Ly {D:Q3}:NM D σ H=False:=rfl
theorem So {D:Q3}:Z4 te g D σ H=te σ H fun x H1=>g x σ H1 D.nx:=rfl
theorem RT {Q:St->Hp->Prop}:Zt i v σ H Q=Q (σ.set i (some v)) H:=rfl
theorem TY {j:Nat}{ta:TA}{D:Q3}:Sw i j ta D σ H=ta σ H fun vs H1=>∃ v w,vs=[v,w]/\D.nx ((σ.set i (some v)).set j (some w)) H1:=rfl
theorem T3 {Q:List V->Hp->Prop}:LG σ H Q=Q [] H:=rfl
theorem R6 {tr:TA}{Q:List V->Hp->Prop}:Rb ta tr σ H Q=ta σ H fun x H1=>tr σ H1 fun xs H2=>Q (x :: xs) H2:=rfl
theorem R7 {sp:Sp}{dvs:List V}{E:XK}{t:TA}:VE sp dvs E t σ H Q=t σ H fun vs H1=>sp (vs++dvs) H1 Q E:=rfl
theorem HD {r:List V->Hp->VK->Prop}{t:TA}:tCB r t σ H Q=t σ H fun vs H1=>r vs H1 Q:=rfl
theorem TC {t:TA}:Sv t σ H Q=t σ H fun xs H1=>xs.length<=sizeLine/\∀ p,H1 p=none->Q (.ref p) (upd H1 p (.tup xs)):=rfl
theorem Sb {t:TA}:Sy t σ H Q=t σ H fun xs H1=>xs.length<=sizeLine/\∀ p,H1 p=none->Q (.ref p) (upd H1 p (.lst xs)):=rfl
theorem KA (h:n<=1000):n<=sizeLine:=Dc (QF h)
theorem RN {a:α}{P:α->Prop}:(∃ v,some (some a)=some (some v)/\P v)=P a:=by
 refine propext ⟨fun ⟨k,e,q⟩=>?_,fun q=>⟨a,rfl,q⟩⟩;cases e;exact q
theorem Sf {a:Int}{P:Int->Prop}:(∃ v,[V.int a]=[V.int v]/\P v)=P a:=by
 refine propext ⟨fun ⟨k,e,q⟩=>?_,fun q=>⟨a,rfl,q⟩⟩;cases e;exact q
theorem TB {a b:V}{P:V->V->Prop}:(∃ v w,[a,b]=[v,w]/\P v w)=P a b:=by
 refine propext ⟨fun ⟨k,l,e,q⟩=>?_,fun q=>⟨a,b,rfl,q⟩⟩;cases e;exact q
theorem RX {a:Int}{P:Int->Int->Prop}:(∃ v w,[V.int a,V.int b]=[V.int v,V.int w]/\P v w)=P a b:=by
 refine propext ⟨fun ⟨k,l,e,q⟩=>?_,fun q=>⟨a,b,rfl,q⟩⟩;cases e;exact q
theorem Same.sqT (e:Same H H') (h:SqT K H a xs):SqT K H' a xs:=by
 rcases h with (h | ⟨o,h⟩) | h
 ·exact .inl (.inl (e _ _ h))
 ·exact .inl (.inr ⟨o,e _ _ h⟩)
 ·exact .inr h
def Rk:R2:=fun x y H Q=>rI0 (fun i j=>.int (i+j)) x y H Q∨(∃ i j,x=.str i/\y=.str j/\i.length+j.length<=sizeLine/\Q (.str (i++j)) H)∨LZ x y H Q
section
variable {X:Cx}
theorem op_addA:OpR X (binaryOp .Add) Rk:=op_add.or (op_add_str.or Pw)
theorem YB (hm:X.mg x=none) (hv:bootBuiltins x=some (.type T)) (hg:Gl X x:=by rfl) (hn:x≠"__name__":=by decide) (hdb:(x == ("__debug__":Str))=false:=by decide):PE X (.Name x pos) (tC (.ty T)):=
 Bc hg hm hv rfl hn hdb
end
theorem ZZ {k:Int}(h:SqT K H p xs) (e:atI xs k=some v) (q:Q v H):rIx K (.ref p) (.int k) H Q:=.inr (.inl ⟨p,xs,k,v,rfl,rfl,h,e,q⟩)
theorem Zj {k:Int}(h:SqL K H p xs) (e:atI xs k=some v) (q:Q v H):rIx K (.ref p) (.int k) H Q:=.inl ⟨p,xs,k,v,rfl,rfl,h,e,q⟩
def Sp1 (φ:V->Hp->VK->Prop):Sp:=fun vs H Q _=>∃ a,vs=[a]/\φ a H Q
def Sp2 (φ:V->V->Hp->VK->Prop):Sp:=fun vs H Q _=>∃ a b,vs=[a,b]/\φ a b H Q
def Sp3 (φ:V->V->V->Hp->VK->Prop):Sp:=fun vs H Q _=>∃ a b c,vs=[a,b,c]/\φ a b c H Q
def Sp4 (φ:V->V->V->V->Hp->VK->Prop):Sp:=fun vs H Q _=>∃ a b c d,vs=[a,b,c,d]/\φ a b c d H Q
theorem TQ {a:V}:start N [a]=some a :: List.replicate (N.length-1) none:=rfl
theorem TN {a b:V}:start N [a,b]=some a :: some b :: List.replicate (N.length-2) none:=rfl
theorem TM {a b:V}:start N [a,b,c]=some a :: some b :: some c :: List.replicate (N.length-3) none:=rfl
theorem TL {a b d:V}:start N [a,b,c,d]=some a :: some b :: some c :: some d :: List.replicate (N.length-4) none:=rfl
theorem ZG {t:TGs}{Q:St->Hp->Prop}(h:SqT K H p xs) (hl:xs.length=n) (q:t xs σ H Q):MN K n t (.ref p) σ H Q:=⟨p,xs,rfl,h,hl,q⟩
def LU (K:W.Frag):List V->Hp->VK->Prop:=fun xs H Q=>∃ x n,xs=[x]/\Ho K x H n/\Q (.int n) H
theorem Nt:ZT X (.builtin "len") (LU X.K):=Ld
theorem ZL (h:SqL K H p xs) (q:Q (.int xs.length) H):LU K [.ref p] H Q:=⟨.ref p,xs.length,rfl,.inl ⟨xs,h,rfl⟩,q⟩
theorem RU (h:SqT K H p xs) (q:Q (.int xs.length) H):LU K [.ref p] H Q:=⟨.ref p,xs.length,rfl,.inr ⟨xs,h,rfl⟩,q⟩
theorem Sn {sc:Scope}{E:XK}:(Wj CX P w K mg base N qual sc f cdv A outer s H E).K=K:=rfl
theorem Sd {x:V}{t:Value}{b:Bool}(ty:TyOf K H x t) (e:W.kitOne K t (.type T)=some b) (q:Q (.bl b) H):Pg K [x,.ty T] H Q:=
 ⟨x,.ty T,t,b,.type T,rfl,rfl,fun _ h=>h,ty,e,q⟩
theorem Sj {i j:Str}:rEq (.str i) (.str j) H Q=Q (.bl (decide (i=j))) H:=by
 have e:decide (V.str i=V.str j)=decide (i=j):=by
  by_cases h:i=j
  ·subst h;simp
  ·rw [F6 h];exact F6 fun q=>h (V.str.inj q)
 unfold rEq;rw [e];exact propext ⟨fun h=>h.2,fun h=>⟨rfl,h⟩⟩
theorem T4 {i j:Str}:rNe (.str i) (.str j) H Q=Q (.bl (!decide (i=j))) H:=by
 have e:decide (V.str i=V.str j)=decide (i=j):=by
  by_cases h:i=j
  ·subst h;simp
  ·rw [F6 h];exact F6 fun q=>h (V.str.inj q)
 unfold rNe;rw [e];exact propext ⟨fun h=>h.2,fun h=>⟨rfl,h⟩⟩
theorem Sm {i j:Bool}:rEq (.bl i) (.bl j) H Q=Q (.bl (decide (i=j))) H:=by
 have e:decide (V.bl i=V.bl j)=decide (i=j):=by cases i <;> cases j <;> rfl
 unfold rEq;rw [e];exact propext ⟨fun h=>h.2,fun h=>⟨rfl,h⟩⟩
theorem T8 {i j:Bool}:rNe (.bl i) (.bl j) H Q=Q (.bl (!decide (i=j))) H:=by
 have e:decide (V.bl i=V.bl j)=decide (i=j):=by cases i <;> cases j <;> rfl
 unfold rNe;rw [e];exact propext ⟨fun h=>h.2,fun h=>⟨rfl,h⟩⟩
theorem Jl {lo hi:Option Int}(h:SqL K H p xs) (q:∀ r,H r=none->Q (.ref r) (upd H r (.lst (YN xs lo hi)))):N0 K (.ref p) lo hi H Q:=⟨p,xs,rfl,h,q⟩
theorem Hz {r:V->Option Int->Option Int->Hp->VK->Prop}{tl th:TO}:tSl r te tl th σ H Q=te σ H fun x H1=>tl σ H1 fun l H2=>th σ H2 fun u H3=>r x l u H3 Q:=rfl
theorem T2 {Q:Option Int->Hp->Prop}:U4 σ H Q=Q none H:=rfl
theorem RP {t:TE}{Q:Option Int->Hp->Prop}:B8 t σ H Q=t σ H fun x H1=>∃ i,x=.int i/\Q (some i) H1:=rfl
theorem HC {a:Int}{P:Int->Prop}:(∃ v,V.int a=V.int v/\P v)=P a:=by
 refine propext ⟨fun ⟨k,e,q⟩=>?_,fun q=>⟨a,rfl,q⟩⟩;cases e;exact q
theorem LA {ta:TA}:Rp ta σ H R=ta σ H fun vs H1=>∃ j:Int,vs=[.int j]/\-(2 ^ 62)<=j/\j<2 ^ 62/\R (Itr 0 j.toNat) H1:=rfl
theorem Lx {c:Int}{P:Int->Int->Prop}:(∃ j' c':Int,[V.int 0,V.int j,V.int c]=[V.int 0,V.int j',V.int c']/\P j' c')=P j c:=by
 refine propext ⟨fun ⟨_,_,e,q⟩=>?_,fun q=>⟨j,c,rfl,q⟩⟩;cases e;exact q
theorem TF {r:V->List V->Hp->VK->Prop}{to:TE}{t:TA}:tBM K T r to t σ H Q=to σ H fun x H1=>tyV K T x H1/\t σ H1 fun xs H2=>r x xs H2 Q:=rfl
theorem RL {r:V->List V->Hp->VK->Prop}{to:TE}:Pa K T r to σ H Q=to σ H fun x H1=>tyV K T x H1/\r x [] H1 Q:=rfl
theorem QV {y:V}(h:H p=some (.lst xs)) (hl:xs.length<sizeLine) (q:Q .non (upd H p (.lst (xs++[y])))):KS (.ref p) [y] H Q:=⟨p,xs,y,rfl,rfl,h,hl,q⟩
theorem LB:Mx K tl σ H R=tl σ H fun x H1=>∃ a,x=.ref a/\(∃ xs,SqL K H1 a xs)/\R (Itl K a) H1:=rfl
theorem QK {p:Prop} [Decidable p] {A B:Prop}(h:p->A) (h2:¬ p->B):if p then A else B:=by
 by_cases c:p
 ·rw [Fs c];exact h c
 ·rw [Fl c];exact h2 c
def Ky (J:It) (g:TG) (tb:TS) (D:Q3) (σ:St) (H1:Hp):Prop:=∃ W:Nat->Nat->St->Hp->Prop,(∃ m,W 0 m σ H1)/\∀ i m σ H,W i m σ H ->
 (J.stop i H/\D.nx σ H)∨(J.go i H/\∃ N:St->Hp->Prop,(∀ σ' H',N σ' H'->∃ m',m'<m/\W (i+1) m' σ' H')/\∀ x H',J.yld i H x H'->g x σ H' fun σ2 H2=>tb { D with nx:=N,ct:=N,bk:=D.nx } σ2 H2)
theorem RY {wi:TI}{D:Q3}:LH wi g tb D σ H=wi σ H fun J H1=>Ky J g tb D σ H1:=rfl
theorem J0 {D:Q3}(Pv:Nat->St->Hp->Prop) (h0:Pv 0 σ H)
  (hs:∀ i σ H,i<n->Pv i σ H->g (.int (lo+i)) σ H fun σ2 H2=>tb { D with nx:=Pv (i+1),ct:=Pv (i+1),bk:=D.nx } σ2 H2) (hd:∀ σ H,Pv n σ H->D.nx σ H):Ky (Itr lo n) g tb D σ H:=Ni Pv h0 hs hd
theorem Xn {D:Q3}(Pv:Nat->St->Hp->Prop) (h0:Pv 0 σ H) (hl:∀ i σ H,i<=xs.length->Pv i σ H->SqL K H a xs)
  (hs:∀ i x σ H,xs[i]?=some x->Pv i σ H->g x σ H fun σ2 H2=>tb { D with nx:=Pv (i+1),ct:=Pv (i+1),bk:=D.nx } σ2 H2) (hd:∀ σ H,Pv xs.length σ H->D.nx σ H):Ky (Itl K a) g tb D σ H:=MR Pv h0 hl hs hd
inductive D where
 | non | int (i:Int) | str (x:Str) | tup (ds:List D) | lst (ds:List D)
inductive Rep (K:W.Frag) (H:Hp):D->V->Prop where
 | non:Rep K H .non .non
 | int (i:Int):Rep K H (.int i) (.int i)
 | bl (c:Bool):Rep K H (.int (if c then 1 else 0)) (.bl c)
 | str (x:Str):Rep K H (.str x) (.str x)
 | tup {p:Addr} {xs:List V} {ds:List D} (h:SqT K H p xs) (hl:ds.length=xs.length) (hr:∀ (i:Nat) d x,ds[i]?=some d->xs[i]?=some x->Rep K H d x):Rep K H (.tup ds) (.ref p)
 | lst {p:Addr} {xs:List V} {ds:List D} (h:SqL K H p xs) (hl:ds.length=xs.length) (hr:∀ (i:Nat) d x,ds[i]?=some d->xs[i]?=some x->Rep K H d x):Rep K H (.lst ds) (.ref p)
inductive DB:Nat->D->Prop where
 | non {n:Nat}:DB n .non
 | int {n:Nat} (i:Int):DB n (.int i)
 | str {n:Nat} (x:Str):DB n (.str x)
 | tup {n:Nat} {ds:List D} (h:∀ d∈ds,DB n d):DB (n+1) (.tup ds)
 | lst {n:Nat} {ds:List D} (h:∀ d∈ds,DB n d):DB (n+1) (.lst ds)
section
variable {X:Cx} {pins:List (Addr×Obj)} {σ:St} {H:Hp} {s:Shared}
theorem Inv.lt_ne (I:Inv X pins σ H s) {p:Addr}{xs ys:List V}(h:SqL X.K H p xs) (h':SqT X.K H p ys):False:=by
 obtain ⟨its,_,pl,_⟩:=I.list h;obtain ⟨its',_,pt,_⟩:=I.tuple h';exact SeqAt.ne_of_list_tuple (s:=s) pl.isList pt rfl
theorem Rep.inj (I:Inv X pins σ H s) {d:D}{v:V}(r:Rep X.K H d v):∀ {e:D},Rep X.K H e v->d=e:=by
 induction r with
 | non=>intro e r';cases r';rfl
 | int i=>intro e r';cases r';rfl
 | bl c=>intro e r';cases r';rfl
 | str x=>intro e r';cases r';rfl
 | @tup p xs ds h hl hr ih=>
  intro e r';cases r' with
  | @tup _ ys es h' hl' hr'=>
   have e1:=I.tuple_inj h h';subst e1;refine congrArg D.tup (EE fun i=>?_);by_cases hi:i<ds.length
   ·have h2:i<xs.length:=by omega
    have h3:i<es.length:=by omega
    rw [Fu hi,Fu h3];exact congrArg some (ih i _ _ (Fu hi) (Fu h2) (hr' i _ _ (Fu h3) (Fu h2)))
   ·rw [Ej (by omega),Ej (by omega)]
  | lst h' hl' hr'=>exact (I.lt_ne h' h).elim
 | @lst p xs ds h hl hr ih=>
  intro e r';cases r' with
  | tup h' hl' hr'=>exact (I.lt_ne h h').elim
  | @lst _ ys es h' hl' hr'=>
   have e1:=I.list_inj h h';subst e1;refine congrArg D.lst (EE fun i=>?_);by_cases hi:i<ds.length
   ·have h2:i<xs.length:=by omega
    have h3:i<es.length:=by omega
    rw [Fu hi,Fu h3];exact congrArg some (ih i _ _ (Fu hi) (Fu h2) (hr' i _ _ (Fu h3) (Fu h2)))
   ·rw [Ej (by omega),Ej (by omega)]
open Classical in
def eqIt (ds es:List D) (j:Nat):Bool:=decide (ds[j]?=es[j]?)
open Classical in
theorem eqIt_iff {ds es:List D}{j:Nat}:eqIt ds es j=true↔ds[j]?=es[j]?:=by
 unfold eqIt;exact EM
theorem XR {ds es:List D}(hl:ds.length=es.length):(List.range ds.length).all (eqIt ds es)=true↔ds=es:=by
 rw [Eu];constructor
 ·intro h;refine EE fun i=>?_
  by_cases hi:i<ds.length
  ·exact eqIt_iff.mp (h i (List.mem_range.mpr hi))
  ·rw [Ej (by omega),Ej (by omega)]
 ·intro h i _;subst h;exact eqIt_iff.mpr rfl
theorem RelV.ref_of (r:RelV (.ref p) u):u=.ref p:=r
theorem NY (I:Inv X pins σ H s) {d:D}{x:V}(r:Rep X.K H d x):∀ {n:Nat}{A:Around}{e:D}{y:V}{u v:Value}{b:Bool},DB n d->A.units+n<cLine->Rep X.K H e y->RelV x u->RelV y v->(b=true↔d=e)->SeqAt.EqAt A s u v b:=by
 induction r with
 | non=>
  intro n A e y u v b _ hn r' ru rv hb;obtain rfl:u=Value.none:=ru;cases r' with
  | non=>obtain rfl:v=Value.none:=rv;have:b=true:=hb.mpr rfl;subst this;exact SeqAt.EqAt.same _
  | int j=>obtain ⟨t,rfl⟩:=rv;have:b=false:=FJ.mpr fun z=>nomatch (hb.mp z);subst this;exact SeqAt.EqAt.none_int _ _
  | bl c=>obtain rfl:v=Value.bool c:=rv;have:b=false:=FJ.mpr fun z=>nomatch (hb.mp z);subst this;exact SeqAt.EqAt.none_bool _
  | str j=>obtain ⟨t,rfl⟩:=rv;have:b=false:=FJ.mpr fun z=>nomatch (hb.mp z);subst this;exact SeqAt.EqAt.none_str _ _
  | tup h' hl' hr'=>
   obtain rfl:=rv.ref_of;have:b=false:=FJ.mpr fun z=>nomatch (hb.mp z)
   subst this;obtain ⟨its,_,pt,_⟩:=I.tuple h';exact SeqAt.EqAt.none_tuple pt (by omega)
  | lst h' hl' hr'=>
   obtain rfl:=rv.ref_of;have:b=false:=FJ.mpr fun z=>nomatch (hb.mp z)
   subst this;obtain ⟨its,_,pt,_⟩:=I.list h';exact SeqAt.EqAt.none_list pt.isList (by omega)
 | int i=>
  intro n A e y u v b _ hn r' ru rv hb;obtain ⟨tu,rfl⟩:=ru;cases r' with
  | non=>obtain rfl:v=Value.none:=rv;have:b=false:=FJ.mpr fun z=>nomatch (hb.mp z);subst this;exact SeqAt.EqAt.int_none _ _
  | int j=>
   obtain ⟨t,rfl⟩:=rv;have:b=(i == j):=by
    by_cases q:i=j
    ·subst q;rw [hb.mpr rfl];simp
    ·have:b=false:=FJ.mpr fun z=>q (by have:=hb.mp z;injection this)
     rw [this];simp [q]
   subst this;exact SeqAt.EqAt.int_int _ _ _ _
  | bl c=>
   obtain rfl:v=Value.bool c:=rv;have:b=(i == if c=true then 1 else 0):=by
    generalize (if c=true then (1:Int) else 0)=j at *;by_cases q:i=j
    ·subst q;rw [hb.mpr rfl];simp
    ·have:b=false:=FJ.mpr fun z=>q (by have:=hb.mp z;injection this)
     rw [this];simp [q]
   subst this;exact SeqAt.EqAt.int_bool _ _ _
  | str j=>obtain ⟨t,rfl⟩:=rv;have:b=false:=FJ.mpr fun z=>nomatch (hb.mp z);subst this;exact SeqAt.EqAt.int_str _ _ _ _
  | tup h' hl' hr'=>
   obtain rfl:=rv.ref_of;have:b=false:=FJ.mpr fun z=>nomatch (hb.mp z)
   subst this;obtain ⟨its,_,pt,_⟩:=I.tuple h';exact SeqAt.EqAt.int_tuple _ _ pt (by omega)
  | lst h' hl' hr'=>
   obtain rfl:=rv.ref_of;have:b=false:=FJ.mpr fun z=>nomatch (hb.mp z)
   subst this;obtain ⟨its,_,pt,_⟩:=I.list h';exact SeqAt.EqAt.int_list _ _ pt.isList (by omega)
 | bl k=>
  intro n A e y u v b _ hn r' ru rv hb;obtain rfl:u=Value.bool k:=ru;cases r' with
  | non=>obtain rfl:v=Value.none:=rv;have:b=false:=FJ.mpr fun z=>nomatch (hb.mp z);subst this;exact SeqAt.EqAt.bool_none _
  | int j=>
   obtain ⟨t,rfl⟩:=rv;have:b=((if k=true then 1 else 0) == j):=by
    generalize (if k=true then (1:Int) else 0)=i at *;by_cases q:i=j
    ·subst q;rw [hb.mpr rfl];simp
    ·have:b=false:=FJ.mpr fun z=>q (by have:=hb.mp z;injection this)
     rw [this];simp [q]
   subst this;exact SeqAt.EqAt.bool_int _ _ _
  | bl c=>
   obtain rfl:v=Value.bool c:=rv;have:b=(k == c):=by
    rw [F0,hb,beq_iff_eq];cases k <;> cases c <;> simp
   subst this;exact SeqAt.EqAt.bool_bool _ _
  | str j=>obtain ⟨t,rfl⟩:=rv;have:b=false:=FJ.mpr fun z=>nomatch (hb.mp z);subst this;exact SeqAt.EqAt.bool_str _ _ _
  | tup h' hl' hr'=>
   obtain rfl:=rv.ref_of;have:b=false:=FJ.mpr fun z=>nomatch (hb.mp z);subst this
   obtain ⟨its,_,pt,_⟩:=I.tuple h';exact SeqAt.EqAt.bool_tuple _ pt (by omega)
  | lst h' hl' hr'=>
   obtain rfl:=rv.ref_of;have:b=false:=FJ.mpr fun z=>nomatch (hb.mp z);subst this
   obtain ⟨its,_,pt,_⟩:=I.list h';exact SeqAt.EqAt.bool_list _ pt.isList (by omega)
 | str i=>
  intro n A e y u v b _ hn r' ru rv hb;obtain ⟨tu,rfl⟩:=ru;cases r' with
  | non=>obtain rfl:v=Value.none:=rv;have:b=false:=FJ.mpr fun z=>nomatch (hb.mp z);subst this;exact SeqAt.EqAt.str_none _ _
  | int j=>obtain ⟨t,rfl⟩:=rv;have:b=false:=FJ.mpr fun z=>nomatch (hb.mp z);subst this;exact SeqAt.EqAt.str_int _ _ _ _
  | bl c=>obtain rfl:v=Value.bool c:=rv;have:b=false:=FJ.mpr fun z=>nomatch (hb.mp z);subst this;exact SeqAt.EqAt.str_bool _ _ _
  | str j=>
   obtain ⟨t,rfl⟩:=rv;have:b=(i == j):=by
    by_cases q:i=j
    ·subst q;rw [hb.mpr rfl];simp
    ·have:b=false:=FJ.mpr fun z=>q (by have:=hb.mp z;injection this)
     rw [this];simp [q]
   subst this;exact SeqAt.EqAt.str_str _ _ _ _
  | tup h' hl' hr'=>
   obtain rfl:=rv.ref_of;have:b=false:=FJ.mpr fun z=>nomatch (hb.mp z)
   subst this;obtain ⟨its,_,pt,_⟩:=I.tuple h';exact SeqAt.EqAt.str_tuple _ _ pt (by omega)
  | lst h' hl' hr'=>
   obtain rfl:=rv.ref_of;have:b=false:=FJ.mpr fun z=>nomatch (hb.mp z)
   subst this;obtain ⟨its,_,pt,_⟩:=I.list h';exact SeqAt.EqAt.str_list _ _ pt.isList (by omega)
 | @tup p xs ds h hl hr ih=>
  intro n A e y u v b hdb hn r' ru rv hb;obtain rfl:=ru.ref_of;obtain ⟨its,rI,pt,_⟩:=I.tuple h;cases hdb with
  | @tup n' _ hdb=>
  cases r' with
  | non=>obtain rfl:v=Value.none:=rv;have:b=false:=FJ.mpr fun z=>nomatch (hb.mp z);subst this;exact SeqAt.EqAt.tuple_none pt (by omega)
  | int j=>obtain ⟨t,rfl⟩:=rv;have:b=false:=FJ.mpr fun z=>nomatch (hb.mp z);subst this;exact SeqAt.EqAt.tuple_int _ _ pt (by omega)
  | bl c=>obtain rfl:v=Value.bool c:=rv;have:b=false:=FJ.mpr fun z=>nomatch (hb.mp z);subst this;exact SeqAt.EqAt.tuple_bool _ pt (by omega)
  | str j=>obtain ⟨t,rfl⟩:=rv;have:b=false:=FJ.mpr fun z=>nomatch (hb.mp z);subst this;exact SeqAt.EqAt.tuple_str _ _ pt (by omega)
  | @tup p' ys es h' hl' hr'=>
   obtain rfl:=rv.ref_of;obtain ⟨its',rI',pt',_⟩:=I.tuple h';by_cases hp:p=p'
   ·subst hp;have:D.tup ds=D.tup es:=Rep.inj I (.tup h hl hr) (.tup h' hl' hr');rw [hb.mpr this];exact SeqAt.EqAt.same _
   ·have z1:its.length=xs.length:=rI.length.symm;have z2:its'.length=ys.length:=rI'.length.symm;have key:=SeqAt.RcAt.tuples (A:=A) (s:=s) (e:=eqIt ds es) pt pt' (by omega) (fun j h1 h2=>by
     have g1:j<its.length:=by simpa using h1
     have g2:j<its'.length:=by simpa using h2
     have k1:ds[j]?=some ds[j]:=Fu (by omega);have k2:es[j]?=some es[j]:=Fu (by omega);obtain ⟨w1,e1,rw1⟩:=rI.get (Fu (show j<xs.length by omega));obtain ⟨w2,e2,rw2⟩:=rI'.get (Fu (show j<ys.length by omega));have f1:its.toArray[j]=w1:=by
      have:=Fu g1;rw [e1] at this;simpa using (FF this).symm
     have f2:its'.toArray[j]=w2:=by
      have:=Fu g2;rw [e2] at this;simpa using (FF this).symm
     rw [f1,f2];refine ih j _ _ k1 (Fu (show j<xs.length by omega)) (hdb _ (List.getElem_mem _)) (by show A.units+1+n'<cLine;omega) (hr' j _ _ k2 (Fu (show j<ys.length by omega))) rw1 rw2 ?_;rw [eqIt_iff,k1,k2,Option.some.injEq])
    refine SeqAt.EqAt.of_refs hp ?_;have eb:((List.range (min its.toArray.size its'.toArray.size)).all (eqIt ds es)&&its.toArray.size == its'.toArray.size)=b:=by
     have s1:its.toArray.size=ds.length:=by simp;omega
     have s2:its'.toArray.size=es.length:=by simp;omega
     rw [s1,s2];by_cases hs:ds.length=es.length
     ·rw [hs,Nat.min_self,beq_self_eq_true,Bool.and_true,<-hs];rw [F0,XR hs,hb];exact ⟨fun z=>by rw [z],fun z=>by injection z⟩
     ·have f:(ds.length == es.length)=false:=by simpa using hs
      rw [f,EL];exact (FJ.mpr fun z=>hs (by have:=hb.mp z;injection this with this;rw [this])).symm
    rw [eb] at key;exact key
  | @lst p' ys es h' hl' hr'=>
   obtain rfl:=rv.ref_of;have:b=false:=FJ.mpr fun z=>nomatch (hb.mp z)
   subst this;obtain ⟨its',_,pl,_⟩:=I.list h';exact SeqAt.EqAt.tuple_list pt pl.isList (by omega)
 | @lst p xs ds h hl hr ih=>
  intro n A e y u v b hdb hn r' ru rv hb;obtain rfl:=ru.ref_of;obtain ⟨its,rI,pt,_⟩:=I.list h;cases hdb with
  | @lst n' _ hdb=>
  cases r' with
  | non=>obtain rfl:v=Value.none:=rv;have:b=false:=FJ.mpr fun z=>nomatch (hb.mp z);subst this;exact SeqAt.EqAt.list_none pt.isList (by omega)
  | int j=>obtain ⟨t,rfl⟩:=rv;have:b=false:=FJ.mpr fun z=>nomatch (hb.mp z);subst this;exact SeqAt.EqAt.list_int _ _ pt.isList (by omega)
  | bl c=>obtain rfl:v=Value.bool c:=rv;have:b=false:=FJ.mpr fun z=>nomatch (hb.mp z);subst this;exact SeqAt.EqAt.list_bool _ pt.isList (by omega)
  | str j=>obtain ⟨t,rfl⟩:=rv;have:b=false:=FJ.mpr fun z=>nomatch (hb.mp z);subst this;exact SeqAt.EqAt.list_str _ _ pt.isList (by omega)
  | @tup p' ys es h' hl' hr'=>
   obtain rfl:=rv.ref_of;have:b=false:=FJ.mpr fun z=>nomatch (hb.mp z)
   subst this;obtain ⟨its',_,pl,_⟩:=I.tuple h';exact SeqAt.EqAt.list_tuple pt.isList pl (by omega)
  | @lst p' ys es h' hl' hr'=>
   obtain rfl:=rv.ref_of;obtain ⟨its',rI',pt',_⟩:=I.list h';by_cases hp:p=p'
   ·subst hp;have:D.lst ds=D.lst es:=Rep.inj I (.lst h hl hr) (.lst h' hl' hr');rw [hb.mpr this];exact SeqAt.EqAt.same _
   ·have z1:its.length=xs.length:=rI.length.symm;have z2:its'.length=ys.length:=rI'.length.symm;refine SeqAt.EqAt.of_refs hp ?_;have s1:its.toArray.size=ds.length:=by simp;omega
    have s2:its'.toArray.size=es.length:=by simp;omega
    by_cases hs:ds.length=es.length
    ·have key:=SeqAt.RcAt.lists (A:=A) (s:=s) (e:=eqIt ds es) pt.isList pt'.isList (by rw [s1,s2,hs]) (by omega) (fun j h1 h2=>by
      have g1:j<its.length:=by simpa using h1
      have g2:j<its'.length:=by simpa using h2
      have k1:ds[j]?=some ds[j]:=Fu (by omega);have k2:es[j]?=some es[j]:=Fu (by omega);obtain ⟨w1,e1,rw1⟩:=rI.get (Fu (show j<xs.length by omega));obtain ⟨w2,e2,rw2⟩:=rI'.get (Fu (show j<ys.length by omega));have f1:its.toArray[j]=w1:=by
       have:=Fu g1;rw [e1] at this;simpa using (FF this).symm
      have f2:its'.toArray[j]=w2:=by
       have:=Fu g2;rw [e2] at this;simpa using (FF this).symm
      rw [f1,f2];refine ih j _ _ k1 (Fu (show j<xs.length by omega)) (hdb _ (List.getElem_mem _)) (by show A.units+1+n'<cLine;omega) (hr' j _ _ k2 (Fu (show j<ys.length by omega))) rw1 rw2 ?_;rw [eqIt_iff,k1,k2,Option.some.injEq])
     have eb:(List.range its.toArray.size).all (eqIt ds es)=b:=by
      rw [s1,F0,XR hs,hb];exact ⟨fun z=>by rw [z],fun z=>by injection z⟩
     rw [eb] at key;exact key
    ·have:b=false:=FJ.mpr fun z=>hs (by have:=hb.mp z;injection this with this;rw [this])
     subst this;exact SeqAt.RcAt.lists_lengths pt.isList pt'.isList (by rw [s1,s2];simpa using hs) (by omega)
theorem Vf (I:Inv X pins σ H s) {A:Around}{n:Nat}{ds es:List D}{xs ys:List V}{its its':List Value}(hdb:∀ d∈ds,DB n d) (hn:A.units+1+n<cLine)
  (hl:ds.length=xs.length) (hr:∀ (i:Nat) d x,ds[i]?=some d->xs[i]?=some x->Rep X.K H d x) (hl':es.length=ys.length) (hr':∀ (i:Nat) d x,es[i]?=some d->ys[i]?=some x->Rep X.K H d x)
  (rI:Vals xs its) (rI':Vals ys its'):∀ j (h1:j<its.toArray.size) (h2:j<its'.toArray.size),SeqAt.EqAt A.in1 s its.toArray[j] its'.toArray[j] (eqIt ds es j):=fun j h1 h2=>by
 have z1:its.length=xs.length:=rI.length.symm;have z2:its'.length=ys.length:=rI'.length.symm;have g1:j<its.length:=by simpa using h1
 have g2:j<its'.length:=by simpa using h2
 have k1:ds[j]?=some ds[j]:=Fu (by omega);have k2:es[j]?=some es[j]:=Fu (by omega);obtain ⟨w1,e1,rw1⟩:=rI.get (Fu (show j<xs.length by omega));obtain ⟨w2,e2,rw2⟩:=rI'.get (Fu (show j<ys.length by omega));have f1:its.toArray[j]=w1:=by
  have:=Fu g1;rw [e1] at this;simpa using (FF this).symm
 have f2:its'.toArray[j]=w2:=by
  have:=Fu g2;rw [e2] at this;simpa using (FF this).symm
 rw [f1,f2];refine NY I (hr j _ _ k1 (Fu (show j<xs.length by omega))) (hdb _ (List.getElem_mem _)) (by show A.units+1+n<cLine;omega) (hr' j _ _ k2 (Fu (show j<ys.length by omega))) rw1 rw2 ?_;rw [eqIt_iff,k1,k2,Option.some.injEq]
def LY (K:W.Frag) (neg:Bool):R2:=fun x y H Q=>∃ p r d e b,x=.ref p/\y=.ref r/\Rep K H d x/\Rep K H e y/\DB 30 d/\(b=true↔d=e)/\Q (.bl (if neg then !b else b)) H
theorem Pt (hu:X.A.units+64<cLine):OpR X (compareOp .Eq) (LY X.K false):=by
 intro pins s σ H x y v u Q I rx ry h;obtain ⟨p,r,d,e,b,rfl,rfl,rd,re,hdb,hb,q⟩:=h;obtain rfl:=rx.ref_of;obtain rfl:=ry.ref_of;have q:Q (.bl b) H:=q;cases rd with
 | @tup _ xs ds h1 hl hr=>
  obtain ⟨its,rI,pt,_⟩:=I.tuple h1;cases hdb with
  | tup hdb=>
  cases re with
  | @tup _ ys es h2 hl' hr'=>
   obtain ⟨its',rI',pt',_⟩:=I.tuple h2;refine SeqAt.eq_tupleAt pt pt' (by omega) (Vf I hdb (by omega) hl hr hl' hr' rI rI') ⟨.bl _,H,I,rfl,?_⟩;have z1:its.length=xs.length:=rI.length.symm;have z2:its'.length=ys.length:=rI'.length.symm;have eb:((List.range (min its.toArray.size its'.toArray.size)).all (eqIt ds es)&&its.toArray.size == its'.toArray.size)=b:=by
    have s1:its.toArray.size=ds.length:=by simp;omega
    have s2:its'.toArray.size=es.length:=by simp;omega
    rw [s1,s2];by_cases hs:ds.length=es.length
    ·rw [hs,Nat.min_self,beq_self_eq_true,Bool.and_true,<-hs];rw [F0,XR hs,hb];exact ⟨fun z=>by rw [z],fun z=>by injection z⟩
    ·have f:(ds.length == es.length)=false:=by simpa using hs
     rw [f,EL];exact (FJ.mpr fun z=>hs (by have:=hb.mp z;injection this with this;rw [this])).symm
   rw [eb];exact q
  | @lst _ ys es h2 hl' hr'=>
   obtain ⟨its',rI',pl,_⟩:=I.list h2;have:b=false:=FJ.mpr fun z=>nomatch (hb.mp z)
   subst this;exact SeqAt.RcAt.tuple_list pt pl.isList (by omega) _ _ _ _ ⟨.bl _,H,I,rfl,q⟩
 | @lst _ xs ds h1 hl hr=>
  obtain ⟨its,rI,pt,_⟩:=I.list h1;cases hdb with
  | lst hdb=>
  cases re with
  | @tup _ ys es h2 hl' hr'=>
   obtain ⟨its',rI',pl,_⟩:=I.tuple h2;have:b=false:=FJ.mpr fun z=>nomatch (hb.mp z)
   subst this;exact SeqAt.RcAt.list_tuple pt.isList pl (by omega) _ _ _ _ ⟨.bl _,H,I,rfl,q⟩
  | @lst _ ys es h2 hl' hr'=>
   obtain ⟨its',rI',pt',_⟩:=I.list h2;have z1:its.length=xs.length:=rI.length.symm;have z2:its'.length=ys.length:=rI'.length.symm;have s1:its.toArray.size=ds.length:=by simp;omega
   have s2:its'.toArray.size=es.length:=by simp;omega
   by_cases hs:ds.length=es.length
   ·refine SeqAt.eq_listAt pt.isList pt'.isList (by rw [s1,s2,hs]) (by omega) (Vf I hdb (by omega) hl hr hl' hr' rI rI') ⟨.bl _,H,I,rfl,?_⟩;have eb:(List.range its.toArray.size).all (eqIt ds es)=b:=by
     rw [s1,F0,XR hs,hb];exact ⟨fun z=>by rw [z],fun z=>by injection z⟩
    rw [eb];exact q
   ·have:b=false:=FJ.mpr fun z=>hs (by have:=hb.mp z;injection this with this;rw [this])
    subst this;exact SeqAt.eq_list_lengthsAt pt.isList pt'.isList (by rw [s1,s2];simpa using hs) (by omega) ⟨.bl _,H,I,rfl,q⟩
theorem Po (hu:X.A.units+64<cLine):OpR X (compareOp .NotEq) (LY X.K true):=by
 intro pins s σ H x y v u Q I rx ry h;obtain ⟨p,r,d,e,b,rfl,rfl,rd,re,hdb,hb,q⟩:=h;obtain rfl:=rx.ref_of;obtain rfl:=ry.ref_of;have q:Q (.bl (!b)) H:=q;cases rd with
 | @tup _ xs ds h1 hl hr=>
  obtain ⟨its,rI,pt,_⟩:=I.tuple h1;cases hdb with
  | tup hdb=>
  cases re with
  | @tup _ ys es h2 hl' hr'=>
   obtain ⟨its',rI',pt',_⟩:=I.tuple h2;refine SeqAt.RcNeAt.tuples pt pt' (by omega) (Vf I hdb (by omega) hl hr hl' hr' rI rI') _ _ _ _ ⟨.bl _,H,I,rfl,?_⟩;have z1:its.length=xs.length:=rI.length.symm;have z2:its'.length=ys.length:=rI'.length.symm;have eb:((List.range (min its.toArray.size its'.toArray.size)).all (eqIt ds es)&&its.toArray.size == its'.toArray.size)=b:=by
    have s1:its.toArray.size=ds.length:=by simp;omega
    have s2:its'.toArray.size=es.length:=by simp;omega
    rw [s1,s2];by_cases hs:ds.length=es.length
    ·rw [hs,Nat.min_self,beq_self_eq_true,Bool.and_true,<-hs];rw [F0,XR hs,hb];exact ⟨fun z=>by rw [z],fun z=>by injection z⟩
    ·have f:(ds.length == es.length)=false:=by simpa using hs
     rw [f,EL];exact (FJ.mpr fun z=>hs (by have:=hb.mp z;injection this with this;rw [this])).symm
   rw [eb];exact q
  | @lst _ ys es h2 hl' hr'=>
   obtain ⟨its',rI',pl,_⟩:=I.list h2;have:b=false:=FJ.mpr fun z=>nomatch (hb.mp z)
   subst this;exact SeqAt.RcNeAt.tuple_list pt pl.isList (by omega) _ _ _ _ ⟨.bl _,H,I,rfl,q⟩
 | @lst _ xs ds h1 hl hr=>
  obtain ⟨its,rI,pt,_⟩:=I.list h1;cases hdb with
  | lst hdb=>
  cases re with
  | @tup _ ys es h2 hl' hr'=>
   obtain ⟨its',rI',pl,_⟩:=I.tuple h2;have:b=false:=FJ.mpr fun z=>nomatch (hb.mp z)
   subst this;exact SeqAt.RcNeAt.list_tuple pt.isList pl (by omega) _ _ _ _ ⟨.bl _,H,I,rfl,q⟩
  | @lst _ ys es h2 hl' hr'=>
   obtain ⟨its',rI',pt',_⟩:=I.list h2;have z1:its.length=xs.length:=rI.length.symm;have z2:its'.length=ys.length:=rI'.length.symm;have s1:its.toArray.size=ds.length:=by simp;omega
   have s2:its'.toArray.size=es.length:=by simp;omega
   by_cases hs:ds.length=es.length
   ·refine SeqAt.RcNeAt.lists pt.isList pt'.isList (by rw [s1,s2,hs]) (by omega) (Vf I hdb (by omega) hl hr hl' hr' rI rI') _ _ _ _ ⟨.bl _,H,I,rfl,?_⟩;have eb:(List.range its.toArray.size).all (eqIt ds es)=b:=by
     rw [s1,F0,XR hs,hb];exact ⟨fun z=>by rw [z],fun z=>by injection z⟩
    rw [eb];exact q
   ·have:b=false:=FJ.mpr fun z=>hs (by have:=hb.mp z;injection this with this;rw [this])
    subst this;exact SeqAt.RcNeAt.lists_lengths pt.isList pt'.isList (by rw [s1,s2];simpa using hs) (by omega) _ _ _ _ ⟨.bl _,H,I,rfl,q⟩
def KR (K:W.Frag):R2:=fun x y H Q=>rEq x y H Q∨LY K false x y H Q
def KP (K:W.Frag):R2:=fun x y H Q=>rNe x y H Q∨LY K true x y H Q
theorem Pu (hu:X.A.units+64<cLine):OpR X (compareOp .Eq) (KR X.K):=op_eq.or (Pt hu)
theorem Pp (hu:X.A.units+64<cLine):OpR X (compareOp .NotEq) (KP X.K):=op_ne.or (Po hu)
end
theorem R0 {i:Int}:KR K (.int i) (.int j) H Q=Q (.bl (decide (i=j))) H:=by
 refine Eq.trans ?_ Sk;exact propext ⟨fun h=>h.resolve_right (fun ⟨_,_,_,_,_,e,_⟩=>nomatch e),.inl⟩
theorem RR {i:Int}:KP K (.int i) (.int j) H Q=Q (.bl (!decide (i=j))) H:=by
 refine Eq.trans ?_ T7;exact propext ⟨fun h=>h.resolve_right (fun ⟨_,_,_,_,_,e,_⟩=>nomatch e),.inl⟩
theorem RZ {i j:Str}:KR K (.str i) (.str j) H Q=Q (.bl (decide (i=j))) H:=by
 refine Eq.trans ?_ Sj;exact propext ⟨fun h=>h.resolve_right (fun ⟨_,_,_,_,_,e,_⟩=>nomatch e),.inl⟩
theorem RQ {i j:Str}:KP K (.str i) (.str j) H Q=Q (.bl (!decide (i=j))) H:=by
 refine Eq.trans ?_ T4;exact propext ⟨fun h=>h.resolve_right (fun ⟨_,_,_,_,_,e,_⟩=>nomatch e),.inl⟩
theorem R1 {i j:Bool}:KR K (.bl i) (.bl j) H Q=Q (.bl (decide (i=j))) H:=by
 refine Eq.trans ?_ Sm;exact propext ⟨fun h=>h.resolve_right (fun ⟨_,_,_,_,_,e,_⟩=>nomatch e),.inl⟩
theorem RS {i j:Bool}:KP K (.bl i) (.bl j) H Q=Q (.bl (!decide (i=j))) H:=by
 refine Eq.trans ?_ T8;exact propext ⟨fun h=>h.resolve_right (fun ⟨_,_,_,_,_,e,_⟩=>nomatch e),.inl⟩
theorem UX {r:Addr}{d e:D}{b:Bool}(h1:Rep K H d (.ref p)) (h2:Rep K H e (.ref r)) (hd:DB 30 d) (hb:b=true↔d=e) (q:Q (.bl b) H):KR K (.ref p) (.ref r) H Q:=.inr ⟨p,r,d,e,b,rfl,rfl,h1,h2,hd,hb,q⟩
theorem WW {r:Addr}{d e:D}{b:Bool}(h1:Rep K H d (.ref p)) (h2:Rep K H e (.ref r)) (hd:DB 30 d) (hb:b=true↔d=e) (q:Q (.bl (!b)) H):KP K (.ref p) (.ref r) H Q:=.inr ⟨p,r,d,e,b,rfl,rfl,h1,h2,hd,hb,q⟩
abbrev fr (t b:Int):D:=.tup [.int t,.int b]
theorem Pc (h:SqT K H p [.int t,.int b]):Rep K H (fr t b) (.ref p):=by
 refine .tup h rfl fun i d x e1 e2=>?_
 match i,e1,e2 with
 | 0,e1,e2=>cases e1;cases e2;exact .int _
 | 1,e1,e2=>cases e1;cases e2;exact .int _
 | k+2,e1,e2=>simp at e1
theorem RC:DB (n+1) (fr t b):=.tup fun d hd=>by
 simp at hd;rcases hd with rfl | rfl <;> exact .int _
end L2
namespace L2
theorem ML {a:Int}(ha:0<=a) (hb:0<b):Int.gcd b (a % b)=Int.gcd a b:=by
 obtain ⟨n,rfl⟩:=EI ha;obtain ⟨m,rfl⟩:=EI (Int.le_of_lt hb);show Nat.gcd ((m:Int).natAbs) (((n:Int) % (m:Int)).natAbs)=Nat.gcd (n:Int).natAbs (m:Int).natAbs;rw [<-Int.natCast_emod,Int.natAbs_natCast,Int.natAbs_natCast,Int.natAbs_natCast,Nat.gcd_comm n m,Nat.gcd_comm m (n % m)];exact (Nat.gcd_rec m n).symm
theorem MK {a:Int}(ha:0<=a):(Int.gcd a 0:Int)=a:=by
 show ((Nat.gcd a.natAbs 0:Nat):Int)=a;rw [Nat.gcd_zero_right];omega
theorem BB (a b:Int):Int.gcd (if a<0 then -a else a) (if b<0 then -b else b)=Int.gcd a b:=by
 have e:∀ z:Int,(if z<0 then -z else z).natAbs=z.natAbs:=fun z=>by split <;> omega
 show Nat.gcd _ _=Nat.gcd _ _;rw [e,e]
theorem Lo (a:Int):0<=(if a<0 then -a else a):=by split <;> omega
def fsg (t b:Int):Int:=if b<0 then -(Int.gcd t b:Int) else (Int.gcd t b:Int)
def fnum (t b:Int):Int:=t.fdiv (fsg t b)
def fden (t b:Int):Int:=b.fdiv (fsg t b)
theorem Gm (hb:b≠0):0<(Int.gcd t b:Int):=by
 have h:0<Nat.gcd t.natAbs b.natAbs:=Nat.gcd_pos_of_pos_right _ (by omega);exact Int.natCast_pos.mpr h
theorem Vk (hb:b≠0):fsg t b≠0:=by
 have:=Gm (t:=t) hb;unfold fsg;split <;> omega
theorem PR:fsg t b ∣ t:=by
 unfold fsg;split
 ·exact Int.neg_dvd.mpr (Int.gcd_dvd_left ..)
 ·exact Int.gcd_dvd_left ..
theorem PQ:fsg t b ∣ b:=by
 unfold fsg;split
 ·exact Int.neg_dvd.mpr (Dn ..)
 ·exact Dn ..
theorem JF {x d:Int}(h:d ∣ x):d*x.fdiv d=x:=by
 obtain ⟨c,rfl⟩:=h;by_cases hd:d=0
 ·subst hd;simp
 ·rw [Int.mul_fdiv_cancel_left _ hd]
theorem Vl:fsg t b*fnum t b=t:=JF PR
theorem Ji:fsg t b*fden t b=b:=JF PQ
theorem MT (hb:b≠0):0<fden t b:=by
 have h:=Ji (t:=t) (b:=b);have hg:=Gm (t:=t) hb;by_cases hn:b<0
 ·have e:fsg t b<0:=by unfold fsg;rw [Fs hn];omega
  rcases Int.lt_trichotomy (fden t b) 0 with z | z | z
  ·have:=Int.mul_pos_of_neg_of_neg e z;omega
  ·rw [z] at h;simp at h;omega
  ·exact z
 ·have e:0<fsg t b:=by unfold fsg;rw [Fl hn];omega
  rcases Int.lt_trichotomy (fden t b) 0 with z | z | z
  ·have:=Int.mul_neg_of_pos_of_neg e z;omega
  ·rw [z] at h;simp at h;omega
  ·exact z
theorem BK (hb:b≠0):fnum t b*b=t*fden t b:=by
 have h1:=Vl (t:=t) (b:=b);have h2:=Ji (t:=t) (b:=b);have:fnum t b*(fsg t b*fden t b)=fsg t b*fnum t b*fden t b:=by
  rw [<-EN,Int.mul_comm (fnum t b)]
 rw [h1,h2] at this;exact this
theorem BE (hb:b≠0):(fnum t b).natAbs<=t.natAbs:=by
 have h:(fsg t b*fnum t b).natAbs=t.natAbs:=by rw [Vl]
 rw [EH] at h;have g:=Vk (t:=t) hb;have:1<=(fsg t b).natAbs:=by omega
 calc (fnum t b).natAbs=1*(fnum t b).natAbs:=by omega
  _<=(fsg t b).natAbs*(fnum t b).natAbs:=Nat.mul_le_mul_right _ this
  _=t.natAbs:=h
theorem BJ (hb:b≠0):(fden t b).natAbs<=b.natAbs:=by
 have h:(fsg t b*fden t b).natAbs=b.natAbs:=by rw [Ji]
 rw [EH] at h;have g:=Vk (t:=t) hb;have:1<=(fsg t b).natAbs:=by omega
 calc (fden t b).natAbs=1*(fden t b).natAbs:=by omega
  _<=(fsg t b).natAbs*(fden t b).natAbs:=Nat.mul_le_mul_right _ this
  _=b.natAbs:=h
theorem Gn:(fsg t b).natAbs=Int.gcd t b:=by unfold fsg;split <;> omega
theorem MO (hb:b≠0):(fsg t b).natAbs<=b.natAbs:=by
 rw [Gn];show Nat.gcd t.natAbs b.natAbs<=b.natAbs;exact Nat.gcd_le_right _ (by omega)
theorem MV (hb:b≠0):Int.gcd (fnum t b) (fden t b)=1:=by
 have hg:0<Nat.gcd t.natAbs b.natAbs:=Nat.gcd_pos_of_pos_right _ (by omega);have e1:(fsg t b).natAbs*(fnum t b).natAbs=t.natAbs:=by rw [<-EH,Vl]
 have e2:(fsg t b).natAbs*(fden t b).natAbs=b.natAbs:=by rw [<-EH,Ji]
 have e3:(fsg t b).natAbs=Nat.gcd t.natAbs b.natAbs:=Gn;rw [e3] at e1 e2;have h:=Nat.gcd_mul_left (Nat.gcd t.natAbs b.natAbs) (fnum t b).natAbs (fden t b).natAbs;rw [e1,e2] at h;show Nat.gcd _ _=1;have h':Nat.gcd t.natAbs b.natAbs*1=Nat.gcd t.natAbs b.natAbs*Nat.gcd (fnum t b).natAbs (fden t b).natAbs:=by rw [Nat.mul_one];exact h
 exact (Nat.eq_of_mul_eq_mul_left hg h').symm
theorem natAbs_fdiv_le':∀ a b:Int,(a.fdiv b).natAbs<=a.natAbs:=fun a b=>by
 have h:=PySem.natAbs_fdiv_le a b;exact h
theorem Bd.fnum {m:Nat}{t b:Int}(h:Bd m t) (hb:b≠0):Bd m (fnum t b):=h.le (BE hb)
theorem Bd.fden {m:Nat}{t b:Int}(h:Bd m b) (hb:b≠0):Bd m (fden t b):=h.le (BJ hb)
theorem Bd.fdiv {a:Int}(h:Bd m a):Bd m (a.fdiv b):=h.le (natAbs_fdiv_le' a b)
theorem CDivB.small (h0:j≠0) (h:j.natAbs<2 ^ 64):CDivB j:=⟨h0,(show Bd 64 j from h).mono (by decide)⟩
theorem at3 (a b c z:Int):∃ n:Int,atI [V.int a,V.int b,V.int c] (z % 3)=some (.int n)/\(n=a∨n=b∨n=c):=by
 have h1:=FU z (b:=3) (by decide);have h2:=FW z (b:=3) (by decide);generalize z % 3=k at *;have:k=0∨k=1∨k=2:=by omega
 rcases this with rfl | rfl | rfl
 ·exact ⟨a,rfl,.inl rfl⟩
 ·exact ⟨b,rfl,.inr (.inl rfl)⟩
 ·exact ⟨c,rfl,.inr (.inr rfl)⟩
theorem VU {a c d:Int}(hb:0<b) (hd:0<d) (g1:Int.gcd a b=1) (g2:Int.gcd c d=1) (h:a*d=c*b):a=c/\b=d:=by
 have c1:Nat.Coprime b.natAbs a.natAbs:=by rw [Nat.coprime_comm];exact g1
 have c2:Nat.Coprime d.natAbs c.natAbs:=by rw [Nat.coprime_comm];exact g2
 have hn:a.natAbs*d.natAbs=c.natAbs*b.natAbs:=by rw [<-EH,<-EH,h]
 have d1:b.natAbs ∣ d.natAbs:=c1.dvd_of_dvd_mul_left (by rw [hn];exact Nat.dvd_mul_left _ _);have d2:d.natAbs ∣ b.natAbs:=c2.dvd_of_dvd_mul_left (by rw [<-hn];exact Nat.dvd_mul_left _ _);have e:b.natAbs=d.natAbs:=Nat.dvd_antisymm d1 d2;have e2:b=d:=by omega
 subst e2;exact ⟨Int.eq_of_mul_eq_mul_right (by omega) h,rfl⟩
end L2
set_option maxHeartbeats 4000000
namespace L2
open PySem PySem.Spec PyProof.Rows
structure X6 (X:Cx) (scope:Scope) (cl:List (Str×Addr)) (N:List Str) (caps:List (Option Nat)):Prop where
 clos:closureFor scope X.env=pure cl
 kind:scope.kind=.function
 nocell:∀ y∈scope.names,y.2≠.cell
 names:∀ y∈scope.names,y.2=.local->scope.names.lookup y.1=some .local
 sub:∀ x c,cl.lookup x=some c->X.env.cells.lookup x=some c
 has:∀ x,((relabel scope X.env).names.lookup x=some .cell∨(relabel scope X.env).names.lookup x=some .free)->∃ c,cl.lookup x=some c
 cap:∀ (i j:Nat) x,N[i]?=some x->caps[i]?=some (some j)->X.N[j]?=some x/\X.env.kindOf x=some .cell/\(relabel scope X.env).names.lookup x=some .cell
 len:caps.length=N.length
def WN (caps:List (Option Nat)) (σ:St):St:=caps.map fun o=>match o with | some j=>(σ[j]?).join | none=>none
abbrev blk (X:Cx) (scope:Scope) (cl:List (Str×Addr)) (N:List Str) (C:Addr) (s:Shared) (H:Hp) (ex:List Addr):Cx:=
 { X with N:=N,s₀:=s,H₀:=H,env:=compEnvC scope cl C X.env,outer:=X.stack,stack:=X.stack,ex:=ex,fn:=fun x=>(cl.lookup x).isNone,pn:=[],xe:=fun _ _=>False }
section
variable {X:Cx} {pins:List (Addr×Obj)} {σ:St} {H:Hp} {s:Shared} {scope:Scope} {cl:List (Str×Addr)} {N:List Str} {caps:List (Option Nat)} {fp:List Addr} {C:Addr}
theorem P3 (I:Inv X pins σ H s) (O:X6 X scope cl N caps) (hf:∀ b∈fp,XC X pins H b) (hC:s.heap.objs.size<=C) (hlt:∀ b∈fp,b<s.heap.objs.size):(blk X scope cl N C s H fp).Ok where
 mod:=I.ok.mod
 kind:=O.kind
 glob:=I.ok.glob
 blt:=I.ok.blt
 above:=hC
 inj:=fun x y c h1 h2=>I.ok.inj x y c (O.sub x c h1) (O.sub y c h2)
 has:=fun x h=>O.has x h
 cab:=fun x c h1 h2=>by
  have h1:(cl.lookup x).isNone=true:=h1;have h2:cl.lookup x=some c:=h2;rw [h2] at h1;cases h1
 hd:=I.ok.hd
 frames:=I.ok.frames
 stk:=.inl rfl
 exf:=fun b hb=>⟨FI (FP (hlt b hb) hC),fun x c h=>(hf b hb).2.2.2.2.1 x c (O.sub x c h)⟩
 bs:=I.bs
 bsz:=FQ I.ok.bsz I.sz
 noex:=fun b o e hb=>by
  rcases (hf b hb).2.2.2.1 with z | z
  ·exact I.ok.noex b o e z
  ·exact absurd (FP (FP (Fy e) I.ok.bsz) z) (FM _)
 exfs:=fun b hb z=>by
  rcases FS.mp (I.stkSub b z) with q | q
  ·exact (hf b hb).2.1 q
  ·exact (hf b hb).2.2.1 q
 funs:=I.stack
 frf:=I.stkFree
theorem Lc (h:(WN caps σ)[i]?=some (some v)):∃ j,caps[i]?=some (some j)/\σ[j]?=some (some v):=by
 unfold WN at h;rw [Fx] at h;cases e:caps[i]? with
 | none=>rw [e] at h;cases h
 | some o=>
  rw [e] at h;cases o with
  | none=>cases h
  | some j=>
   refine ⟨j,rfl,?_⟩;have h:(σ[j]?).join=some v:=FF h;cases e2:σ[j]? with
   | none=>rw [e2] at h;cases h
   | some q=>rw [e2] at h;rw [show q=some v from h]
theorem WS (I:Inv X pins σ H s) (O:X6 X scope cl N caps) (hf:∀ b∈fp,XC X pins H b) (hlt:∀ b∈fp,b<s.heap.objs.size) {h':Heap}{t':Nat}{m:Str->Option Value}(keep:∀ b o,s.heap.get? b=some o->h'.get? b=some o) (hC:s.heap.objs.size<=C) (ns:h'.Ns C m) :
  Inv (blk X scope cl N C s H fp) [] (WN caps σ) H { s with heap:=h',toks:=t' }:=by
 refine ⟨P3 I O hf hC hlt,rfl,I.bare,Un.kept keep,⟨m,ns,fun i x v h1 h2 h3=>?_⟩,fun x c e=>?_,I.hok.fresh hC,fun x c e=>I.freeC x c (O.sub x c e),fun p hp=>absurd (show p∈([]:List (Addr×Obj)) from hp) (by simp),I.hok.kept keep,?_⟩
 ·obtain ⟨j,e1,e2⟩:=Lc h2;obtain ⟨k1,k2,k3⟩:=O.cap i j x h1 e1;obtain ⟨m0,_,hl⟩:=I.loc;obtain ⟨u,r,l⟩:=hl j x v k1 e2 (.inr (.inl k2));refine ⟨u,r,?_⟩;rcases l with ⟨z,_⟩ | ⟨_,c,e,z⟩
  ·rw [k2] at z;cases z
  ·obtain ⟨c',e'⟩:=O.has x (.inl k3);have:=O.sub x c' e';rw [e] at this;cases this;exact .inr ⟨.inl k3,c,e',z.keeps keep⟩
 ·obtain ⟨v,z⟩:=I.cell x c (O.sub x c e);exact ⟨v,z.keeps keep⟩
 ·show (WN caps σ).length=N.length;unfold WN;rw [Fo,O.len]
theorem Vv (I:Inv X pins σ H s) (hf:∀ b∈fp,XC X pins H b) {pins':List (Addr×Obj)}{σ':St}{H':Hp}{s':Shared}{h':Heap}(J:Inv (blk X scope cl N C s H fp) pins' σ' H' s') (hC:s.heap.objs.size<=C) (sb:Heap.SameBut C s'.heap h') :
  Inv X pins σ H' { s' with heap:=h' }:=by
 have ne:∀ b o,s.heap.get? b=some o->b≠C:=fun b o e=>FI (FP (Fy e) hC)
 have u:Un (frs X.stack) fp H H' s.heap s'.heap:=J.base;have hC':H' C=none:=J.free;refine I.call' (s':={ s' with heap:=h' }) (ch:=fp) J.os ⟨fun b o e n h1 h2=>(sb.2 b (ne b o e)).trans (u.keep b o e n h1 h2),fun b o e n h1 h2=>?_,u.free,fun b o e h1=>?_,u.tups,u.frzs,u.tbls⟩ (fun b o e=>?_) J.bare fun b hb=>(hf b hb).2.2.2 |> fun z=>⟨z.1,(hf b hb).2.1,z.2.1,z.2.2⟩
 ·obtain ⟨sl,q⟩:=u.slot b o e n h1 h2;exact ⟨sl,(sb.2 b (ne b o e)).trans q⟩
 ·obtain ⟨o',q⟩:=u.there b o e h1;exact ⟨o',(sb.2 b (ne b o e)).trans q⟩
 ·refine (J.hok b o e).stay (fun c w' hc q=>(sb.2 c ?_).trans q) (fun _ q=>q) fun _ _ q=>q
  rintro rfl;rcases hc with rfl | hc
  ·rw [hC'] at e;cases e
  ·rw [hC'] at hc;cases hc
theorem Inv.track {D:Addr}{o:HO}(I:Inv X pins σ H s) (h0:X.s₀.heap.objs.size<=D) (hn:H D=none) (hL:D≠X.env.locals) (h2:∀ x c,X.env.cells.lookup x=some c->c≠D) (h3:∀ p∈X.pn++pins,p.1≠D) (new:ObjOk X.prog X.w (upd H D o) s.heap D o) :
  Inv X pins σ (upd H D o) s:=by
 have ne:∀ b u,H b=some u->b≠D:=fun b u e=>Zc e hn
 have:=I.step (h':=s.heap) (H':=upd H D o) (g':=s.gens) (t':=s.toks) (d':=s.drawn) (ch:=[D]) (fun b hb=>?_) (fun b o _ _ _ e _=>e) (fun b o _ _ _ e _=>⟨o.slots,e⟩) (fun b u hb _ n=>by rw [Qj (by simpa using hb)];exact n) (fun b o _ e=>⟨o,e⟩)
  (fun b xs e=>by rw [Qj (ne b _ e)];exact e) (fun b o' u e=>by rw [Qj (ne b _ e)];exact e) (fun b ps e=>⟨#[],by rw [Qj (ne b _ e),e];simp⟩) (fun _ z=>z) (fun b u e=>?_) I.bare
 ·exact this
 ·have e:b=D:=by simpa using hb
  subst e;exact ⟨.inr h0,hL,h2,h3⟩
 ·by_cases hb:b=D
  ·subst hb;rw [Qe] at e;cases e;exact new
  ·rw [Qj hb] at e;exact (I.hok b u e).stay (fun _ _ _ q=>q) (fun c q=>by rw [Qj (ne c _ q)];exact q) fun c xs q=>by rw [Qj (ne c _ q)];exact q
end
def PTs (X:Cx) (ifs:List Expr) (t:TT):Prop:=
 ∀ (pins:List (Addr×Obj)) (s:Shared) (σ:St) (H:Hp) (Q:Bool->Hp->Prop),Inv X pins σ H s->t σ H Q ->
  wpAny (model X.prog X.w) X.A (forIn ifs true fun c r=>if r=true then do let ok <-isTrue c X.env (eval c X.env);pure (ForInStep.yield ok) else pure (ForInStep.yield r)) (TP X pins σ Q) X.xe s
def Ss:TT:=fun _ H Q=>Q true H
theorem QW:PTs X [] Ss:=fun _ _ _ H _ I h=>wpAny_tests_nil ⟨H,I,h⟩
theorem Xa {c:Expr}{t:TT}(h:PT X c t):PTs X [c] t:=fun pins s σ H Q I q=>wpAny_tests_one (h pins s σ H Q I q)
def Kz (J:It) (g:TG) (tt:TT) (te:TE) (σ0:St) (H1:Hp) (Q:VK):Prop:=
 ∃ W:Nat->Nat->List V->St->Hp->Prop,(∃ m,W 0 m [] σ0 H1)/\∀ i m acc σ H,W i m acc σ H ->
  (J.stop i H/\∀ p,H p=none->Q (.ref p) (upd H p (.lst acc))) ∨
  (J.go i H/\acc.length<sizeLine/\∀ x H',J.yld i H x H'->g x σ H' fun σ2 H2=>tt σ2 H2 fun b H3=>
   if b=true then te σ2 H3 fun v H4=>∃ m',m'<m/\W (i+1) m' (acc++[v]) σ2 H4 else ∃ m',m'<m/\W (i+1) m' acc σ2 H3)
def Kh (caps:List (Option Nat)) (wi:TI) (g:TG) (tt:TT) (te:TE):TE:=fun σ H Q=>wi σ H fun J H1=>Kz J g tt te (WN caps σ) H1 Q
theorem X3 {R:Result->Shared->Prop}{target:Expr}{it acc:Value}(I:Nat->Shared->Prop)
  (turn:∀ n s,I n s->wpAny (model prog w) A (pyNext it) (fun r s₁=>match r with
   | none=>R (.ok .next) s₁
   | some v=>wpAny (model prog w) A (letOwnedTupleGo target it v) (fun _ s₀=>wpAny (model prog w) A (assign target env v) (fun _ s₂=>
     wpAny (model prog w) A (forIn ifs true fun c r=>if r=true then do let ok <-isTrue c env (eval c env);pure (ForInStep.yield ok) else pure (ForInStep.yield r)) (fun ok s₃=>
      if ok=true then wpAny (model prog w) A (eval elt env) (fun x s₄=>
       wpAny (model prog w) A (call (.builtin "list.append") [acc,x]) (fun _ s₅=>∃ m,m<n/\I m s₅) (fun _ _=>False) s₄) (fun _ _=>False) s₃
      else ∃ m,m<n/\I m s₃) (fun _ _=>False) s₂) (fun _ _=>False) s₀) (fun _ _=>False) s₁) (fun _ _=>False) s)
  (n:Nat) (h:I n s):codeAny (model prog w) A (.compLoop (.ListComp elt [⟨target,iter,ifs,0⟩] scope pos) 0 it acc env) R s:=by
 refine codeAny_loop rfl I (fun n s hI=>?_) n h;show wpAny _ A ((compTurn (.ListComp elt [⟨target,iter,ifs,0⟩] scope pos) 0 it acc env).onRaise (fun x=>do noteFrame x env;theTreesLotGoes x)) _ _ s;refine wpAny_noted ?_;rw [compTurn_list];refine Fk (wpAny_standAt (Fk (FV (turn n s hI) (fun r s₁ h₁=>?_) fun _ _ h'=>False.elim h')));cases r with
 | none=>exact Fw h₁
 | some v=>
  refine Fk (FV h₁ (fun _ s₀ h₀=>?_) fun _ _ h'=>False.elim h');refine Fk (FV h₀ (fun _ s₂ h₂=>Fk (FV h₂ (fun ok s₃ h₃=>?_) fun _ _ h'=>False.elim h')) fun _ _ h'=>False.elim h');cases ok with
  | false=>exact Fw ⟨rfl,h₃⟩
  | true=>
   exact Fk (Fk (FV h₃ (fun x s₄ h₄=>Fk (FV h₄ (fun _ s₅ h₅=>Fw (Fw ⟨rfl,h₅⟩)) fun _ _ h'=>False.elim h')) fun _ _ h'=>False.elim h'))
section
variable {X:Cx}
theorem XM {cl:List (Str×Addr)}{wi:TI}(hc:X.calm=true) (O:X6 X scope cl N caps)
  (hi:PI X tg iter wi) (hg:∀ C s H ex,PG (blk X scope cl N C s H ex) tg g) (ht:∀ C s H ex,PTs (blk X scope cl N C s H ex) ifs tt) (he:∀ C s H ex,PE (blk X scope cl N C s H ex) elt te)
  (hs:∀ v,foldedSetIterable iter X.env v=pure v:=by intro _;rfl):PE X (.ListComp elt [⟨tg,iter,ifs,0⟩] scope pos) (Kh caps wi g tt te):=by
 intro pins s σ H Q I h;rw [eval_ListComp];refine wpAny_comprehension_free (use:=none) rfl hs O.clos O.kind O.names (thn (hi pins s σ H _ I h) fun v s1 h1=>thn h1 fun itv s2 h2=>?_);obtain ⟨it,fp,tn,J,H2,e,I2,T,st2,f2,W,⟨m0,w0⟩,turn⟩:=h2;subst e;refine wpAny_newObj_type (wpAny_newFunctionEnv O.nocell (by intro y hy;simp at hy) (fun h₁ hns₁ hsb₁=>?_) O.kind);dsimp only at hns₁ hsb₁ ⊢;generalize hH2:s2.heap.push { cls:=.type "list",dict:=none,data:=.seq ([]:List Value).toArray }=P2 at hns₁ hsb₁ ⊢;have hC:P2.objs.size=s2.heap.objs.size+1:=by rw [<-hH2,Heap.size_push]
 have hDC:s2.heap.objs.size≠P2.objs.size:=by rw [hC];exact FI (De _)
 have hCle:s2.heap.objs.size<=P2.objs.size:=by rw [hC];exact EA _
 have old:∀ b o,s2.heap.get? b=some o->h₁.get? b=some o:=fun b o e=>hsb₁.extBut b o (FI (FP (Fy e) hCle)) (FG _ (hH2 ▸ FG _ e))
 have hacc:h₁.PlainList s2.heap.objs.size #[]:=⟨_,hsb₁.extBut _ _ hDC (FG _ (hH2 ▸ FY _ rfl))⟩
 have hlt:∀ b∈fp,b<s2.heap.objs.size:=fun b hb=>by
  obtain ⟨o,e,_⟩:=T.obj 0 _ st2 b hb;exact Fy e
 generalize hCC:P2.objs.size=C at *;generalize hDD:s2.heap.objs.size=Dl at *;have I3:Inv (blk X scope cl N C s2 H2 fp) [] (WN caps σ) H2 { s2 with heap:=h₁,toks:=s2.toks+([]:List (Str×Value)).length }:=WS I2 O f2 (by rw [hDD];exact hlt) old (by rw [hDD];exact hCle) hns₁;have st3:tn 0 h₁:=T.keep 0 _ _ st2 fun b _ o e=>old b o e
 have hDn:H2 Dl=none:=I2.hok.fresh (by rw [hDD];exact Ft _);have nfs:∀ b∈fp,b ∉ frs X.stack:=fun b hb z=>by
  rcases FS.mp (I2.stkSub b z) with q | q
  ·exact (f2 b hb).2.1 q
  ·exact (f2 b hb).2.2.1 q
 have stat:∀ {H':Hp},(∀ b∈fp,H' b=none)->∀ b∈fp,XC (blk X scope cl N C s2 H2 fp) [] H' b:=fun hn b hb=>
  ⟨hn b hb,FI (FP (hlt b hb) hCle),nfs b hb,.inl hb,fun x c e=>(f2 b hb).2.2.2.2.1 x c (O.sub x c e),fun p hp=>absurd (show p∈([]:List (Addr×Obj)) from hp) (by simp)⟩
 have cellD:∀ x c,cl.lookup x=some c->c≠Dl:=fun x c e z=>by
  obtain ⟨v,q⟩:=I2.cell x c (O.sub x c e);have:=q.lt;rw [hDD] at this;exact FM _ (z ▸ this)
 have nfsD:Dl ∉ frs X.stack:=fun z=>by
  have:=I2.stkSub Dl z;rcases FS.mp this with q | q
  ·have:=I2.lt;rw [hDD] at this;exact FM _ (q ▸ this)
  ·exact I2.nofs (by rw [hDD];exact Ft _) q
 have statD:∀ {H':Hp},H' Dl=none->XC (blk X scope cl N C s2 H2 fp) [] H' Dl:=fun hn=>⟨hn,hDC,nfsD,.inr (Nat.le_of_eq hDD),cellD,fun p hp=>absurd (show p∈([]:List (Addr×Obj)) from hp) (by simp)⟩
 have loop:∀ s₃:Shared,s₃={ s2 with heap:=h₁,toks:=s2.toks+([]:List (Str×Value)).length } ->
   codeAny (model X.prog X.w) X.A (.compLoop (.ListComp elt [⟨tg,iter,ifs,0⟩] scope pos) 0 (.ref it) (.ref Dl) (compEnvC scope cl C X.env))
    (compPost (model X.prog X.w) X.A X.xe none (EP X pins σ Q) (.ref Dl) C) s₃:=by
  intro s₃ hs3;subst hs3;refine X3 (fun n s'=>∃ i σ' H' acc its,Inv (blk X scope cl N C s2 H2 fp) [] σ' H' s'/\tn i s'.heap/\(∀ b∈fp,H' b=none)/\H' Dl=none/\Vals acc its/\s'.heap.PlainList Dl its.toArray/\acc.length<=sizeLine/\W i n acc σ' H') ?_ m0
   ⟨0,WN caps σ,H2,[],[],I3,st3,fun b hb=>(f2 b hb).1,hDn,.nil,hacc,FZ _,w0⟩
  rintro n s3 ⟨i,σ3,H3,acc,its,J3,st3,fr3,d3,va,pl3,la,w3⟩;rcases turn i n acc σ3 H3 w3 with ⟨stop,qn⟩ | ⟨go,la2,step⟩
  ·refine thn (T.done (blk X scope cl N C s2 H2 fp) rfl rfl rfl hc i [(Dl,{ cls:=.type "list",data:=.seq its.toArray (Classical.choose pl3) })] s3 σ3 H3 (fun _ _=>False) (J3.pins_of fun p hp=>?_) (fun b hb=>?_) st3 stop) fun r s4 ⟨hr,J4⟩=>?_
   ·have e:=FE.mp (show p∈[_] from hp);subst e;exact ⟨Df pl3,d3,hDC,nfsD,fun v z=>by cases z⟩
   ·obtain ⟨q1,q2,q3,q4,q5,q6⟩:=stat fr3 b hb;refine ⟨q1,q2,q3,q4,q5,fun p hp z=>?_⟩;have e:=FE.mp (show p∈[_] from hp);subst e;exact absurd (hlt b hb) (by rw [<-z];exact FM _)
   ·subst hr;obtain ⟨m,hn,_⟩:=J4.loc;refine ⟨m,hn,fun h' sb=>?_⟩;have pD:=J4.pin (Dl,_) (by simp;rfl);have J5:=Vv I2 f2 J4 (by rw [hDD];exact hCle) sb;refine ⟨.ref Dl,upd H3 Dl (.lst acc),?_,rfl,qn _ d3⟩;refine J5.track (o:=.lst acc) (FQ I2.sz (by rw [hDD];exact Ft _)) d3 (fun z=>by
     have:=I2.lt;rw [hDD,<-z] at this;exact FM _ this) (fun y c e z=>by
     obtain ⟨v,q⟩:=I2.cell y c e;have:=q.lt;rw [hDD] at this;exact FM _ (z ▸ this)) (fun p hp z=>by
     have:=Fy (I2.pin p hp).1;rw [hDD,z] at this;exact FM _ this) ⟨la,its,_,va,(sb.2 Dl hDC).trans pD.1⟩
  ·refine thn (T.item (blk X scope cl N C s2 H2 fp) rfl rfl rfl hc i [(Dl,{ cls:=.type "list",data:=.seq its.toArray (Classical.choose pl3) })] s3 σ3 H3 (fun _ _=>False) (J3.pins_of fun p hp=>?_) (fun b hb=>?_) st3 go) fun r s4 ⟨u,hr,h4⟩=>?_
   ·have e:=FE.mp (show p∈[_] from hp);subst e;exact ⟨Df pl3,d3,hDC,nfsD,fun v z=>by cases z⟩
   ·obtain ⟨q1,q2,q3,q4,q5,q6⟩:=stat fr3 b hb;refine ⟨q1,q2,q3,q4,q5,fun p hp z=>?_⟩;have e:=FE.mp (show p∈[_] from hp);subst e;exact absurd (hlt b hb) (by rw [<-z];exact FM _)
   ·subst hr;refine thn h4 fun _ s5 ⟨y,H5,J5,r5,y5,st5,fr5⟩=>?_
    have J5':Inv (blk X scope cl N C s2 H2 fp) ([(Dl,{ cls:=.type "list",data:=.seq its.toArray (Classical.choose pl3) })]++Xz fp s5.heap) σ3 H5 s5:=J5.pinned (fun b hb=>by
     obtain ⟨q1,q2,q3,q4,q5,q6⟩:=stat fr5 b hb;refine ⟨q1,q2,q3,q4,q5,fun p hp z=>?_⟩;have e:=FE.mp (show p∈[_] from hp);subst e;exact absurd (hlt b hb) (by rw [<-z];exact FM _)) (T.obj _ _ st5)
    refine thn (hg C s2 H2 fp _ s5 σ3 H5 y u _ J5' r5 (step y H5 y5)) fun _ s6 ⟨σ6,H6,J6,q6⟩=>?_
    refine thn (ht C s2 H2 fp _ s6 σ6 H6 _ J6 q6) fun ok s7 ⟨H7,J7,q7⟩=>?_
    have back:∀ {H8:Hp} {s8:Shared},Inv (blk X scope cl N C s2 H2 fp) ([(Dl,{ cls:=.type "list",data:=.seq its.toArray (Classical.choose pl3) })]++Xz fp s5.heap) σ6 H8 s8 ->
      tn (i+1) s8.heap/\(∀ b∈fp,H8 b=none)/\H8 Dl=none/\s8.heap.PlainList Dl its.toArray:=fun {H8 s8} J8=>by
     have pb:∀ b∈fp,∀ o,s5.heap.get? b=some o->s8.heap.get? b=some o/\H8 b=none:=fun b hb o e=>by
      have:=J8.pin (b,o) (F4 _ (F4 _ (Xi hb e)));exact ⟨this.1,this.2.1⟩
     have pd:=J8.pin (Dl,_) (F4 _ (Ez _ (FE.mpr rfl)));refine ⟨T.keep _ _ _ st5 fun b hb o e=>(pb b hb o e).1,fun b hb=>?_,pd.2.1,⟨_,pd.1⟩⟩;obtain ⟨o,e,_⟩:=T.obj _ _ st5 b hb;exact (pb b hb o e).2
    cases ok with
    | false=>
     rw [Fl FT] at q7 ⊢;obtain ⟨m',hm,w7⟩:=q7;obtain ⟨b1,b2,b3,b4⟩:=back J7;exact ⟨m',hm,i+1,σ6,H7,acc,its,J7.pins_of (fun p hp=>absurd hp (by simp)),b1,b2,b3,va,b4,la,w7⟩
    | true=>
     rw [Fs rfl] at q7 ⊢;refine thn (he C s2 H2 fp _ s7 σ6 H7 _ J7 q7) fun z s8 ⟨zv,H8,J8,r8,q8⟩=>?_
     obtain ⟨m',hm,w8⟩:=q8;obtain ⟨b1,b2,b3,b4⟩:=back J8;have z1:its.length=acc.length:=va.length.symm;refine wpAny_list_append_plain (hsz:=by rw [FN];omega) b4 fun h9 pl9 sb9=>?_
     have J9:Inv (blk X scope cl N C s2 H2 fp) [] σ6 H8 { s8 with heap:=h9,toks:=s8.toks }:=by
      obtain ⟨k0,k1,k2,k3,k4,k5⟩:=statD (H':=H8) b3;exact (J8.pins_of (pins':=[]) (fun p hp=>absurd hp (by simp))).turned (it:=Dl) (fun b o hb e=>(sb9.2 b hb).trans e) k0 k1 k3 k4 k5
     refine ⟨m',hm,i+1,σ6,H8,acc++[zv],its++[z],J9,T.keep _ _ _ b1 fun b hb o e=>(sb9.2 b (FI (hlt b hb))).trans e,b2,b3,va.append (.cons r8 .nil),?_,?_,w8⟩
     ·simpa using pl9
     ·rw [Fv,FH];omega
 exact codeAny_compStart_list (loop _ rfl) (T.self X.A 0 _ _ _ st3 (loop _ rfl))
theorem Q8 {cl:List (Str×Addr)}{wi:TI}(hc:X.calm=true) (O:X6 X scope cl N caps)
  (hi:PI X (.Name x px) iter wi) (hg:∀ C s H ex,PG (blk X scope cl N C s H ex) (.Name x px) g) (ht:∀ C s H ex,PTs (blk X scope cl N C s H ex) ifs tt) (he:∀ C s H ex,PE (blk X scope cl N C s H ex) elt te)
  (hs:∀ v,foldedSetIterable iter X.env v=pure v:=by intro _;rfl):PE X (.ListComp elt [⟨.Name x px,iter,ifs,0⟩] scope pos) (Kh caps wi g tt te):=XM hc O hi hg ht he hs
end
theorem ObjOk.there {o:HO}(x:ObjOk P w H h a o):∃ u,h.get? a=some u:=by
 cases o with
 | lst xs=>obtain ⟨_,_,_,_,e⟩:=x;exact ⟨_,e⟩
 | tup xs=>obtain ⟨_,_,_,_,e,_⟩:=x;exact ⟨_,e⟩
 | dK kvs=>obtain ⟨_,_,_,_,o,_,_,e,_⟩:=x;exact ⟨_,e⟩
 | dT kvs=>obtain ⟨_,_,_,_,o,_,_,e,_⟩:=x;exact ⟨_,e⟩
 | set S n=>obtain ⟨o,_,_,_,e,_⟩:=x;exact ⟨_,e⟩
 | ins C dx fs=>obtain ⟨_,_,_,e,_⟩:=x;exact ⟨_,e⟩
 | own y=>exact x
 | xd fs=>obtain ⟨_,⟨_,_,_,e,_⟩,_⟩:=x;exact ⟨_,e⟩
 | rng lo hi=>obtain ⟨_,_,_,e⟩:=x;exact ⟨_,e⟩
 | frz ob u=>obtain ⟨e,_⟩:=x;exact ⟨_,e⟩
 | tbl ps=>exact ⟨_,show h.get? a=some _ from x⟩
 | met f y=>exact ⟨_,show h.get? a=some _ from x⟩
 | ext φ=>obtain ⟨_,e,_⟩:=x;exact e
section
variable {X:Cx} {pins:List (Addr×Obj)} {σ:St} {H H':Hp} {s:Shared} {h':Heap}
theorem Inv.stepN (I:Inv X pins σ H s)
  (hch:∀ b∈ch,X.s₀.heap.get? b=none/\b≠X.env.locals/\(∀ x c,X.env.cells.lookup x=some c->c≠b)/\∀ p∈X.pn++pins,p.1≠b)
  (keep:∀ b o,b≠X.env.locals->b ∉ X.fs->b ∉ ch->s.heap.get? b=some o->H b=none->h'.get? b=some o)
  (slot:∀ b o,b≠X.env.locals->b∈X.fs->b ∉ ch->s.heap.get? b=some o->H b=none->∃ sl,h'.get? b=some { o with slots:=sl }) (free:∀ b o,b ∉ ch->s.heap.get? b=some o->H b=none->H' b=none)
  (there:∀ b o,b ∉ ch->s.heap.get? b=some o->∃ o',h'.get? b=some o')
  (tups:∀ b xs,H b=some (.tup xs)->H' b=some (.tup xs)) (frzs:∀ b o u,H b=some (.frz o u)->H' b=some (.frz o u)) (tbls:∀ b ps,H b=some (.tbl ps)->∃ more,H' b=some (.tbl (ps++more)))
  (ns:∀ m,s.heap.Ns X.env.locals m->h'.Ns X.env.locals m) (hok:HOk X.prog X.w H' h') :
  Inv X pins σ H' { s with heap:=h' }:=by
 have neL:∀ b o,X.s₀.heap.get? b=some o->b≠X.env.locals:=fun b o e=>FI (FP (Fy e) I.ok.above)
 have neC:∀ b o,X.s₀.heap.get? b=some o->b ∉ ch:=fun b o e hb=>by
  rw [(hch b hb).1] at e;cases e
 have cellK:∀ x c,X.env.cells.lookup x=some c->∀ v,s.heap.IsCell c v->h'.IsCell c v:=fun x c e v ⟨o,ho,hd⟩=>by
  have nch:c ∉ ch:=fun z=>(hch c z).2.2.1 x c e rfl
  by_cases hc:c∈X.fs
  ·obtain ⟨sl,q⟩:=slot c o (I.cne x c e) hc nch ho (I.freeC x c e);exact ⟨_,q,hd⟩
  ·exact ⟨o,keep c o (I.cne x c e) hc nch ho (I.freeC x c e),hd⟩
 refine ⟨I.ok,I.os,I.bare,⟨fun b o e n hb hx=>?_,fun b o e n hb hx=>?_,fun b o e n hx=>?_,fun b o e hx=>?_,fun b xs e=>tups b xs (I.base.tups b xs e),fun b o xs e=>frzs b o xs (I.base.frzs b o xs e),fun b ps e=>?_⟩,?_,fun x c e=>?_,?_,fun x c e=>?_,fun p hp=>?_,hok,I.len⟩
 ·exact keep b o (neL b o e) hb (neC b o e) (I.base.keep b o e n hb hx) (I.base.free b o e n hx)
 ·obtain ⟨sl,e1⟩:=I.base.slot b o e n hb hx;obtain ⟨sl',e2⟩:=slot b _ (neL b o e) hb (neC b o e) e1 (I.base.free b o e n hx);exact ⟨sl',e2⟩
 ·obtain ⟨o',e1⟩:=I.base.there b o e hx;exact free b o' (neC b o e) e1 (I.base.free b o e n hx)
 ·obtain ⟨o',e1⟩:=I.base.there b o e hx;exact there b o' (neC b o e) e1
 ·obtain ⟨m1,e1⟩:=I.base.tbls b ps e;obtain ⟨m2,e2⟩:=tbls b _ e1;exact ⟨m1++m2,by rw [e2,Array.append_assoc]⟩
 ·obtain ⟨m,hn,hl⟩:=I.loc;refine ⟨m,ns m hn,fun i x v e1 e2 e3=>?_⟩;obtain ⟨u,r,l⟩:=hl i x v e1 e2 e3;refine ⟨u,r,?_⟩;rcases l with l | ⟨k,c,e,z⟩
  ·exact .inl l
  ·exact .inr ⟨k,c,e,cellK x c e _ z⟩
 ·obtain ⟨v,z⟩:=I.cell x c e;exact ⟨v,cellK x c e v z⟩
 ·obtain ⟨m,⟨o,_,_,ho,_⟩,_⟩:=I.loc;exact free _ o (fun z=>(hch _ z).2.1 rfl) ho I.free
 ·obtain ⟨v,o,ho,hd⟩:=I.cell x c e;exact free c o (fun z=>(hch c z).2.2.1 x c e rfl) ho (I.freeC x c e)
 ·obtain ⟨e,n,ne,nf,d⟩:=I.pin p hp;have nch:p.1 ∉ ch:=fun z=>(hch p.1 z).2.2.2 p hp rfl
  exact ⟨keep p.1 p.2 ne nf nch e n,free p.1 p.2 nch e n,ne,nf,d⟩
def YE (X:Cx) (pins:List (Addr×Obj)) (H:Hp) (b:Addr):Prop:=H b=none/\X.s₀.heap.get? b=none/\∀ p∈X.pn++pins,p.1≠b
def Air (X:Cx) (pins:List (Addr×Obj)) (H:Hp) (h:Heap) (cls:Value) (e:Addr):Prop:=
 ∃ oe vs T oT ts a0,h.get? e=some oe/\(oe.cls=cls/\vs[0]?=some a0)/\oe.data=.fields vs/\vs[1]?=some (.ref T)/\T≠e/\h.get? T=some oT/\oT.data=.fields ts/\ts[3]?=some .none/\YE X pins H e/\YE X pins H T
abbrev YK (X:Cx) (h:Heap) (ex:List Addr):Heap:=W.hideAll h (frs X.stack++ex)
theorem VX {b:Addr}{o:Obj}(e:h.get? b=some o) (h1:b ∉ frs X.stack) (h2:b ∉ ex):(YK X h ex).get? b=some o:=
 W.hideAll_get _ e fun z=>(FR.mp z).elim h1 h2
theorem Wo (I:Inv X pins σ H s) (hex:∀ b∈ex,YE X pins H b) (hexf:∀ b∈ex,∀ o,s.heap.get? b=some o->∃ vs,o.data=.fields vs)
  (st:(YK X s.heap ex).StaysIn h') (up:s.heap.UpToSlots h'):Inv X pins σ H { s with heap:=h' }:=by
 have fr:∀ b∈frs X.stack,∀ o,s.heap.get? b=some o->∀ vs,o.data≠.fields vs:=fun b hb o e=>by
  obtain ⟨_,o',e',d⟩:=I.stack.mem hb;rw [e] at e';cases e';exact d
 have sub:∀ b,b∈X.fs->b∈frs X.stack:=fun b hb=>by
  rcases I.ok.stk with e | ⟨e,_⟩
  ·rw [e];exact hb
  ·rw [e];unfold frs;rw [List.filterMap_cons];split
   ·exact hb
   ·exact F9 _ hb
 have keepAll:∀ b o,b ∉ frs X.stack->b ∉ ex->s.heap.get? b=some o->h'.get? b=some o:=fun b o h1 h2 e=>st b o (VX e h1 h2)
 refine I.stepN (ch:=ex) (fun b hb=>⟨(hex b hb).2.1,fun z=>?_,fun x c e z=>?_,(hex b hb).2.2⟩) (fun b o h1 h2 h3 e n=>keepAll b o (fun z=>?_) h3 e) (fun b o h1 h2 h3 e n=>up b o e (fr b (sub b h2) o e)) (fun _ _ _ _ n=>n) (fun b o h1 e=>?_) (fun _ _ e=>e) (fun _ _ _ e=>e) (fun b ps e=>⟨#[],by rw [e];simp⟩) (fun m hm=>up.ns hm) (fun b u e=>?_)
 ·obtain ⟨m,⟨o,es,ep,ho,hd,_⟩,_⟩:=I.loc;subst z;obtain ⟨vs,q⟩:=hexf _ hb o ho;rw [q] at hd;cases hd
 ·obtain ⟨v,o,ho,hd⟩:=I.cell x c e;subst z;obtain ⟨vs,q⟩:=hexf _ hb o ho;rw [q] at hd;cases hd
 ·rcases FS.mp (I.stkSub b z) with q | q
  ·exact h1 q
  ·exact h2 q
 ·by_cases hb:b∈frs X.stack
  ·obtain ⟨sl,q⟩:=up b o e (fr b hb o e);exact ⟨_,q⟩
  ·exact ⟨o,keepAll b o hb h1 e⟩
 ·have nt:∀ c v,H c=some v->c ∉ frs X.stack/\c ∉ ex:=fun c v q=>⟨fun z=>(by rw [I.stkFree c z] at q;cases q),fun z=>(by rw [(hex c z).1] at q;cases q)⟩
  refine (I.hok b u e).stay (fun c v hc q=>?_) (fun _ q=>q) fun _ _ q=>q
  rcases hc with rfl | hc
  ·exact keepAll c v (nt c _ e).1 (nt c _ e).2 q
  ·exact keepAll c v (nt c _ hc).1 (nt c _ hc).2 q
theorem Jk {a0:Value}(I:Inv X pins σ H s) (hx0:X.ex=[]) (hex:∀ b∈ex,YE X pins H b) (he:e∈ex) (fr:h'.FunFrames (YK X s.heap ex) X.stack) (tr:h'.TracedW (YK X s.heap ex) e cls a0):Air X pins H h' cls e:=by
 obtain ⟨oe,vs,T,oT,ts,h1,h2,h3,h4,h5,h6,h7,h8,h9⟩:=tr;refine ⟨oe,vs,T,oT,ts,a0,h1,h2,h3,h4,h6,h7,h8,h9,hex e he,?_⟩;have nf:T ∉ frs X.stack:=fun z=>by
  obtain ⟨_,o,q,d⟩:=fr.mem z;rw [h7] at q;cases q;exact d _ h8
 have no:∀ o,s.heap.get? T=some o->T∈ex:=fun o q=>by
  by_cases z:T∈ex
  ·exact z
  ·rw [VX q nf z] at h5;cases h5
 refine ⟨?_,?_,fun p hp z=>?_⟩
 ·cases q:H T with
  | none=>rfl
  | some u=>
   obtain ⟨o,z⟩:=(I.hok T u q).there;rw [(hex T (no o z)).1] at q;cases q
 ·cases q:X.s₀.heap.get? T with
  | none=>rfl
  | some o=>
   obtain ⟨o',z⟩:=I.base.there T o q (by rw [hx0];simp);rw [(hex T (no o' z)).2.1] at q;cases q
 ·have q:=(I.pin p hp).1;rw [z] at q;exact (hex T (no _ q)).2.2 p hp z
def ZS (X:Cx):Prop:=X.ex=[]/\X.stack=X.env :: X.outer/\X.env.frame=some X.env.locals
theorem Xj (I:Inv X pins σ H s):s.heap.FunFrames (YK X s.heap ex) X.stack:=
 W.funFrames_hide I.stack fun env he a ha=>Ez _ (List.mem_filterMap.mpr ⟨env,he,ha⟩)
theorem Yv:(YK X s.heap ex).StaysIn s.heap:=fun _ _ e=>W.of_hideAll _ e
theorem Wd {b:Addr}(hb:b∈ex):(YK X s.heap ex).get? b=none:=W.hideAll_none _ (F4 _ hb)
theorem Air.two (a:Air X pins H h cls e):∃ T a0,(∀ b∈[e,T],YE X pins H b)/\(∀ b∈[e,T],∀ o,h.get? b=some o->∃ vs,o.data=.fields vs)/\h.TracedW (YK X h [e,T]) e cls a0:=by
 obtain ⟨oe,vs,T,oT,ts,a0,h1,h2,h3,h4,h6,h7,h8,h9,l1,l2⟩:=a;refine ⟨T,a0,fun b hb=>?_,fun b hb o z=>?_,oe,vs,T,oT,ts,h1,h2,h3,h4,W.hideAll_none _ (F4 _ (by simp)),h6,h7,h8,h9⟩
 ·rcases FS.mp hb with rfl | hb
  ·exact l1
  ·rw [FE.mp hb];exact l2
 ·rcases FS.mp hb with rfl | hb
  ·rw [h1] at z;cases z;exact ⟨_,h3⟩
  ·rw [FE.mp hb,h7] at z;cases z;exact ⟨_,h8⟩
theorem Mt {Q:Unit->Shared->Prop}(I:Inv X pins σ H s) (ow:ZS X) (a:Air X pins H s.heap cls e)
  (q:∀ h'',Inv X pins σ H { s with heap:=h'' }->Air X pins H h'' cls e->Q () { s with heap:=h'' }):wpAny M X.A (leaving X.env (.ref e)) Q E s:=by
 obtain ⟨T,a0,hex,hexf,tr⟩:=a.two;have fs:=Xj (ex:=[e,T]) I;have fr:=I.ok.frames;rw [ow.2.1] at fs fr;refine wpAny_leaving_nextW (base:=YK X s.heap [e,T]) fr fs ow.2.2 tr Yv (Wd (by simp)) fun h'' L=>?_
 obtain ⟨l1,l2,l3,l4⟩:=L;rw [<-ow.2.1] at l2;exact q h'' (Wo I hex hexf l1 l4) (Jk I ow.1 hex (by simp) l2 l3)
end
def RF (H:Hp) (h old:Heap) (cls:Value) (e:Addr):Prop:=
 ∃ oe vs T oT ts a0,h.get? e=some oe/\(oe.cls=cls/\vs[0]?=some a0)/\oe.data=.fields vs/\vs[1]?=some (.ref T)/\T≠e/\h.get? T=some oT/\oT.data=.fields ts/\ts[3]?=some .none/\(H e=none/\old.get? e=none)/\(H T=none/\old.get? T=none)
def CXr (P:Program) (w:World):CXT:=fun outer H s E e s'=>
 ∃ ea cls H',e=.ref ea/\s'.os=s.os/\AllBare s'.gens/\Un (frs outer) [] H H' s.heap s'.heap/\HOk P w H' s'.heap/\RF H' s'.heap s.heap cls ea/\E cls none H'
section
variable {X:Cx} {pins:List (Addr×Obj)} {σ:St} {H:Hp} {s s':Shared} {E:XK} {e:Value}
theorem CXr.here (I:Inv X pins σ H s) (hx:X.ex=[]) (c:CXr X.prog X.w X.stack H s E e s'):∃ ea cls H',e=.ref ea/\Inv X pins σ H' s'/\Air X pins H' s'.heap cls ea/\E cls none H':=by
 obtain ⟨ea,cls,H',rfl,os,bare,un,hok,⟨oe,vs,T,oT,ts,a0,h1,h2,h3,h4,h5,h6,h7,h8,n1,n2⟩,q⟩:=c;have ls:∀ b,H' b=none->s.heap.get? b=none->YE X pins H' b:=fun b hn ho=>by
  refine ⟨hn,?_,fun p hp z=>?_⟩
  ·cases q:X.s₀.heap.get? b with
   | none=>rfl
   | some o=>
    obtain ⟨o',z⟩:=I.base.there b o q (by rw [hx];simp);rw [ho] at z;cases z
  ·have q:=(I.pin p hp).1;rw [z,ho] at q;cases q
 exact ⟨ea,cls,H',rfl,I.call' (ch:=[]) os un hok bare (fun b z=>absurd z (by simp)),⟨oe,vs,T,oT,ts,a0,h1,h2,h3,h4,h5,h6,h7,h8,ls _ n1.1 n1.2,ls _ n2.1 n2.2⟩,q⟩
end
section
variable {P:Program} {w:World} {K:W.Frag} {mg:Str->Option Value} {base:Heap} {N:List Str} {qual:Str} {sc:Scope} {f:Addr} {cd:Value} {A:Around} {outer:List Env} {s0:Shared} {H0:Hp} {E:XK}
theorem Mf:ZS (Wj CX P w K mg base N qual sc f cd A outer s0 H0 E):=⟨rfl,rfl,rfl⟩
end
abbrev Cx.hand (X:Cx) (e:Addr):Cx:={ X with A:=X.A.mark (some (.ref e)),calm:=false,xe:=fun _ _=>False }
section
variable {X:Cx} {pins:List (Addr×Obj)} {σ:St} {H:Hp} {s:Shared} {e:Addr}
theorem Inv.hand (I:Inv X pins σ H s) (e:Addr):Inv (X.hand e) pins σ H s:=
 ⟨⟨I.ok.mod,I.ok.kind,I.ok.glob,I.ok.blt,I.ok.above,I.ok.inj,I.ok.has,I.ok.cab,fun z=>Bool.noConfusion (show false=true from z),I.ok.frames,I.ok.stk,I.ok.exf,I.ok.bs,I.ok.bsz,I.ok.noex,I.ok.exfs,I.ok.funs,I.ok.frf⟩,
  I.os,I.bare,I.base,I.loc,I.cell,I.free,I.freeC,I.pin,I.hok,I.len⟩
theorem Inv.unhand (hok:X.Ok) (I:Inv (X.hand e) pins σ H s):Inv X pins σ H s:=⟨hok,I.os,I.bare,I.base,I.loc,I.cell,I.free,I.freeC,I.pin,I.hok,I.len⟩
theorem Inv.trackN {D:Addr}{o:HO}(I:Inv X pins σ H s) (l:YE X pins H D) (hf:∃ u vs,s.heap.get? D=some u/\u.data=.fields vs) (new:ObjOk X.prog X.w (upd H D o) s.heap D o):Inv X pins σ (upd H D o) s:=by
 have ne:∀ b u,H b=some u->b≠D:=fun b u e=>Zc e l.1
 obtain ⟨u,vs,hu,hd⟩:=hf;have:=I.stepN (h':=s.heap) (H':=upd H D o) (ch:=[D]) (fun b hb=>?_) (fun b o _ _ _ e _=>e) (fun b o _ _ _ e _=>⟨o.slots,e⟩) (fun b u hb _ n=>by rw [Qj (by simpa using hb)];exact n) (fun b o _ e=>⟨o,e⟩)
  (fun b xs e=>by rw [Qj (ne b _ e)];exact e) (fun b o' u e=>by rw [Qj (ne b _ e)];exact e) (fun b ps e=>⟨#[],by rw [Qj (ne b _ e),e];simp⟩) (fun _ z=>z) (fun b u e=>?_)
 ·exact this
 ·have z:=FE.mp hb;subst z;refine ⟨l.2.1,fun z=>?_,fun x c e z=>?_,l.2.2⟩
  ·obtain ⟨m,⟨o,es,ep,ho,hd',_⟩,_⟩:=I.loc;rw [<-z,hu] at ho;cases ho;rw [hd] at hd';cases hd'
  ·obtain ⟨v,o,ho,hd'⟩:=I.cell x c e;rw [z,hu] at ho;cases ho;rw [hd] at hd';cases hd'
 ·by_cases hb:b=D
  ·subst hb;rw [Qe] at e;cases e;exact new
  ·rw [Qj hb] at e;exact (I.hok b u e).stay (fun _ _ _ q=>q) (fun c q=>by rw [Qj (ne c _ q)];exact q) fun c xs q=>by rw [Qj (ne c _ q)];exact q
theorem Inv.forget {n:Str}(I:Inv X pins σ H s) (hN:X.N.Nodup) (hi:X.N[i]?=some n)
  (ns:∀ m,s.heap.Ns X.env.locals m->∃ v,h'.Ns X.env.locals (fun x=>if x=n then v else m x)) (hs:Heap.SameBut X.env.locals s.heap h'):Inv X pins (σ.set i none) H { s with heap:=h',toks:=t' }:=by
 obtain ⟨m,hn,hl⟩:=id I.loc;obtain ⟨v0,hn'⟩:=ns m hn;have hiσ:i<σ.length:=by rw [I.len];exact (EJ.mp hi).1
 have neL:∀ b o,X.s₀.heap.get? b=some o->b≠X.env.locals:=fun b o e=>FI (FP (Fy e) I.ok.above)
 refine ⟨I.ok,I.os,I.bare,⟨fun b o e n hb hx=>?_,fun b o e n hb hx=>?_,I.base.free,fun b o e hx=>?_,I.base.tups,I.base.frzs,I.base.tbls⟩,⟨_,hn',fun j y v' e1 e2 e3=>?_⟩,fun y c e=>?_,I.free,I.freeC,fun p hp=>?_,fun b ob e=>?_,by simpa using I.len⟩
 ·exact (hs.2 b (neL b o e)).trans (I.base.keep b o e n hb hx)
 ·obtain ⟨sl,e1⟩:=I.base.slot b o e n hb hx;exact ⟨sl,(hs.2 b (neL b o e)).trans e1⟩
 ·obtain ⟨o',e1⟩:=I.base.there b o e hx;exact ⟨o',(hs.2 b (neL b o e)).trans e1⟩
 ·by_cases hj:j=i
  ·subst hj;rw [List.getElem?_set_self hiσ] at e2;cases e2
  ·rw [List.getElem?_set_ne (Eb hj)] at e2;obtain ⟨u',r',q⟩:=hl j y v' e1 e2 e3;refine ⟨u',r',?_⟩;rcases q with ⟨k,e⟩ | ⟨k,c,e,z⟩
   ·refine .inl ⟨k,?_⟩;have:y≠n:=fun e=>hj (Jx hN e1 (e ▸ hi))
    simp [this,e]
   ·exact .inr ⟨k,c,e,z.sameBut hs (I.cne y c e)⟩
 ·obtain ⟨w',z⟩:=I.cell y c e;exact ⟨w',z.sameBut hs (I.cne y c e)⟩
 ·obtain ⟨e,n,ne,nf,d⟩:=I.pin p hp;exact ⟨(hs.2 p.1 ne).trans e,n,ne,nf,d⟩
 ·refine (I.hok b ob e).stay (fun c w' hc q=>(hs.2 c ?_).trans q) (fun _ q=>q) fun _ _ q=>q
  intro z;subst z;rcases hc with z | hc
  ·rw [<-z,I.free] at e;cases e
  ·rw [I.free] at hc;cases hc
end
def B2 (e:Addr) (cls:Value) (h:Heap):Prop:=∃ o vs,h.get? e=some o/\o.cls=cls/\o.data=.fields vs
abbrev TX:=St->Hp->VK->XK->Prop
def NJ (sp:Sp) (t:TA):TX:=fun σ H Q E=>t σ H fun vs H1=>sp vs H1 Q E
section
variable {X:Cx} {k:Nat} {f:Addr} {fd:FuncData} {ps:List Str} {sp:Sp} {x:Str} {p pos:Pos} {e:Expr} {es:List Expr} {t:TA}
variable {tx:TX}
def sxA (i:Nat) (tx:TX):Q3->XK->St->Hp->Prop:=fun D E σ H=>tx σ H (fun v H1=>D.nx (σ.set i (some v)) H1) E
end
section
variable {X:Cx} {body suite:List Stmt} {b₀:Stmt} {x n:Str} {C:Addr} {np hp pos:Pos} {tb:Q3->XK->St->Hp->Prop} {ts:TS}
theorem VW {Q:Unit->Shared->Prop}(I:Inv X pins σ H s) (ow:ZS X) (a:Air X pins H s.heap cls ea)
  (q:∀ h',Inv X pins σ H { s with heap:=h' }->Air X pins H h' cls ea->Q () { s with heap:=h' }):wpAny M A (setFlight (.ref ea) none) Q E s:=by
 obtain ⟨T,a0,hex,hexf,tr⟩:=a.two;refine lands_againW (base:=YK X s.heap [ea,T]) ⟨Yv,Wd (by simp),Xj I,tr⟩ fun h' fl up=>?_
 exact q h' (Wo I hex hexf fl.1 up) (Jk I ow.1 hex (by simp) fl.2.2.1 fl.2.2.2)
end
end L2
namespace L2
open PySem PySem.Spec PyProof.Rows PySem.W Builtin Builtin.ObjectAttr Builtin.Getset_descriptor
structure Zi (K:W.Frag) (C:Addr):Prop where
 ga:W.findIn K (.ref C) "__getattribute__"=some (some (.builtin "BaseException.__getattribute__"))
 gt:W.findIn K (.ref C) "__getattr__"=some none
 ca:W.findIn K (.ref C) "__class__"=some (some (.builtin "object.__class__"))
 mB:W.mroIn K C (.type "BaseException")=some true
 mO:W.mroIn K C (.type "object")=some true
 hc:(W.clsIn K C).isSome=true
section
variable {prog:Program} {w:World} {A:Around} {E:Value->Shared->Prop} {h:Heap} {g:Array GenState} {d:Drawn} {t:Nat} {os:OsState} {K:W.Frag} {a C:Addr} {o:Obj}
theorem PV {R:Result->Shared->Prop}{tp:Value}(Z:Zi K C) (X:K.In h) (hx:h.get? a=some o) (hc:o.cls=.ref C) (q:R (.ok (.ret (.ref C))) ⟨h,g,d,t,os⟩) :
  codeAny (model prog w) A (.call (.builtin "getset_descriptor.__get__") ⟨[.builtin "object.__class__",.ref a,tp],[]⟩) R ⟨h,g,d,t,os⟩:=by
 have L0:W.Looks (model prog w) h (typeOf (.ref a)) (.ref C):=hc ▸ (W.Looks.ld hx).andThen .now;have L1:=W.looks_mroIn (M:=model prog w) X Z.mO;refine codeAny_call_builtin PySem.W.KF.slot_gs.plain PySem.W.KF.entry_gs (W.KF.slot_gs.check _ _ _ _ _ _ _ _ W.KF.type_class (W.KF.args_gs _ _ _) ?_);unfold Builtin.«getset_descriptor.__get__» descrGet;rw [W.dga_obj];refine Fk (Fw ?_);unfold descrGetter descrCheckInstance descrNameAndClass isInstance;simp only [W.KF.owner_class]
 repeat lk
 refine ⟨Code.quiet_builtin _ (by decide +kernel),codeAny_builtin PySem.W.KF.entry_class ?_⟩;unfold Builtin.«object.__class__» shownTypeOf
 repeat lk
 exact q
theorem Nj {tk:Tok}{Q:Fin->Shared->Prop}(Z:Zi K C) (X:K.In h) (hx:h.get? a=some o) (hc:o.cls=.ref C) (q:Q (.done (.ret (.ref C))) ⟨h,g,d,t,os⟩) :
  wpAny (model prog w) A (Builtin.«object.__getattribute__» ⟨[.ref a,.str "__class__" tk],[]⟩) Q E ⟨h,g,d,t,os⟩:=by
 have L0:W.Looks (model prog w) h (typeOf (.ref a)) (.ref C):=hc ▸ (W.Looks.ld hx).andThen .now;have L2:=W.looks_findIn (M:=model prog w) X Z.ca;have f5:typeOf (.builtin "object.__class__")=pure (.type "getset_descriptor"):=by kernel_rfl
 have f6:=F.slot_gs_get.lookup;have f7:=F.slot_gs_set.lookup;unfold Builtin.«object.__getattribute__»
 repeat (any_goals (first | assumption | (with_reducible refine wpAny_loadPart_at hx ?_;rw [hc]) | with_reducible refine L2.at ?_ | wp_step))
 refine PV Z X hx hc ?_
 repeat (any_goals (first | assumption | wp_step))
theorem Kq {nameV:Value}{Q:Unit->Shared->Prop}(Z:Zi K C) (X:K.In h) (hx:h.get? a=some o) (hc:o.cls=.ref C) (q:Q () ⟨h,g,d,t,os⟩):wpAny M A (checkBuiltinCall "BaseException.__getattribute__" ⟨[.ref a,nameV],[]⟩) Q E ⟨h,g,d,t,os⟩:=by
 have hk:builtinKind "BaseException.__getattribute__"=some .slot:=by decide +kernel
 have hsplit:splitId "BaseException.__getattribute__"=some ("BaseException","__getattribute__"):=by decide +kernel
 have ha:=F.args_bexc_ga (.ref a) nameV;have L1:=W.looks_mroIn (M:=M) X Z.mB;simp only [checkBuiltinCall,hk,hsplit];refine Fk ?_;unfold isInstance
 repeat (first | (with_reducible refine wpAny_loadPart_at hx ?_;rw [hc]) | with_reducible refine L1.at ?_ | wp_step)
 exact q
theorem Nk {Q:Option Value->Shared->Prop}(Z:Zi K C) (X:K.In h) (hx:h.get? a=some o) (hc:o.cls=.ref C) (q:Q (some (.ref C)) ⟨h,g,d,t+1,os⟩):wpAny (model prog w) A (getAttr? (.ref a) "__class__") Q E ⟨h,g,d,t,os⟩:=by
  have L0:W.Looks (model prog w) h (typeOf (.ref a)) (.ref C):=hc ▸ (W.Looks.ld hx).andThen .now;have L1:=W.looks_findIn (M:=model prog w) X Z.ga;have L2:=W.looks_findIn (M:=model prog w) X Z.gt;have f3:=F.attr_ValueError.ga.bind (.ref a);unfold getAttr? getAttrBy? getAttrBy;refine Fk (wpAny_mkText (Fk (wpAny_attempt (wpAny_holding (Fk (L0.at (Fk (L1.at ?_))))))));dsimp only;rw [Fl (show ¬ ((onTheHeap (Value.ref C)&&Value.builtin "BaseException.__getattribute__" == Value.builtin "object.__getattribute__")=true) by
    rw [show (Value.builtin "BaseException.__getattribute__" == Value.builtin "object.__getattribute__")=false by decide +kernel,EL];exact FT)]
  unfold getAttrByItsOwn hookBefore;rw [Fs (show onTheHeap (Value.ref C)=true from rfl)];refine Fk (L2.at ?_);refine Fk (wpAny_attempt (wpAny_holding ?_));unfold callGetattribute;rw [Fl (show ¬ ((false&&onTheHeap (Value.builtin "BaseException.__getattribute__"))=true) from FT)];unfold boundAndCalled
  repeat (any_goals (first | assumption | wp_step))
  refine codeAny_call_builtin F.attr_ValueError.ga.plain F.entry_bexc_ga (Kq Z X hx hc (Nj Z X hx hc ?_))
  repeat (any_goals (first | assumption | wp_step))
theorem Yh (Z:Zi K C):W.KitX K (.ref e) (.ref C) (B2 e (.ref C)) where
 ty:=fun M h _ ⟨o,vs,h1,h2,_⟩=>h2 ▸ (W.Looks.ld h1).andThen .now
 it:=fun _ _ X _=>by
  obtain ⟨cd,hcd⟩:=Option.isSome_iff_exists.mp Z.hc;unfold W.clsIn at hcd;split at hcd
  ·rename_i c' d' cd' sl' ho;intro A' Q' E' s' k q;unfold isType loadHead;exact Fk (wpAny_loadPart (k _ _ (X _ _ ho)) (Fw q))
  ·cases hcd
 ne:=fun h tp dd its n sl X htp=>by
  obtain ⟨cd,hcd⟩:=Option.isSome_iff_exists.mp Z.hc;refine FJ.mpr fun q=>?_
  have e:C=tp:=Value.ref.inj (beq_iff_eq.mp q);subst e;unfold W.clsIn at hcd;split at hcd
  ·rename_i c' d' cd' sl' ho;have z:=(X _ _ ho).symm.trans htp;cases z
  ·cases hcd
 ca:=fun {_ _ _ _ _ s} X p k=>by
  obtain ⟨h,g,d,t,os⟩:=s;obtain ⟨o,vs,h1,h2,_⟩:=p;exact Nk Z X h1 h2 k
end
def SM (K:W.Frag):List V->Hp->VK->Prop:=fun xs H Q=>∃ e c C b u,xs=[.ref e,c]/\RelV c u/\(∀ u',RelV c u'->u'=u)/\H e=some (.ext (B2 e (.ref C)))/\Zi K C/\W.kitOne K (.ref C) u=some b/\Q (.bl b) H
def N3 (K:W.Frag):List V->Hp->VK->Prop:=fun xs H Q=>Pg K xs H Q∨SM K xs H Q
section
variable {X:Cx}
theorem Nu:ZT X (.builtin "isinstance") (N3 X.K):=by
 intro pins s σ H xs us Q I r h;rcases h with h | h
 ·exact Le pins s σ H xs us Q I r h
 ·obtain ⟨e,c,C,b,u,rfl,rc,uq,he,Z,k,q⟩:=h;obtain ⟨u1,u2,rfl,r1,r2⟩:=Ke r;obtain rfl:=uq _ r2;obtain rfl:=r1.ref_of;obtain ⟨p,_⟩:=(show ObjOk X.prog X.w H s.heap e (.ext (B2 e (.ref C))) from I.hok e _ he)
  exact W.kia_one (Yh Z) I.kIn p k (fun z=>nomatch z) fun tk=>⟨.bl b,H,I.tok tk,rfl,q⟩
end
theorem RV {x:V}{t:Value}{b:Bool}(ty:TyOf K H x t) (e:W.kitOne K t (.type T)=some b) (q:Q (.bl b) H):N3 K [x,.ty T] H Q:=.inl (Sd ty e q)
end L2
namespace L2
open PySem PySem.Spec PyProof.Rows
abbrev P1:List Value:=[.type "ValueError",.type "Exception",.type "BaseException",.type "object"]
theorem TH {tx:TX}{D:Q3}{E:XK}:sxA i tx D E σ H=tx σ H (fun v H1=>D.nx (σ.set i (some v)) H1) E:=rfl
theorem Tz {sp:Sp}{t:TA}{E:XK}:NJ sp t σ H Q E=t σ H fun vs H1=>sp vs H1 Q E:=rfl
def Rp1 (φ:V->Hp->VK->XK->Prop):Sp:=fun vs H Q E=>∃ a,vs=[a]/\φ a H Q E
def Rp3 (φ:V->V->V->Hp->VK->XK->Prop):Sp:=fun vs H Q E=>∃ a b c,vs=[a,b,c]/\φ a b c H Q E
theorem W5:bootBuiltins "ValueError"=some (.type "ValueError"):=by kernel_rfl
theorem exm_of {cd:ClassData}{b:Bool}(h1:W.subIn K (.ref C) (.type "BaseException")=some true) (h2:W.clsIn K C=some cd) (h3:W.typeIn K (.ref C)=some (.type "type")) (h4:W.subIn K cls (.ref C)=some b):W.exmOne K cls (.ref C)=some b:=by
 unfold W.exmOne W.kitCls;rw [h1];dsimp only;rw [h2,h3,h4];rfl
theorem excCls_of {cd:ClassData}(ga:W.findIn K (.ref C) "__getattribute__"=some (some (.builtin "BaseException.__getattribute__"))) (gt:W.findIn K (.ref C) "__getattr__"=some none) (ca:W.findIn K (.ref C) "__class__"=some (some (.builtin "object.__class__")))
  (mB:W.mroIn K C (.type "BaseException")=some true) (mO:W.mroIn K C (.type "object")=some true) (hc:W.clsIn K C=some cd):Zi K C:=⟨ga,gt,ca,mB,mO,by rw [hc];rfl⟩
theorem ixK (K:W.Frag) {X:Cx}(h:X.K=K):IxR X (rIx K):=by subst h;exact PP
theorem eqK (K:W.Frag) {X:Cx}(h:X.K=K) (hu:X.A.units+64<cLine):OpR X (compareOp .Eq) (KR K):=by subst h;exact Pu hu
theorem neK (K:W.Frag) {X:Cx}(h:X.K=K) (hu:X.A.units+64<cLine):OpR X (compareOp .NotEq) (KP K):=by subst h;exact Pp hu
theorem YA (K:W.Frag) {X:Cx}(h:X.K=K):ZT X (.builtin "len") (LU K):=by subst h;exact Nt
theorem slK (K:W.Frag) {X:Cx}(h:X.K=K):SlR X (N0 K):=by subst h;exact LM
theorem piK (K:W.Frag) {X:Cx}{tg l:Expr}{tl:TE}(h:X.K=K) (hl:PE X l tl):PI X tg l (Mx K tl):=by subst h;exact L6 hl
theorem pgK (K:W.Frag) {X:Cx}{es:List Expr}{k:Nat}{t:TGs}{n:Nat}{pos:Pos}(h:X.K=K) (hc:X.calm=true) (hg:PGs X es t) (hn:(assignEach es X.env).length=n:=by rfl) (hst:(assignEach es X.env).findIdx? (·.1)=none:=by rfl):PG X (.Tuple es k pos) (MN K n t):=by
 subst h;exact Pj hc hg hn hst
section
variable {X:Cx} {o e:Expr} {es:List Expr} {to:TE} {t:TA} {T:String} {name:Str} {id:String} {r:V->List V->Hp->VK->Prop} {apos cpos:Pos}
theorem Bb (K:W.Frag) (h:X.K=K) (pa:PlainAttrs T) (slot:Slot T name id) (hty:typeOf (.builtin id)=pure (.type "method_descriptor")) (hm:MtR X id r) (ho:PE X o to)
  (hbase:attributeBase o name X.env (eval o X.env)=eval o X.env:=by rfl) (hline:(apos.endLine == cpos.line)=true:=by rfl):PE X (.Call (.Attribute o name apos) [] [] cpos) (Pa K T r to):=by
 subst h;exact Pn pa slot hty hm ho hbase hline
theorem Zb (K:W.Frag) (h:X.K=K) (pa:PlainAttrs T) (slot:Slot T name id) (hty:typeOf (.builtin id)=pure (.type "method_descriptor")) (hm:MtR X id r) (ho:PE X o to) (ha:PA X (e :: es) t)
  (hbase:attributeBase o name X.env (eval o X.env)=eval o X.env:=by rfl)
  (hfew:((backTo cpos (starEach (e :: es) X.env)).all (fun x=>!x.1)&&(backToKw cpos (keywordEach [] X.env)).all (fun x=>x.1.isSome)
   && decide ((e :: es).length+([]:List Keyword).length+(if ([]:List Keyword).isEmpty then 0 else 1)<30))=true:=by rfl)
  (hline:(apos.endLine == cpos.line)=true:=by rfl) (hs:starEach (e :: es) X.env=(false,eval e X.env) :: starEach es X.env:=by rfl) (hplain:(backTo cpos (starEach es X.env)).any (·.1)=false:=by rfl) :
  PE X (.Call (.Attribute o name apos) (e :: es) [] cpos) (tBM K T r to t):=by
 subst h;exact SS pa slot hty hm ho ha hbase hfew hline hs hplain
def KQ (K:W.Frag):List V->Hp->VK->Prop:=fun xs H Q=>∃ p ys,xs=[.ref p]/\(SqL K H p ys∨SqT K H p ys)/\∀ l,H l=none->Q (.ref l) (upd H l (.lst ys))
theorem Zf (K:W.Frag) (h:X.K=K):ZT X (.type "list") (KQ K):=by subst h;exact Vu
end
theorem GP {q:Rat}(hb:b≠0) (h:q=Rat.divInt t b):q.num*b=t*(q.den:Int):=by
 have h1:(q.num:Rat) / ((q.den:Int):Rat)=(t:Rat) / (b:Rat):=by
  rw [<-Rat.divInt_eq_div,<-Rat.divInt_eq_div,Do,h]
 have hd:((q.den:Int):Rat)≠0:=by
  intro z;have:(q.den:Int)=0:=Rat.intCast_inj.mp (by rw [z];rfl);exact q.den_nz (by omega)
 have hb':(b:Rat)≠0:=by
  intro z;exact hb (Rat.intCast_inj.mp (by rw [z];rfl))
 have h2:(q.num:Rat)*(b:Rat)=(t:Rat)*((q.den:Int):Rat):=by grind
 rw [<-Rat.intCast_mul,<-Rat.intCast_mul] at h2;exact Rat.intCast_inj.mp h2
theorem den_pos' (q:Rat):0<(q.den:Int):=by have:=q.den_nz;omega
theorem LR (q:Rat):Int.gcd q.num (q.den:Int)=1:=by
 have:=q.reduced;show Nat.gcd q.num.natAbs (q.den:Int).natAbs=1;simpa using this
theorem Up (hb:b≠0):(Rat.divInt t b).num=fnum t b/\((Rat.divInt t b).den:Int)=fden t b:=by
 have h:=GP hb (rfl:Rat.divInt t b=_);have f:=BK (t:=t) hb;refine VU (den_pos' _) (MT hb) (LR _) (MV hb) ?_;have h2:(Rat.divInt t b).num*fden t b*b=fnum t b*((Rat.divInt t b).den:Int)*b:=by
  have e1:(Rat.divInt t b).num*fden t b*b=(Rat.divInt t b).num*b*fden t b:=by rw [EN,Int.mul_comm (fden t b),<-EN]
  have e2:fnum t b*((Rat.divInt t b).den:Int)*b=fnum t b*b*((Rat.divInt t b).den:Int):=by rw [EN,Int.mul_comm ((Rat.divInt t b).den:Int),<-EN]
  rw [e1,e2,h,f,EN,EN,Int.mul_comm (fden t b)]
 exact Int.eq_of_mul_eq_mul_right hb h2
theorem dnz (q:Rat):(q.den:Int)≠0:=by have:=den_pos' q;omega
theorem LS (a b:Rat):a+b=Rat.divInt (a.num*b.den+b.num*a.den) (a.den*b.den):=by
 have:=Rat.divInt_add_divInt a.num b.num (dnz a) (dnz b);rw [Do,Do] at this;exact this
theorem KO (a b:Rat):a*b=Rat.divInt (a.num*b.num) (a.den*b.den):=by
 have:=Rat.divInt_mul_divInt a.num b.num (d₁:=a.den) (d₂:=b.den);rw [Do,Do] at this;exact this
def RB (m:Nat) (q:Rat):Prop:=Bd m q.num/\Bd m (q.den:Int)
theorem RB.mono {q:Rat}(h:RB m q) (hl:m<=n):RB n q:=⟨h.1.mono hl,h.2.mono hl⟩
theorem RB.of (hb:b≠0) (h1:Bd m t) (h2:Bd m b):RB m (Rat.divInt t b):=by
 obtain ⟨e1,e2⟩:=Up (t:=t) hb;exact ⟨by rw [e1];exact h1.fnum hb,by rw [e2];exact h2.fden hb⟩
theorem RB.mul {a b:Rat}(h:RB m a) (h':RB n b):RB (m+n) (a*b):=by
 rw [KO];exact RB.of (Dg (dnz a) (dnz b)) (h.1.mul h'.1) (h.2.mul h'.2)
theorem RB.int {i:Int}(h:Bd m i) (hm:1<=m):RB m (i:Rat):=by
 refine ⟨by rw [Rat.num_intCast];exact h,?_⟩;rw [Rat.den_intCast];exact (show Bd 1 ((1:Nat):Int) by unfold Bd;decide).mono hm
theorem RB.zero (hm:1<=m):RB m 0:=by
 refine ⟨?_,?_⟩
 ·exact (show Bd 1 (0:Int) by unfold Bd;decide).mono hm
 ·exact (show Bd 1 ((1:Nat):Int) by unfold Bd;decide).mono hm
theorem RB.one (hm:1<=m):RB m 1:=by
 refine ⟨?_,?_⟩
 ·exact (show Bd 1 (1:Int) by unfold Bd;decide).mono hm
 ·exact (show Bd 1 ((1:Nat):Int) by unfold Bd;decide).mono hm
def Grow (H H':Hp):Prop:=∀ b o,H b=some o->(∀ xs,o≠.lst xs)->H' b=some o
theorem Same.grow (g:Same H H'):Grow H H':=fun b o h _=>g b o h
theorem Xk (h:H p=some (.lst xs)):Grow H (upd H p (.lst ys)):=fun b o q n=>by
 rw [Qj (VQ q h (n xs))];exact q
theorem QB {o:HO}(g:Same H H') (hp:H p=none):Same H (upd H' p o):=fun b u q=>by
 rw [Qj (Zc q hp)];exact g b u q
theorem Grow.sqT (e:Grow H H') (h:SqT K H a xs):SqT K H' a xs:=by
 rcases h with (h | ⟨o,h⟩) | h
 ·exact .inl (.inl (e _ _ h fun _ z=>nomatch z))
 ·exact .inl (.inr ⟨o,e _ _ h fun _ z=>nomatch z⟩)
 ·exact .inr h
def Fq (K:W.Frag) (H:Hp) (q:Rat) (v:V):Prop:=∃ p,v=.ref p/\SqT K H p [.int q.num,.int q.den]
theorem Fq.grow {q:Rat}(g:Grow H H') (h:Fq K H q v):Fq K H' q v:=by
 obtain ⟨p,e,h⟩:=h;exact ⟨p,e,g.sqT h⟩
theorem Fq.same {q:Rat}(g:Same H H') (h:Fq K H q v):Fq K H' q v:=h.grow g.grow
theorem Fq.new (hb:b≠0):Fq K (upd H p (.tup [.int (fnum t b),.int (fden t b)])) (Rat.divInt t b) (.ref p):=by
 obtain ⟨e1,e2⟩:=Up (t:=t) hb;refine ⟨p,rfl,?_⟩;rw [e1,e2];exact SqT.of Qe
abbrev Fj:=Rat×Rat×Rat
def All2 (R:α->V->Prop) (qs:List α) (vs:List V):Prop:=qs.length=vs.length/\∀ (i:Nat) q v,qs[i]?=some q->vs[i]?=some v->R q v
theorem All2.imp {R S:α->V->Prop}{qs:List α}(f:∀ q v,R q v->S q v) (h:All2 R qs vs):All2 S qs vs:=⟨h.1,fun i q v a b=>f _ _ (h.2 i q v a b)⟩
theorem All2.nil {R:α->V->Prop}:All2 R [] []:=⟨rfl,fun i q v a _=>by simp at a⟩
theorem All2.snoc {R:α->V->Prop}{qs:List α}{q:α}(h:All2 R qs vs) (r:R q v):All2 R (qs++[q]) (vs++[v]):=by
 refine ⟨by rw [Fv,Fv,h.1];rfl,fun i q' v' a b=>?_⟩;rcases Nat.lt_trichotomy i qs.length with z | z | z
 ·rw [Ei z] at a;rw [Ei (by rw [<-h.1];exact z)] at b;exact h.2 i q' v' a b
 ·subst z;rw [Ed (Ft _),Er] at a;rw [Ed (by rw [h.1];exact Ft _),h.1,Er] at b;cases a;cases b;exact r
 ·rw [Ej (by rw [Fv,FH];omega)] at a;cases a
theorem All2.getV {R:α->V->Prop}{qs:List α}(h:All2 R qs vs) (a:vs[i]?=some v):∃ q,qs[i]?=some q/\R q v:=by
 have hi:i<qs.length:=by rw [h.1];exact (EJ.mp a).1
 exact ⟨qs[i],Fu hi,h.2 i _ v (Fu hi) a⟩
end L2
namespace L2
theorem Yc {l:List α}{a:α}{r:α}(h:(l++[a])[i]?=some r):(l[i]?=some r/\i<l.length)∨(i=l.length/\r=a):=by
 rcases Nat.lt_trichotomy i l.length with z | z | z
 ·rw [Ei z] at h;exact .inl ⟨h,z⟩
 ·subst z;rw [Ed (Ft _),Er] at h;cases h;exact .inr ⟨rfl,rfl⟩
 ·rw [Ej (by rw [Fv,FH];omega)] at h;cases h
theorem Qw {l:List α}{r:α}(h:l[i]?=some r):i<l.length:=(EJ.mp h).1
end L2
namespace L2
open PySem PySem.Spec PyProof.Rows
structure KTup (K:W.Frag) (mg:Str->Option Value) (n:Str) (a:Addr) (xs:List V):Prop where
 m:mg n=some (.ref a)
 s:∀ H,SqT K H a xs
theorem SX {n:Str}{i:Int}{t u:Tok}{k:Nat}{sl:Array (Option Value)}(m:mg n=some (.ref a)) (l:K.lookup a=some ⟨.type "tuple",od,.seq #[.int i t,.int j u] k,sl⟩):KTup K mg n a [.int i,.int j]:=
 ⟨m,fun H=>.inr ⟨_,_,_,l,rfl,rfl,by show 2<=sizeLine;decide,.cons ⟨t,rfl⟩ (.cons ⟨u,rfl⟩ .nil)⟩⟩
theorem GU {n:Str}(k:KTup X.K X.mg n a xs) (hg:Gl X n:=by rfl) (hd:(n == ("__debug__":Str))=false:=by decide):PE X (.Name n pos) (tC (.ref a)):=Zo (v:=.ref a) hg k.m rfl hd
theorem KTup.fq0 {n:Str}(k:KTup K mg n a [.int 0,.int 1]):Fq K H 0 (.ref a):=⟨a,rfl,k.s H⟩
theorem KTup.fq1 {n:Str}(k:KTup K mg n a [.int 1,.int 1]):Fq K H 1 (.ref a):=⟨a,rfl,k.s H⟩
theorem Fq.rep {q:Rat}(h:Fq K H q v):∃ p,v=.ref p/\Rep K H (fr q.num q.den) (.ref p):=by
 obtain ⟨p,e,h⟩:=h;exact ⟨p,e,Pc h⟩
theorem MP {a b:Rat}:(fr a.num a.den=fr b.num b.den)↔a=b:=by
 refine ⟨fun h=>?_,fun h=>by rw [h]⟩;have h1:a.num=b.num/\(a.den:Int)=(b.den:Int):=by
  unfold fr at h;simp only [D.tup.injEq,List.cons.injEq,D.int.injEq] at h;exact ⟨h.1,h.2.1⟩
 exact Rat.ext h1.1 (by omega)
theorem BU {xs:List α}{v:α}(h:xs[xs.length-1]?=some v):atI xs (-1)=some v:=by
 have hl:=Qw h;have e:xs=xs.dropLast++[v]:=by
  have h1:xs≠[]:=by intro z;rw [z] at hl;simp at hl
  have h2:=List.dropLast_concat_getLast h1;have h3:xs.getLast h1=v:=by
   rw [List.getLast_eq_getElem];have:=Fu (l:=xs) (i:=xs.length-1) (by omega);rw [h] at this;exact (FF this).symm
  rw [h3] at h2;exact h2.symm
 rw [e];exact Ll _ _
inductive Qop (K:W.Frag) (op:Rat->Rat->Rat) (x:V) (y:V) (H:Hp) (Q:VK):Prop
 | mk (a b:Rat) (m n:Nat) (h1:Fq K H a x) (h2:Fq K H b y) (h3:RB m a) (h4:RB n b) (h5:m+n<=8900) (h6:∀ z H',Same H H'->Fq K H' (op a b) z->Q z H'):Qop K op x y H Q
inductive Qlt (K:W.Frag) (x:V) (y:V) (H:Hp) (Q:VK):Prop
 | mk (a b:Rat) (m n:Nat) (h1:Fq K H a x) (h2:Fq K H b y) (h3:RB m a) (h4:RB n b) (h5:m+n<=8900) (h6:Q (.bl (decide (a<b))) H):Qlt K x y H Q
inductive Qmax (K:W.Frag) (x:V) (y:V) (H:Hp) (Q:VK):Prop
 | mk (a b:Rat) (m n:Nat) (h1:Fq K H a x) (h2:Fq K H b y) (h3:RB m a) (h4:RB n b) (h5:m+n<=8900) (h6:∀ z,Fq K H (if a<b then b else a) z->Q z H):Qmax K x y H Q
abbrev Pr:=Int×Rat
def Fp (K:W.Frag) (H:Hp) (p:Pr) (v:V):Prop:=∃ a y,v=.ref a/\SqT K H a [.int p.1,y]/\Fq K H p.2 y
theorem Fp.grow {p:Pr}(g:Grow H H') (h:Fp K H p v):Fp K H' p v:=by
 obtain ⟨a,y,e,h1,h2⟩:=h;exact ⟨a,y,e,g.sqT h1,h2.grow g⟩
theorem Fp.same {p:Pr}(g:Same H H') (h:Fp K H p v):Fp K H' p v:=h.grow g.grow
def Wc:Int->List Pr->Bool
 | _,[]=>true
 | a,p :: r=>decide (a<p.1)&&Wc p.1 r
theorem limOk_cons {a:Int}{p:Pr}{r:List Pr}:Wc a (p :: r)=true↔a<p.1/\Wc p.1 r=true:=by
 show (decide (a<p.1)&&Wc p.1 r)=true↔_;rw [Eo,EM]
theorem Fq.int {i:Int}(h:SqT K H a [.int i,.int 1]):Fq K H (i:Rat) (.ref a):=by
 refine ⟨a,rfl,?_⟩;rw [Rat.num_intCast,Rat.den_intCast];exact h
def SL (K:W.Frag):List V->Hp->VK->Prop:=fun xs H Q=>∃ p c b u,xs=[.ref p,c]/\RelV c u/\(∀ u',RelV c u'->u'=u)/\((∃ ys,SqT K H p ys/\W.kitOne K (.type "tuple") u=some b)∨(∃ ys,SqL K H p ys/\W.kitOne K (.type "list") u=some b))/\Q (.bl b) H
def N2 (K:W.Frag):List V->Hp->VK->Prop:=fun xs H Q=>N3 K xs H Q∨SL K xs H Q
theorem Vh (K:W.Frag) {X:Cx}(hK:X.K=K):ZT X (.builtin "isinstance") (N2 K):=by
 subst hK;intro pins s σ H xs us Q I r h;rcases h with h | ⟨p,c,b,u,rfl,rc,uq,hh,q⟩
 ·exact Nu pins s σ H xs us Q I r h
 ·obtain ⟨u1,u2,rfl,r1,r2⟩:=Ke r;obtain rfl:=uq _ r2;obtain rfl:=r1.ref_of;rcases hh with ⟨ys,hs,k⟩ | ⟨ys,hs,k⟩
  ·obtain ⟨its,_,⟨o,e1,e2,_⟩,_⟩:=I.tuple hs;exact W.kia_one W.kitx_tuple I.kIn ⟨o,e1,e2⟩ k (fun z=>nomatch z) fun tk=>⟨.bl b,H,I.tok tk,rfl,q⟩
  ·obtain ⟨its,_,⟨o,n,e1,e2,_⟩,_⟩:=I.list hs;exact W.kia_one W.kitx_list I.kIn ⟨o,e1,e2⟩ k (fun z=>nomatch z) fun tk=>⟨.bl b,H,I.tok tk,rfl,q⟩
theorem Jn {x:V}{t:Value}{b:Bool}(ty:TyOf K H x t) (e:W.kitOne K t (.type T)=some b) (q:Q (.bl b) H):N2 K [x,.ty T] H Q:=.inl (RV ty e q)
theorem Se (h:SqT K H p ys) (q:Q (.bl true) H):N2 K [.ref p,.ty "tuple"] H Q:=.inr ⟨p,.ty "tuple",true,.type "tuple",rfl,rfl,fun _ h=>h,.inl ⟨ys,h,rfl⟩,q⟩
def prD (p:Pr):D:=.tup [.int p.1,fr p.2.num p.2.den]
theorem Fp.rep {p:Pr}(h:Fp K H p v):∃ a,v=.ref a/\Rep K H (prD p) (.ref a):=by
 obtain ⟨a,y,rfl,h1,h2⟩:=h;obtain ⟨b,rfl,r⟩:=h2.rep;refine ⟨a,rfl,.tup h1 rfl fun i d x e1 e2=>?_⟩
 match i,e1,e2 with
 | 0,e1,e2=>cases e1;cases e2;exact .int _
 | 1,e1,e2=>cases e1;cases e2;exact r
 | k+2,e1,e2=>simp at e1
theorem UR (xs:List V) (k:Nat):YN xs none (some (k:Int))=xs.take k:=by
 unfold YN;rw [HT.sIx_none,HT.sIx_nat,List.drop_zero,Nat.sub_zero];by_cases h:k<=xs.length
 ·rw [Nat.min_eq_left h]
 ·rw [Nat.min_eq_right (by omega),EX (Ft _),EX (by omega)]
theorem Vo (xs:List V) (k:Nat):YN xs (some (k:Int)) none=xs.drop k:=by
 unfold YN;rw [HT.sIx_none,HT.sIx_nat];by_cases h:k<=xs.length
 ·rw [Nat.min_eq_left h,EX (by rw [Et];omega)]
 ·rw [Nat.min_eq_right (by omega),List.drop_of_length_le (Ft _),List.drop_of_length_le (by omega)];simp
theorem Jz {p:Pr}:∀ {ps:List Pr}{a:Int},Wc a ps=true->(ps=[]->a<p.1)->(∀ q,ps[ps.length-1]?=some q->q.1<p.1)->Wc a (ps++[p])=true
 | [],a,_,h,_=>limOk_cons.mpr ⟨h rfl,rfl⟩
 | [q],a,h,_,h2=>by
  obtain ⟨k1,_⟩:=limOk_cons.mp h;exact limOk_cons.mpr ⟨k1,limOk_cons.mpr ⟨h2 q rfl,rfl⟩⟩
 | q :: q' :: t,a,h,_,h2=>by
  obtain ⟨k1,k2⟩:=limOk_cons.mp h;exact limOk_cons.mpr ⟨k1,Jz (ps:=q' :: t) k2 (fun z=>nomatch z) (fun r hr=>h2 r (by simpa using hr))⟩
section
variable {X:Cx} {pins:List (Addr×Obj)} {σ:St} {H:Hp} {s:Shared} {h':Heap}
theorem Inv.turnedL (I:Inv X pins σ H s) (k:∀ b o,b ∉ fp->s.heap.get? b=some o->h'.get? b=some o) (hf:∀ b∈fp,XC X pins H b):Inv X pins σ H { s with heap:=h',toks:=t' }:=by
 have nit:∀ b u,H b=some u->b ∉ fp:=fun b u e z=>by rw [(hf b z).1] at e;cases e
 refine I.step (g':=s.gens) (d':=s.drawn) (ch:=fp) (fun b hb=>⟨(hf b hb).2.2.2.1,(hf b hb).2.1,(hf b hb).2.2.2.2.1,(hf b hb).2.2.2.2.2⟩) (fun b o _ _ hc e _=>k b o hc e) (fun b o _ _ hc e _=>⟨o.slots,k b o hc e⟩) (fun _ _ _ _ n=>n)
  (fun b o hc e=>⟨o,k b o hc e⟩) (fun _ _ e=>e) (fun _ _ _ e=>e) (fun b ps e=>⟨#[],by rw [e];simp⟩) (fun m hm=>?_) (fun b u e=>?_) I.bare
 ·obtain ⟨o,es,ep,ho,r⟩:=hm;exact ⟨o,es,ep,k _ o (fun z=>(hf _ z).2.1 rfl) ho,r⟩
 ·refine (I.hok b u e).stay (fun c v hc q=>k c v ?_ q) (fun _ q=>q) fun _ _ q=>q
  rcases hc with z | z
  ·rw [z];exact nit b u e
  ·exact nit c _ z
theorem Inv.trackNew {D:Addr}{o:HO}{s0:Shared}(I:Inv X pins σ H s) (I0:Inv X pins σ H s0) (hD:s0.heap.objs.size<=D) (new:ObjOk X.prog X.w (upd H D o) s.heap D o):Inv X pins σ (upd H D o) s:=by
 refine I.track (FQ I0.sz hD) (I0.hok.fresh hD) (fun z=>?_) (fun x c e z=>?_) (fun p hp z=>?_) new
 ·have:=I0.lt;exact FM _ (FP (z ▸ this) hD)
 ·obtain ⟨v,q⟩:=I0.cell x c e;exact FM _ (FP (z ▸ q.lt) hD)
 ·have:=Fy (I0.pin p hp).1;exact FM _ (FP (z ▸ this) hD)
end
def Ite (K:W.Frag) (a:Addr):It:=
 ⟨fun i H=>∃ xs x,SqL K H a xs/\xs[i]?=some x,fun i H v H'=>∃ p x,v=.ref p/\H p=none/\H'=upd H p (.tup [.int i,x])/\∀ xs,SqL K H a xs->xs[i]?=some x,fun i H=>∃ xs,SqL K H a xs/\xs.length<=i⟩
theorem GI {k:Nat}(a e it:Addr) (hne:e≠it):Nx P w K (.Tuple es k pos) (Ite K a) [e,it] e (fun i h=>∃ old,IsEnum h e it i old/\h.IsListIter it a i) where
 mem:=by simp
 obj:=fun i h st b hb=>by
  obtain ⟨old,h1,o,e1,c,d⟩:=st;rcases FS.mp hb with rfl | hb
  ·exact ⟨_,h1,fun v z=>by
    have z':Data.fields _=Data.cell v:=z;cases z'⟩
  ·have:b=it:=by simpa using hb
   subst this;exact ⟨o,e1,fun v z=>by rw [d] at z;cases z⟩
 keep:=fun i h h' ⟨old,h1,st⟩ k=>⟨old,k e (by simp) _ h1,st.at fun o e=>k it (by simp) o e⟩
 item:=by
  intro X hP hw hK hc i pins s σ H E I hf st hg;subst hP hw hK;obtain ⟨xs,x,hq,hx⟩:=hg;obtain ⟨its,rv,p,hz⟩:=I.list hq;obtain ⟨u,hu,ru⟩:=rv.get hx;obtain ⟨old,h1,h2⟩:=st;refine wpAny_pyNext_enum_item h1 h2 p.isList (x:=u) (by simpa using hu) hne fun h' e1 e2 e3 e4 e5=>?_
  refine ⟨_,rfl,wpAny_letOwnedTupleGo_enum (s:={ s with heap:=h',toks:=s.toks+1 }) e1 fun h2' e6 sb=>?_⟩;have ne0:e≠s.heap.objs.size:=FI (Fy h1);have I1:Inv X pins σ H { s with heap:=h2',toks:=s.toks+1 }:=I.turnedL (fp:=[e,it]) (fun b o hb q=>by
   have n1:b≠e:=fun z=>hb (by simp [z])
   have n2:b≠it:=fun z=>hb (by simp [z])
   exact (sb.2 b n1).trans (e5 b o n1 n2 q)) hf
  have et:h2'.get? s.heap.objs.size=some { cls:=.type "tuple",data:=.seq #[.int i s.toks,u] }:=(sb.2 _ (Eb ne0)).trans e3;have I2:=I1.trackNew (o:=.tup [.int i,x]) I (Ft _) ⟨by show 2<=sizeLine;decide,[.int i s.toks,u],.cons ⟨_,rfl⟩ (.cons ru .nil),?_⟩
  ·refine ⟨.ref s.heap.objs.size,_,I2,rfl,⟨_,x,rfl,I.hok.fresh (Ft _),rfl,fun ys hy=>by rw [I.list_inj hy hq];exact hx⟩,⟨u,?_,?_⟩,fun b hb=>?_⟩
   ·have:((i:Int)+1)=((i+1:Nat):Int):=by omega
    rw [this] at e6;exact e6
   ·exact e2.at fun o q=>(sb.2 _ (Eb hne)).trans q
   ·rw [Qj ?_]
    ·exact (hf b hb).1
    ·intro z;obtain ⟨o,q,r⟩:=h2;rcases FS.mp hb with hb | hb
     ·exact ne0 (hb ▸ z)
     ·have:b=it:=by simpa using hb
      rw [this] at z;exact FI (Fy q) z
  ·exact ⟨_,et,rfl,0,rfl⟩
 done:=by
  intro X hP hw hK hc i pins s σ H E I hf st hg;subst hP hw hK;obtain ⟨xs,hq,hx⟩:=hg;obtain ⟨its,rv,p,hz⟩:=I.list hq;obtain ⟨old,h1,h2⟩:=st;have hl:=rv.length;exact wpAny_pyNext_enum_end (I.ok.hd hc) h1 h2 p.isList (by simp;omega) fun h' eb=>⟨rfl,I.turnedL (fp:=[e,it]) (t':=s.toks) (fun b o hb q=>eb b o (fun z=>hb (by simp [z])) q) hf⟩
 self:=fun _ _ _ _ _ ⟨old,h1,_⟩ h=>wpAny_pyIter_enum h1 h
def Rq (K:W.Frag) (ta:TA):TI:=fun σ H R=>ta σ H fun vs H1=>∃ a,vs=[.ref a]/\(∃ xs,SqL K H1 a xs)/\R (Ite K a) H1
theorem L7 (K:W.Frag) {es:List Expr}{k:Nat}{a:Expr}{ta:TA}{p pos pt:Pos}(hK:X.K=K) (hg:Gl X "enumerate") (hm:X.mg "enumerate"=none) (ha:PA X [a] ta) (hs:starEach [a] X.env=[(false,eval a X.env)]:=by rfl):PI X (.Tuple es k pt) (.Call (.Name "enumerate" p) [a] [] pos) (Rq K ta):=by
 subst hK;intro pins s σ H R I h;refine Call_ (WK I hg hm boot_enumerate (Dt (thn (ha pos pins s σ H _ I h) fun us s1 ⟨vs,H1,I1,r1,q1⟩=>?_) hs rfl));obtain ⟨l,rfl,⟨xs,hq⟩,q⟩:=q1;obtain ⟨u1,rfl,r2⟩:=XH r1;obtain rfl:=r2.ref_of;obtain ⟨its,rv,pl,hz⟩:=I1.list hq;refine call_enumerate_list pl.isList fun h' e1 e2 e3 e4=>?_
 have I2:Inv X pins σ H1 { s1 with heap:=h' }:=I1.kept (t':=s1.toks) e4;refine wpAny_pyIter_enum (s:={ s1 with heap:=h' }) e1 ?_;refine ⟨s1.heap.objs.size+1,[s1.heap.objs.size+1,s1.heap.objs.size],_,_,H1,rfl,I2,GI l _ _ (Nat.succ_ne_self _),⟨_,e1,e2⟩,fun b hb=>?_,q⟩;have hb':s1.heap.objs.size<=b:=by
  rcases FS.mp hb with hb | hb
  ·rw [hb];exact EA _
  ·have:b=s1.heap.objs.size:=by simpa using hb
   rw [this];exact Ft _
 exact I1.fpOk hb' (I1.hok.fresh hb')
theorem HU {D:Q3}(Pv:Nat->St->Hp->Prop) (h0:Pv 0 σ H) (hl:∀ i σ H,i<=xs.length->Pv i σ H->SqL K H a xs)
  (hs:∀ i x σ H p,xs[i]?=some x->Pv i σ H->H p=none->g (.ref p) σ (upd H p (.tup [.int (i:Nat),x])) fun σ2 H2=>tb { D with nx:=Pv (i+1),ct:=Pv (i+1),bk:=D.nx } σ2 H2) (hd:∀ σ H,Pv xs.length σ H->D.nx σ H):Ky (Ite K a) g tb D σ H:=by
 refine ⟨fun i m σ H=>m=xs.length-i/\i<=xs.length/\Pv i σ H,⟨xs.length,by simp,FZ _,h0⟩,?_⟩;rintro i m σ H ⟨rfl,hi,p⟩;have q:=hl i σ H hi p;by_cases hlt:i<xs.length
 ·refine .inr ⟨⟨xs,xs[i],q,by simp [hlt]⟩,Pv (i+1),fun σ' H' p'=>⟨xs.length-(i+1),by omega,rfl,hlt,p'⟩,fun x H' y=>?_⟩;obtain ⟨pp,x',rfl,hn,rfl,y⟩:=y;exact hs i x' σ _ pp (y xs q) p hn
 ·have e:i=xs.length:=by omega
  subst e;exact .inl ⟨⟨xs,q,Ft _⟩,hd σ H p⟩
def Vp (cells:List (Str×Addr)):List (Str×NameKind)->List (Str×Addr)->Option (List (Str×Addr))
 | [],acc=>some acc
 | (n,k) :: r,acc=>if k == .free then (match cells.lookup n with | some a=>Vp cells r ((n,a) :: acc) | none=>none) else Vp cells r acc
theorem JH {cells:List (Str×Addr)}:∀ {names:List (Str×NameKind)}{acc cl:List (Str×Addr)},Vp cells names acc=some cl->(∀ p∈acc,cells.lookup p.1=some p.2)->∀ p∈cl,cells.lookup p.1=some p.2
 | [],acc,cl,h,ha=>by
  have:acc=cl:=FF h;subst this;exact ha
 | (n,k) :: r,acc,cl,h,ha=>by
  unfold Vp at h;split at h
  ·split at h
   ·rename_i a e;exact JH h fun p hp=>by
     rcases FS.mp hp with rfl | hp
     ·exact e
     ·exact ha p hp
   ·cases h
  ·exact JH h ha
theorem Np {cl:List (Str×Addr)}(h:Vp env.cells scope.names []=some cl):closureFor scope env=pure cl:=by
 simp only [closureFor];have gen:∀ (names:List (Str×NameKind)) (acc:List (Str×Addr)),Vp env.cells names acc=some cl->(do let r <-forIn names acc fun (x:Str×NameKind) (cs:List (Str×Addr))=>if (x.2 == NameKind.free)=true then do let a <-cellOf env x.1;pure (ForInStep.yield ((x.1,a) :: cs)) else pure (ForInStep.yield cs);pure r)=(pure cl:Sem _):=by
  intro names
  induction names with
  | nil=>intro acc h;have:acc=cl:=FF h;subst this;rfl
  | cons y r ih=>
   intro acc h;obtain ⟨n,k⟩:=y;unfold Vp at h;rw [List.forIn_cons];split at h
   ·rename_i e;split at h
    ·rename_i a ea;simp only [Fs e];have:=ih _ h;simp only [cellOf,ea];exact this
    ·cases h
   ·rename_i e;simp only [Fl e];exact ih _ h
 exact Eq.trans (congrArg (fun m:Sem (List (Str×Addr))=>m >>= pure) (gen _ _ h)) rfl
theorem UH {cl:List (Str×Addr)}{c:Addr}(h:cl.lookup x=some c):(x,c)∈cl:=by
 induction cl with
 | nil=>simp at h
 | cons y r ih=>
  rw [List.lookup_cons] at h;split at h
  ·rename_i e;have e':x=y.1:=by simpa using e
   cases h;rw [e'];exact Ea ..
  ·exact F9 _ (ih h)
def Hj (X:Cx) (scope:Scope) (N:List Str) (caps:List (Option Nat)):Bool:=(List.range N.length).all fun i=>match N[i]?,caps[i]? with
 | some x,some (some j)=>X.N[j]? == some x&&X.env.kindOf x == some .cell&&(relabel scope X.env).names.lookup x == some .cell
 | _,_=>true
theorem BQ {cl:List (Str×Addr)}(clos:Vp X.env.cells scope.names []=some cl) (kind:scope.kind=.function) (nm:(scope.names.all fun y=>y.2 != .cell&&(y.2 != .local||scope.names.lookup y.1 == some .local))=true)
  (has:((relabel scope X.env).names.all fun y=>(y.2 != .cell&&y.2 != .free)||(cl.lookup y.1).isSome)=true) (cap:Hj X scope N caps=true) (len:caps.length=N.length):X6 X scope cl N caps where
 clos:=Np clos
 kind:=kind
 nocell:=fun y hy z=>by
  have:=Eu.mp nm y hy;rw [z] at this;simp at this
 names:=fun y hy z=>by
  have:=Eu.mp nm y hy;rw [z] at this;simpa using this
 sub:=fun x c h=>JH clos (fun p hp=>absurd hp (by simp)) _ (UH h)
 has:=fun x h=>by
  have gen:∀ (l:List (Str×NameKind)),(l.all fun y=>(y.2 != .cell&&y.2 != .free)||(cl.lookup y.1).isSome)=true->(l.lookup x=some .cell∨l.lookup x=some .free)->∃ c,cl.lookup x=some c:=by
   intro l
   induction l with
   | nil=>intro _ h;simp at h
   | cons y r ih=>
    intro ha h;rw [List.all_cons,Eo] at ha;rw [List.lookup_cons] at h;split at h
    ·rename_i e;have e':x=y.1:=by simpa using e
     have h3:y.2=.cell∨y.2=.free:=h.elim (fun h=>.inl (FF h)) (fun h=>.inr (FF h));have:=ha.1;have h4:(cl.lookup y.1).isSome=true:=by
      rcases h3 with h3 | h3 <;> rw [h3] at this <;> exact this
     rw [e'];exact Option.isSome_iff_exists.mp h4
    ·exact ih ha.2 h
  exact gen _ has h
 cap:=fun i j x h1 h2=>by
  have hi:=Qw h1;have:=Eu.mp cap i (List.mem_range.mpr hi);simp only [h1,h2,Eo,beq_iff_eq] at this;exact ⟨this.1.1,this.1.2,this.2⟩
 len:=len
theorem ZR {cl:List (Str×Addr)}(a:Vp X.env.cells scope.names []=some cl:=by rfl) (b:scope.kind=.function:=by rfl) (c:(scope.names.all fun y=>y.2 != .cell&&(y.2 != .local||scope.names.lookup y.1 == some .local))=true:=by rfl) (d:((relabel scope X.env).names.all fun y=>(y.2 != .cell&&y.2 != .free)||(cl.lookup y.1).isSome)=true:=by rfl) (e:Hj X scope N caps=true:=by rfl) (f:caps.length=N.length:=by rfl):X6 X scope cl N caps:=BQ a b c d e f
theorem QU {wi:TI}:Kh caps wi g tt te σ H Q=wi σ H fun J H1=>Kz J g tt te (WN caps σ) H1 Q:=rfl
theorem ZK {Q:Bool->Hp->Prop}:Ss σ H Q=Q true H:=rfl
theorem LC {ta:TA}:Rq K ta σ H R=ta σ H fun vs H1=>∃ a,vs=[.ref a]/\(∃ xs,SqL K H1 a xs)/\R (Ite K a) H1:=rfl
def CN (Pv:Nat->List V->St->Hp->Prop) (n i:Nat) (acc:List V) (σ:St) (H:Hp):Prop:=∃ m',m'<n-i/\m'=n-(i+1)/\i+1<=n/\acc.length<=i+1/\Pv (i+1) acc σ H
theorem CN.mk {Pv:Nat->List V->St->Hp->Prop}{acc:List V}(hi:i<n) (ha:acc.length<=i+1) (h:Pv (i+1) acc σ H):CN Pv n i acc σ H:=⟨n-(i+1),by omega,rfl,hi,ha,h⟩
theorem Zy (Pv:Nat->List V->St->Hp->Prop) (h0:Pv 0 [] σ0 H) (hl:∀ i acc σ H,i<=xs.length->Pv i acc σ H->SqL K H a xs) (hn:xs.length<=1000)
  (hs:∀ i x acc σ H,xs[i]?=some x->acc.length<=i->Pv i acc σ H->g x σ H fun σ2 H2=>tt σ2 H2 fun b H3=>if b=true then te σ2 H3 fun v H4=>CN Pv xs.length i (acc++[v]) σ2 H4 else CN Pv xs.length i acc σ2 H3)
  (hd:∀ acc σ H,Pv xs.length acc σ H->∀ p,H p=none->Q (.ref p) (upd H p (.lst acc))):Kz (Itl K a) g tt te σ0 H Q:=by
 refine ⟨fun i m acc σ H=>m=xs.length-i/\i<=xs.length/\acc.length<=i/\Pv i acc σ H,⟨xs.length,by simp,FZ _,Ft _,h0⟩,?_⟩;rintro i m acc σ H ⟨rfl,hi,ha,p⟩;have q:=hl i acc σ H hi p;by_cases hlt:i<xs.length
 ·refine .inr ⟨⟨xs,xs[i],q,by simp [hlt]⟩,QF (by omega),fun x H' y=>?_⟩;obtain ⟨e,y⟩:=y;subst e;exact hs i x acc σ _ (y xs q) ha p
 ·have e:i=xs.length:=by omega
  subst e;exact .inl ⟨⟨xs,q,Ft _⟩,hd acc σ H p⟩
def Itz (K:W.Frag) (a b:Addr):It:=
 ⟨fun i H=>∃ xs ys x y,SqL K H a xs/\SqL K H b ys/\xs[i]?=some x/\ys[i]?=some y,fun i H v H'=>∃ p x y,v=.ref p/\H p=none/\H'=upd H p (.tup [x,y])/\(∀ xs,SqL K H a xs->xs[i]?=some x)/\∀ ys,SqL K H b ys->ys[i]?=some y,
  fun i H=>∃ xs ys,SqL K H a xs/\SqL K H b ys/\(xs.length<=i∨ys.length<=i)⟩
theorem NK {k:Nat}(l1 l2 z TI TO i1 i2:Addr) (D:ZipApart z TI TO i1 i2 l1 l2) :
  Nx P w K (.Tuple es k pos) (Itz K l1 l2) [z,TI,TO,i1,i2] z (fun i h=>IsZip h z TI TO .none/\IsPair h TI (.ref i1) (.ref i2)/\(∃ a b,IsPair h TO a b)/\h.IsListIter i1 l1 i/\h.IsListIter i2 l2 i) where
 mem:=by simp
 obj:=fun i h st b hb=>by
  obtain ⟨hz,h1,⟨_,_,h2⟩,⟨o3,e3,_,d3⟩,⟨o4,e4,_,d4⟩⟩:=st;simp only [FS,List.not_mem_nil,or_false] at hb;rcases hb with rfl | rfl | rfl | rfl | rfl
  ·exact ⟨_,hz,fun v q=>by have q':Data.fields _=Data.cell v:=q;cases q'⟩
  ·exact ⟨_,h1,fun v q=>by have q':Data.seq _ _=Data.cell v:=q;cases q'⟩
  ·exact ⟨_,h2,fun v q=>by have q':Data.seq _ _=Data.cell v:=q;cases q'⟩
  ·exact ⟨o3,e3,fun v q=>by rw [d3] at q;cases q⟩
  ·exact ⟨o4,e4,fun v q=>by rw [d4] at q;cases q⟩
 keep:=fun i h h' ⟨hz,h1,⟨a,b,h2⟩,h3,h4⟩ k=>⟨k z (by simp) _ hz,k TI (by simp) _ h1,⟨a,b,k TO (by simp) _ h2⟩,h3.at fun o e=>k i1 (by simp) o e,h4.at fun o e=>k i2 (by simp) o e⟩
 item:=by
  intro X hP hw hK hc i pins s σ H E I hf st hg;subst hP hw hK;obtain ⟨xs,ys,x,y,hq1,hq2,hx,hy⟩:=hg;obtain ⟨its1,rv1,p1,_⟩:=I.list hq1;obtain ⟨its2,rv2,p2,_⟩:=I.list hq2;obtain ⟨u1,hu1,ru1⟩:=rv1.get hx;obtain ⟨u2,hu2,ru2⟩:=rv2.get hy;obtain ⟨hz,hTI,⟨a,b,hTO⟩,h1,h2⟩:=id st;refine wpAny_pyNext_zip_item D hz hTI hTO h1 h2 p1.isList p2.isList (x:=u1) (y:=u2) (by simpa using hu1) (by simpa using hu2) fun h' e1 e2 e3 e4 e5 e6 e7=>?_
  refine ⟨_,rfl,wpAny_letOwnedTupleGo_zip (s:={ s with heap:=h' }) e1 fun h2' e8 sb=>?_⟩;have ne0:z≠s.heap.objs.size:=FI (Fy hz);have I1:Inv X pins σ H { s with heap:=h2' }:=I.turnedL (fp:=[z,TI,TO,i1,i2]) (t':=s.toks) (fun b o hb q=>by
   have n1:b≠z:=fun q=>hb (by simp [q])
   exact (sb.2 b n1).trans (e7 b o n1 (fun q=>hb (by simp [q])) (fun q=>hb (by simp [q])) (fun q=>hb (by simp [q])) q)) hf
  have et:h2'.get? s.heap.objs.size=some { cls:=.type "tuple",data:=.seq #[u1,u2] }:=(sb.2 _ (Eb ne0)).trans e5;have I2:=I1.trackNew (o:=.tup [x,y]) I (Ft _) ⟨by show 2<=sizeLine;decide,[u1,u2],.cons ru1 (.cons ru2 .nil),⟨_,et,rfl,0,rfl⟩⟩;refine ⟨.ref s.heap.objs.size,_,I2,rfl,⟨_,x,y,rfl,I.hok.fresh (Ft _),rfl,fun ys hy'=>by rw [I.list_inj hy' hq1];exact hx,fun ys hy'=>by rw [I.list_inj hy' hq2];exact hy⟩,⟨e8,?_,⟨_,_,(sb.2 _ D.TOz).trans e2⟩,e3.at fun o q=>(sb.2 _ D.i1z).trans q,e4.at fun o q=>(sb.2 _ D.i2z).trans q⟩,fun b hb=>?_⟩
  ·exact (sb.2 _ D.TIz).trans (e7 _ _ D.TIz D.TITO D.TIi1 D.TIi2 hTI)
  ·rw [Qj ?_]
   ·exact (hf b hb).1
   ·intro q;have:∃ o,s.heap.get? b=some o:=by
     simp only [FS,List.not_mem_nil,or_false] at hb;obtain ⟨o3,g3,_⟩:=h1;obtain ⟨o4,g4,_⟩:=h2;rcases hb with rfl | rfl | rfl | rfl | rfl
     ·exact ⟨_,hz⟩
     ·exact ⟨_,hTI⟩
     ·exact ⟨_,hTO⟩
     ·exact ⟨_,g3⟩
     ·exact ⟨_,g4⟩
    obtain ⟨o,g⟩:=this;exact FI (Fy g) q
 done:=by
  intro X hP hw hK hc i pins s σ H E I hf st hg;subst hP hw hK;obtain ⟨xs,ys,hq1,hq2,hx⟩:=hg;obtain ⟨its1,rv1,p1,_⟩:=I.list hq1;obtain ⟨its2,rv2,p2,_⟩:=I.list hq2;obtain ⟨hz,hTI,⟨a,b,hTO⟩,h1,h2⟩:=st;have hl1:=rv1.length;have hl2:=rv2.length;refine wpAny_pyNext_zip_end (I.ok.hd hc) D hz hTI hTO h1 h2 p1.isList p2.isList ?_ fun h' eb=>⟨rfl,I.turnedL (fp:=[z,TI,TO,i1,i2]) (t':=s.toks) (fun b o hb q=>eb b o (fun q=>hb (by simp [q])) (fun q=>hb (by simp [q])) (fun q=>hb (by simp [q])) (fun q=>hb (by simp [q])) q) hf⟩
  rcases hx with hx | hx
  ·exact .inl (by simp;omega)
  ·exact .inr (by simp;omega)
 self:=fun _ _ _ _ _ ⟨hz,_⟩ h=>wpAny_pyIter_zip hz h
theorem Pz {a b:Nat}(h:a<b∨b<a):a≠b:=by omega
theorem Hq (n l1 l2:Nat) (h1:l1<n) (h2:l2<n):ZipApart (n+4) (n+2) (n+3) n (n+1) l1 l2:=by
 constructor <;> exact Pz (by omega)
def Bv (K:W.Frag) (ta:TA):TI:=fun σ H R=>ta σ H fun vs H1=>∃ a b,vs=[.ref a,.ref b]/\(∃ xs,SqL K H1 a xs)/\(∃ ys,SqL K H1 b ys)/\R (Itz K a b) H1
theorem N8 (K:W.Frag) {es:List Expr}{k:Nat}{a b:Expr}{ta:TA}{p pos pt:Pos}(hK:X.K=K) (hg:Gl X "zip") (hm:X.mg "zip"=none) (ha:PA X [a,b] ta) (hs:starEach [a,b] X.env=[(false,eval a X.env),(false,eval b X.env)]:=by rfl) (hs2:starEach [b] X.env=[(false,eval b X.env)]:=by rfl):PI X (.Tuple es k pt) (.Call (.Name "zip" p) [a,b] [] pos) (Bv K ta):=by
 subst hK;intro pins s σ H R I h;refine Call_ (WK I hg hm boot_zip (Dt (thn (ha pos pins s σ H _ I h) fun us s1 ⟨vs,H1,I1,r1,q1⟩=>?_) (by rw [hs,hs2]) (by rw [hs2];rfl)));obtain ⟨l1,l2,rfl,⟨xs,hq1⟩,⟨ys,hq2⟩,q⟩:=q1;obtain ⟨u1,u2,rfl,r2,r3⟩:=Ke r1;obtain rfl:=r2.ref_of;obtain rfl:=r3.ref_of;obtain ⟨its1,rv1,p1,_⟩:=I1.list hq1;obtain ⟨its2,rv2,p2,_⟩:=I1.list hq2;have lt1:l1<s1.heap.objs.size:=by obtain ⟨o,e,_⟩:=p1.isList;exact Fy e
 have lt2:l2<s1.heap.objs.size:=by obtain ⟨o,e,_⟩:=p2.isList;exact Fy e
 refine call_zip_2 p1.isList p2.isList fun h' e1 e2 e3 e4 e5 e6 e7=>?_
 have I2:Inv X pins σ H1 { s1 with heap:=h' }:=I1.kept (t':=s1.toks) e7;refine wpAny_pyIter_zip (s:={ s1 with heap:=h' }) e1 ?_;generalize hn:s1.heap.objs.size=n at *;have D:ZipApart (n+4) (n+2) (n+3) n (n+1) l1 l2:=Hq n l1 l2 lt1 lt2;refine ⟨n+4,[n+4,n+2,n+3,n,n+1],_,_,H1,rfl,I2,NK l1 l2 _ _ _ _ _ D,⟨e1,e2,⟨_,_,e3⟩,e4,e5⟩,fun b hb=>?_,q⟩;have hb':s1.heap.objs.size<=b:=by
  rw [hn];simp only [FS,List.not_mem_nil,or_false] at hb;rcases hb with rfl | rfl | rfl | rfl | rfl
  ·exact Nat.le_add_right _ _
  ·exact Nat.le_add_right _ _
  ·exact Nat.le_add_right _ _
  ·exact Ft _
  ·exact Nat.le_add_right _ _
 exact I1.fpOk hb' (I1.hok.fresh hb')
theorem S1 {b:Addr}{D:Q3}(Pv:Nat->St->Hp->Prop) (n:Nat) (hn:n=min xs.length ys.length) (h0:Pv 0 σ H) (hl:∀ i σ H,Pv i σ H->SqL K H a xs/\SqL K H b ys)
  (hs:∀ i x y σ H p,xs[i]?=some x->ys[i]?=some y->Pv i σ H->H p=none->g (.ref p) σ (upd H p (.tup [x,y])) fun σ2 H2=>tb { D with nx:=Pv (i+1),ct:=Pv (i+1),bk:=D.nx } σ2 H2) (hd:∀ σ H,Pv n σ H->D.nx σ H):Ky (Itz K a b) g tb D σ H:=by
 refine ⟨fun i m σ H=>m=n-i/\i<=n/\Pv i σ H,⟨n,by simp,FZ _,h0⟩,?_⟩;rintro i m σ H ⟨rfl,hi,p⟩;obtain ⟨q1,q2⟩:=hl i σ H p;by_cases hlt:i<n
 ·have h1:i<xs.length:=by omega
  have h2:i<ys.length:=by omega
  refine .inr ⟨⟨xs,ys,xs[i],ys[i],q1,q2,by simp [h1],by simp [h2]⟩,Pv (i+1),fun σ' H' p'=>⟨n-(i+1),by omega,rfl,hlt,p'⟩,fun x H' y=>?_⟩;obtain ⟨pp,x',y',rfl,hn',rfl,k1,k2⟩:=y;exact hs i x' y' σ _ pp (k1 xs q1) (k2 ys q2) p hn'
 ·have e:i=n:=by omega
  subst e;exact .inl ⟨⟨xs,ys,q1,q2,by omega⟩,hd σ H p⟩
def SQ (K:W.Frag):List V->Hp->VK->Prop:=fun xs H Q=>∃ (p:Addr) (bs:List Bool),xs=[.ref p]/\SqL K H p (bs.map V.bl)/\Q (.bl (bs.all id)) H
def SO (K:W.Frag):List V->Hp->VK->Prop:=fun xs H Q=>∃ (p:Addr) (bs:List Bool),xs=[.ref p]/\SqL K H p (bs.map V.bl)/\Q (.bl (bs.any id)) H
theorem U0 {bs:List Bool}(h:Vals (bs.map V.bl) us):us=bs.map Value.bool:=by
 induction bs generalizing us with
 | nil=>cases h;rfl
 | cons b r ih=>
  cases h with
  | cons h1 h2=>
   have e:_=Value.bool b:=h1;rw [e,ih h2];rfl
theorem GR {bs:List Bool}:((List.range bs.length).all fun i=>bs.getD i false)=bs.all id:=by
 have e:bs=(List.range bs.length).map fun i=>bs.getD i false:=by
  apply List.ext_getElem
  ·simp
  ·intro i h1 h2;simp [Ef,Fu h1]
 conv=>rhs;rw [e]
 rw [List.all_map];rfl
theorem GQ {bs:List Bool}:((List.range bs.length).any fun i=>bs.getD i false)=bs.any id:=by
 have e:bs=(List.range bs.length).map fun i=>bs.getD i false:=by
  apply List.ext_getElem
  ·simp
  ·intro i h1 h2;simp [Ef,Fu h1]
 conv=>rhs;rw [e]
 rw [List.any_map];rfl
theorem WQ (K:W.Frag) {X:Cx}(hK:X.K=K) (hc:X.calm=true):ZT X (.builtin "all") (SQ K):=by
 subst hK;intro pins s σ H xs us Q I r h;obtain ⟨p,bs,rfl,hq,q⟩:=h;obtain ⟨u,rfl,r1⟩:=XH r;obtain rfl:=r1.ref_of;obtain ⟨its,rv,pl,_⟩:=I.list hq;have e:=U0 rv;subst e;refine call_all_walk (wpAny_pyIter_list pl.isList ⟨_,_,_,_,_,_,fun i=>bs.getD i false,rfl,Walks.list (A:=X.A.in1) (I.ok.hd hc) s.heap.objs.size p ?_ _,⟨⟨_,FY _ rfl,rfl,rfl⟩,pl.isList.push _⟩,?_,fun h' tk hk=>?_⟩)
 ·obtain ⟨o,g,_⟩:=pl.isList;exact FI (Fy g)
 ·intro i v s' Q' E' hv hq';have hv':(bs.map Value.bool)[i]?=some v:=by simpa using hv
  rw [Fx] at hv';obtain ⟨b,hb,rfl⟩:=FO.mp hv';have e:bs.getD i false=b:=by rw [Ef,hb];rfl
  have hq2:Q' (bs.getD i false) s':=hq';rw [e] at hq2;exact EK hq2
 ·have J:Inv X pins σ H { s with heap:=h',toks:=tk }:=I.kept fun b o g=>hk b o (fun z=>by
   have z':b=s.heap.objs.size:=by simpa using z
   exact FI (Fy g) z') (FG _ g)
  refine QH J q ?_;rw [FN,Fo,GR]
theorem Nv (K:W.Frag) {X:Cx}(hK:X.K=K) (hc:X.calm=true):ZT X (.builtin "any") (SO K):=by
 subst hK;intro pins s σ H xs us Q I r h;obtain ⟨p,bs,rfl,hq,q⟩:=h;obtain ⟨u,rfl,r1⟩:=XH r;obtain rfl:=r1.ref_of;obtain ⟨its,rv,pl,_⟩:=I.list hq;have e:=U0 rv;subst e;refine call_any_walk (wpAny_pyIter_list pl.isList ⟨_,_,_,_,_,_,fun i=>bs.getD i false,rfl,Walks.list (A:=X.A.in1) (I.ok.hd hc) s.heap.objs.size p ?_ _,⟨⟨_,FY _ rfl,rfl,rfl⟩,pl.isList.push _⟩,?_,fun h' tk hk=>?_⟩)
 ·obtain ⟨o,g,_⟩:=pl.isList;exact FI (Fy g)
 ·intro i v s' Q' E' hv hq';have hv':(bs.map Value.bool)[i]?=some v:=by simpa using hv
  rw [Fx] at hv';obtain ⟨b,hb,rfl⟩:=FO.mp hv';have e:bs.getD i false=b:=by rw [Ef,hb];rfl
  have hq2:Q' (bs.getD i false) s':=hq';rw [e] at hq2;exact EK hq2
 ·have J:Inv X pins σ H { s with heap:=h',toks:=tk }:=I.kept fun b o g=>hk b o (fun z=>by
   have z':b=s.heap.objs.size:=by simpa using z
   exact FI (Fy g) z') (FG _ g)
  refine QH J q ?_;rw [FN,Fo,GQ]
def CMulU (i j:Int):Prop:=Bd 4000000 i/\Bd 4000000 j
theorem CMulU.ok {i:Int}(h:CMulU i j):IntMulOk i j:=by
 have h1:=h.1.bits;have h2:=h.2.bits;unfold IntMulOk;have e:Builtin.Int.intTooBig ((Builtin.Int.intBits i:Int)+(Builtin.Int.intBits j:Int))=false:=by
  unfold Builtin.Int.intTooBig;have e2:bitsLine=134217728:=by decide
  rw [e2];exact F6 (by omega)
 rw [e];simp
theorem op_mulU:OpR X (binaryOp .Mult) (rI CMulU fun i j=>.int (i*j)):=opI fun _ _ _ _ _ _ _ hc q=>mul_int q hc.ok
def Ka (ns:List Int):Prop:=∀ i∈ns,Bd 1048576 i
theorem P5 (h:W.WData.layableAll [W.WData.list (ns.map W.WData.int)]=true):Ka ns:=by
 have h1:W.WData.weight (W.WData.list (ns.map W.WData.int))<=2 ^ 20:=by
  have h2:W.WData.layable (W.WData.list (ns.map W.WData.int))=true:=by
   have:=h;unfold W.WData.layableAll at this;simpa using this
  unfold W.WData.layable at h2;rw [Eo] at h2;exact Dp h2.2
 have h3:W.WData.weightAll (ns.map W.WData.int)<=2 ^ 20:=by
  unfold W.WData.weight at h1;exact h1
 intro i hi;have gen:∀ (l:List Int),i∈l->(if i == 0 then 0 else i.natAbs.log2+1)<=W.WData.weightAll (l.map W.WData.int):=by
  intro l
  induction l with
  | nil=>intro h;simp at h
  | cons x r ih=>
   intro h;rw [F5];unfold W.WData.weightAll;rcases FS.mp h with rfl | h
   ·show _<=W.WData.weight (W.WData.int i)+1+_;unfold W.WData.weight;omega
   ·have:=ih h;omega
 have:=gen ns hi;unfold Bd;by_cases z:i=0
 ·rw [z];exact Nat.two_pow_pos _
 ·rw [Fl (by simpa using z)] at this;have hp:i.natAbs≠0:=by omega
  exact (Nat.log2_lt hp).mp (by omega)
open PySem.W in
theorem walk_ofW {l:W.OpenLaw}{k:Nat}{q:Program}{XP:(Str->Option Value)->Heap->Prop}{YP:World->Heap->Prop}{d:DefRec}{K:Params->W.Frag}{CX:World->CXT}{sp:World->Sp} 
  (hn:l.most=some n) (hn2:n<=sizeLine) (hdf:d.params.defaults=[]) (hr:Room k callerA)
  (hY:∀ (w:World) (h:Heap),YP w h->(K w.params).In h)
  (F:∀ (w:World) (mg:Str->Option Value) (fa:Addr) (h:Heap),(K w.params).In h->h.Ns mainGlobals mg->mg d.name=some (.ref fa) ->
   ∃ fd:FuncData,(∀ (s:Shared) (u:Value),BindsTo s fd ⟨[u],[]⟩ [(x,u)]) /\
    ∀ base:Heap,(K w.params).In base->base.Ns mainGlobals mg->FnOk l.prog w (K w.params) mg base (CX w) k fa fd [x] (sp w))
  (hsp:∀ (w:World) (H:Hp) (a:Addr) (ns:List Int),ns.length<=n->Ka ns->B0 H->SqL (K w.params) H a (ns.map V.int)->sp w [.ref a] H (fun v _=>v=.bl true) fun _ _ _=>False)
  (hCX:∀ (w:World) (H:Hp) (s:Shared) (e:Value) (s':Shared),CX w [] H s (fun _ _ _=>False) e s'->False) :
  W.WalkO q loose XP YP l.row.toRowW d [] (fun f vs=>PySem.call f vs):=by
 intro w s₀ s₁ mg mb G Y fa o pm cd doc dV kV ho hd hcd hD hmg hg args vals as hpre hlay hrd hwl hlo;obtain rfl:dV=.none:=Dflts.none hD hdf;obtain rfl:kV=.none:=Dflts.noKw hD;obtain ⟨a,vs,ns,rfl,rfl,hobj,hints,hlen⟩:=Att.script_of hn hpre hwl;have hbig:=P5 hlay;have KX:=hY w _ Y;obtain ⟨fd,hb,hF⟩:=F w mg fa _ KX G.T.g hmg;refine enter_call (EW (Mu KX G.T.g G.T.b G.T.builtins G.T.nolimit hg hobj hints (FQ hlen hn2) hr hF hb (fun H hO hS=>hsp w H a ns hlen hbig hO hS) fun H e s'=>hCX w H s₁ e s') fun r s' hq=>?_);obtain ⟨rfl,h2,h3,h4⟩:=hq;exact ⟨.inl ⟨.bool true,.bool true,[],rfl,fun _=>rfl,.bool true,Att.post_true l _,fun _=>⟨List.Pairwise.nil,fun _ hm=>(nomatch hm)⟩⟩,h2,h3,h4⟩
theorem BF {a:Int}(h:b≠0):(a.fmod b).natAbs<b.natAbs:=by
 rcases Int.lt_or_gt_of_ne h with c | c
 ·have e:a.fmod b=-((-a).fmod (-b)):=by rw [Int.neg_fmod_neg];omega
  rw [e];have h1:=Int.fmod_nonneg_of_pos (-a) (show 0 < -b by omega);have h2:=Int.fmod_lt_of_pos (-a) (show 0 < -b by omega);omega
 ·have h1:=Int.fmod_nonneg_of_pos a c;have h2:=Int.fmod_lt_of_pos a c;omega
theorem MM {a:Int}:Int.gcd b (a.fmod b)=Int.gcd a b:=by
 have e:a.fmod b=a-b*a.fdiv b:=by rw [Int.fmod_def]
 apply Nat.dvd_antisymm
 ·apply Int.dvd_gcd
  ·have h1:((Int.gcd b (a.fmod b):Nat):Int) ∣ b:=Int.gcd_dvd_left ..;have h2:((Int.gcd b (a.fmod b):Nat):Int) ∣ a.fmod b:=Dn ..;have:a=a.fmod b+b*a.fdiv b:=by omega
   have h3:=Int.dvd_add h2 (Int.dvd_mul_of_dvd_left (c:=a.fdiv b) h1);rw [<-this] at h3;exact h3
  ·exact Int.gcd_dvd_left ..
 ·apply Int.dvd_gcd
  ·exact Dn ..
  ·rw [e];exact Int.dvd_sub (Int.gcd_dvd_left ..) (Int.dvd_mul_of_dvd_left (Dn ..))
theorem TK {a b d e:V}:start N [a,b,c,d,e]=some a :: some b :: some c :: some d :: some e :: List.replicate (N.length-5) none:=rfl
section
variable {X:Cx}
theorem VJ {spos:Pos}{cl:List (Str×Addr)}{wi:TI}(hN:X.N.Nodup) (hy:X.N[i]?=some y) (hx:Loc X.env.scope y) (hc:X.calm=true) (O:X6 X scope cl N caps)
  (hi:PI X tg iter wi) (hg:∀ C s H ex,PG (blk X scope cl N C s H ex) tg g) (ht:∀ C s H ex,PTs (blk X scope cl N C s H ex) ifs tt) (he:∀ C s H ex,PE (blk X scope cl N C s H ex) elt te)
  (hs:∀ v,foldedSetIterable iter X.env v=pure v:=by intro _;rfl) (hsw:swapsWith (.ListComp elt [⟨tg,iter,ifs,0⟩] scope pos) (some (.Name y py)) spos.line X.env=pure true:=by rfl)
  (hf:X.fn y=true∨X.env.scope.names.lookup y=some .local:=by first | exact .inl rfl | exact .inr rfl | assumption):PS X (.Assign [.Name y py] (.ListComp elt [⟨tg,iter,ifs,0⟩] scope pos) spos) (Z4 (Kh caps wi g tt te) (Zt i)):=by
 intro pins s σ H D I h;rw [exec_Assign_Name_used _ _ _ _ hsw];refine Fk (wpAny_standAt ?_);refine Fk ?_;show wpAny _ _ (comprehension (.ListComp elt [⟨tg,iter,ifs,0⟩] scope pos) scope X.env (firstIterPos [⟨tg,iter,ifs,0⟩] pos) (newList []) (firstAsync [⟨tg,iter,ifs,0⟩]) (firstIter [⟨tg,iter,ifs,0⟩] X.env) (some (assign (.Name y py) X.env)) >>= fun _=>pure ()) _ _ s;refine Fk ?_;refine wpAny_comprehension_free (use:=some (assign (.Name y py) X.env)) rfl hs O.clos O.kind O.names (thn (hi pins s σ H _ I h) fun v s1 h1=>thn h1 fun itv s2 h2=>?_);obtain ⟨it,fp,tn,J,H2,e,I2,T,st2,f2,W,⟨m0,w0⟩,turn⟩:=h2;subst e;refine wpAny_newObj_type (wpAny_newFunctionEnv O.nocell (by intro y hy;simp at hy) (fun h₁ hns₁ hsb₁=>?_) O.kind);dsimp only at hns₁ hsb₁ ⊢;generalize hH2:s2.heap.push { cls:=.type "list",dict:=none,data:=.seq ([]:List Value).toArray }=P2 at hns₁ hsb₁ ⊢;have hC:P2.objs.size=s2.heap.objs.size+1:=by rw [<-hH2,Heap.size_push]
 have hDC:s2.heap.objs.size≠P2.objs.size:=by rw [hC];exact FI (De _)
 have hCle:s2.heap.objs.size<=P2.objs.size:=by rw [hC];exact EA _
 have old:∀ b o,s2.heap.get? b=some o->h₁.get? b=some o:=fun b o e=>hsb₁.extBut b o (FI (FP (Fy e) hCle)) (FG _ (hH2 ▸ FG _ e))
 have hacc:h₁.PlainList s2.heap.objs.size #[]:=⟨_,hsb₁.extBut _ _ hDC (FG _ (hH2 ▸ FY _ rfl))⟩
 have hlt:∀ b∈fp,b<s2.heap.objs.size:=fun b hb=>by
  obtain ⟨o,e,_⟩:=T.obj 0 _ st2 b hb;exact Fy e
 generalize hCC:P2.objs.size=C at *;generalize hDD:s2.heap.objs.size=Dl at *;have I3:Inv (blk X scope cl N C s2 H2 fp) [] (WN caps σ) H2 { s2 with heap:=h₁,toks:=s2.toks+([]:List (Str×Value)).length }:=WS I2 O f2 (by rw [hDD];exact hlt) old (by rw [hDD];exact hCle) hns₁;have st3:tn 0 h₁:=T.keep 0 _ _ st2 fun b _ o e=>old b o e
 have hDn:H2 Dl=none:=I2.hok.fresh (by rw [hDD];exact Ft _);have nfs:∀ b∈fp,b ∉ frs X.stack:=fun b hb z=>by
  rcases FS.mp (I2.stkSub b z) with q | q
  ·exact (f2 b hb).2.1 q
  ·exact (f2 b hb).2.2.1 q
 have stat:∀ {H':Hp},(∀ b∈fp,H' b=none)->∀ b∈fp,XC (blk X scope cl N C s2 H2 fp) [] H' b:=fun hn b hb=>
  ⟨hn b hb,FI (FP (hlt b hb) hCle),nfs b hb,.inl hb,fun x c e=>(f2 b hb).2.2.2.2.1 x c (O.sub x c e),fun p hp=>absurd (show p∈([]:List (Addr×Obj)) from hp) (by simp)⟩
 have cellD:∀ x c,cl.lookup x=some c->c≠Dl:=fun x c e z=>by
  obtain ⟨v,q⟩:=I2.cell x c (O.sub x c e);have:=q.lt;rw [hDD] at this;exact FM _ (z ▸ this)
 have nfsD:Dl ∉ frs X.stack:=fun z=>by
  have:=I2.stkSub Dl z;rcases FS.mp this with q | q
  ·have:=I2.lt;rw [hDD] at this;exact FM _ (q ▸ this)
  ·exact I2.nofs (by rw [hDD];exact Ft _) q
 have statD:∀ {H':Hp},H' Dl=none->XC (blk X scope cl N C s2 H2 fp) [] H' Dl:=fun hn=>⟨hn,hDC,nfsD,.inr (Nat.le_of_eq hDD),cellD,fun p hp=>absurd (show p∈([]:List (Addr×Obj)) from hp) (by simp)⟩
 have loop:∀ s₃:Shared,s₃={ s2 with heap:=h₁,toks:=s2.toks+([]:List (Str×Value)).length } ->
   codeAny (model X.prog X.w) X.A (.compLoop (.ListComp elt [⟨tg,iter,ifs,0⟩] scope pos) 0 (.ref it) (.ref Dl) (compEnvC scope cl C X.env))
    (compPost (model X.prog X.w) X.A X.xe (some (assign (.Name y py) X.env)) (fun _ s'=>wpAny (model X.prog X.w) X.A (pure ()) (fun _ s'=>wpAny (model X.prog X.w) X.A (pure Flow.next) (SP X pins D) X.xe s') X.xe s') (.ref Dl) C) s₃:=by
  intro s₃ hs3;subst hs3;refine X3 (fun n s'=>∃ i σ' H' acc its,Inv (blk X scope cl N C s2 H2 fp) [] σ' H' s'/\tn i s'.heap/\(∀ b∈fp,H' b=none)/\H' Dl=none/\Vals acc its/\s'.heap.PlainList Dl its.toArray/\acc.length<=sizeLine/\W i n acc σ' H') ?_ m0
   ⟨0,WN caps σ,H2,[],[],I3,st3,fun b hb=>(f2 b hb).1,hDn,.nil,hacc,FZ _,w0⟩
  rintro n s3 ⟨i,σ3,H3,acc,its,J3,st3,fr3,d3,va,pl3,la,w3⟩;rcases turn i n acc σ3 H3 w3 with ⟨stop,qn⟩ | ⟨go,la2,step⟩
  ·refine thn (T.done (blk X scope cl N C s2 H2 fp) rfl rfl rfl hc i [(Dl,{ cls:=.type "list",data:=.seq its.toArray (Classical.choose pl3) })] s3 σ3 H3 (fun _ _=>False) (J3.pins_of fun p hp=>?_) (fun b hb=>?_) st3 stop) fun r s4 ⟨hr,J4⟩=>?_
   ·have e:=FE.mp (show p∈[_] from hp);subst e;exact ⟨Df pl3,d3,hDC,nfsD,fun v z=>by cases z⟩
   ·obtain ⟨q1,q2,q3,q4,q5,q6⟩:=stat fr3 b hb;refine ⟨q1,q2,q3,q4,q5,fun p hp z=>?_⟩;have e:=FE.mp (show p∈[_] from hp);subst e;exact absurd (hlt b hb) (by rw [<-z];exact FM _)
   ·subst hr;obtain ⟨m,hn,_⟩:=J4.loc;have pD:=J4.pin (Dl,_) (by simp;rfl);have J5:=Vv I2 f2 J4 (by rw [hDD];exact hCle) (⟨rfl,fun _ _=>rfl⟩:Heap.SameBut C s4.heap s4.heap);have nC:C≠X.env.locals:=fun z=>by
     have:=I2.lt;rw [hDD,<-z] at this;exact FM _ (FP this hCle)
    have cC:∀ z c,X.env.cells.lookup z=some c->c≠C:=fun z c e w=>by
     obtain ⟨v,q⟩:=I2.cell z c e;have:=q.lt;rw [hDD] at this;exact FM _ (FP (w ▸ this) hCle)
    have J6:=J5.track (o:=.lst acc) (FQ I2.sz (by rw [hDD];exact Ft _)) d3 (fun z=>by
     have:=I2.lt;rw [hDD,<-z] at this;exact FM _ this) (fun y c e z=>by
     obtain ⟨v,q⟩:=I2.cell y c e;have:=q.lt;rw [hDD] at this;exact FM _ (z ▸ this)) (fun p hp z=>by
     have:=Fy (I2.pin p hp).1;rw [hDD,z] at this;exact FM _ this) ⟨la,its,_,va,pD.1⟩
    show wpAny _ _ (assign (.Name y py) X.env (.ref Dl)) _ _ s4;refine PyProof.Rows.assign_Name ?_;refine Ki J6 hN hy hx (show RelV (.ref Dl) (.ref Dl) from rfl) (fun s5 J7 ⟨a,sa,ha⟩=>?_) hf;have naC:C≠a:=fun z=>by
     rcases ha with w | w
     ·exact nC (z.trans w)
     ·exact cC _ _ w z.symm
    refine ⟨m,?_,fun h' sb=>?_⟩
    ·obtain ⟨o,es,ep,e,rest⟩:=hn;exact ⟨o,es,ep,(sa.2 C naC).trans e,rest⟩
    refine Fw (Fw ⟨_,_,?_,qn _ d3⟩);exact J7.turned (t':=s5.toks) (it:=C) (fun b o hb e=>(sb.2 b hb).trans e) (by rw [Qj (Eb hDC)];exact J4.free) nC (.inr (FQ I2.sz (by rw [hDD];exact hCle))) cC (fun p hp z=>by
     have:=Fy (I2.pin p hp).1;rw [hDD,z] at this;exact FM _ (FP this hCle))
  ·refine thn (T.item (blk X scope cl N C s2 H2 fp) rfl rfl rfl hc i [(Dl,{ cls:=.type "list",data:=.seq its.toArray (Classical.choose pl3) })] s3 σ3 H3 (fun _ _=>False) (J3.pins_of fun p hp=>?_) (fun b hb=>?_) st3 go) fun r s4 ⟨u,hr,h4⟩=>?_
   ·have e:=FE.mp (show p∈[_] from hp);subst e;exact ⟨Df pl3,d3,hDC,nfsD,fun v z=>by cases z⟩
   ·obtain ⟨q1,q2,q3,q4,q5,q6⟩:=stat fr3 b hb;refine ⟨q1,q2,q3,q4,q5,fun p hp z=>?_⟩;have e:=FE.mp (show p∈[_] from hp);subst e;exact absurd (hlt b hb) (by rw [<-z];exact FM _)
   ·subst hr;refine thn h4 fun _ s5 ⟨y,H5,J5,r5,y5,st5,fr5⟩=>?_
    have J5':Inv (blk X scope cl N C s2 H2 fp) ([(Dl,{ cls:=.type "list",data:=.seq its.toArray (Classical.choose pl3) })]++Xz fp s5.heap) σ3 H5 s5:=J5.pinned (fun b hb=>by
     obtain ⟨q1,q2,q3,q4,q5,q6⟩:=stat fr5 b hb;refine ⟨q1,q2,q3,q4,q5,fun p hp z=>?_⟩;have e:=FE.mp (show p∈[_] from hp);subst e;exact absurd (hlt b hb) (by rw [<-z];exact FM _)) (T.obj _ _ st5)
    refine thn (hg C s2 H2 fp _ s5 σ3 H5 y u _ J5' r5 (step y H5 y5)) fun _ s6 ⟨σ6,H6,J6,q6⟩=>?_
    refine thn (ht C s2 H2 fp _ s6 σ6 H6 _ J6 q6) fun ok s7 ⟨H7,J7,q7⟩=>?_
    have back:∀ {H8:Hp} {s8:Shared},Inv (blk X scope cl N C s2 H2 fp) ([(Dl,{ cls:=.type "list",data:=.seq its.toArray (Classical.choose pl3) })]++Xz fp s5.heap) σ6 H8 s8 ->
      tn (i+1) s8.heap/\(∀ b∈fp,H8 b=none)/\H8 Dl=none/\s8.heap.PlainList Dl its.toArray:=fun {H8 s8} J8=>by
     have pb:∀ b∈fp,∀ o,s5.heap.get? b=some o->s8.heap.get? b=some o/\H8 b=none:=fun b hb o e=>by
      have:=J8.pin (b,o) (F4 _ (F4 _ (Xi hb e)));exact ⟨this.1,this.2.1⟩
     have pd:=J8.pin (Dl,_) (F4 _ (Ez _ (FE.mpr rfl)));refine ⟨T.keep _ _ _ st5 fun b hb o e=>(pb b hb o e).1,fun b hb=>?_,pd.2.1,⟨_,pd.1⟩⟩;obtain ⟨o,e,_⟩:=T.obj _ _ st5 b hb;exact (pb b hb o e).2
    cases ok with
    | false=>
     rw [Fl FT] at q7 ⊢;obtain ⟨m',hm,w7⟩:=q7;obtain ⟨b1,b2,b3,b4⟩:=back J7;exact ⟨m',hm,i+1,σ6,H7,acc,its,J7.pins_of (fun p hp=>absurd hp (by simp)),b1,b2,b3,va,b4,la,w7⟩
    | true=>
     rw [Fs rfl] at q7 ⊢;refine thn (he C s2 H2 fp _ s7 σ6 H7 _ J7 q7) fun z s8 ⟨zv,H8,J8,r8,q8⟩=>?_
     obtain ⟨m',hm,w8⟩:=q8;obtain ⟨b1,b2,b3,b4⟩:=back J8;have z1:its.length=acc.length:=va.length.symm;refine wpAny_list_append_plain (hsz:=by rw [FN];omega) b4 fun h9 pl9 sb9=>?_
     have J9:Inv (blk X scope cl N C s2 H2 fp) [] σ6 H8 { s8 with heap:=h9,toks:=s8.toks }:=by
      obtain ⟨k0,k1,k2,k3,k4,k5⟩:=statD (H':=H8) b3;exact (J8.pins_of (pins':=[]) (fun p hp=>absurd hp (by simp))).turned (it:=Dl) (fun b o hb e=>(sb9.2 b hb).trans e) k0 k1 k3 k4 k5
     refine ⟨m',hm,i+1,σ6,H8,acc++[zv],its++[z],J9,T.keep _ _ _ b1 fun b hb o e=>(sb9.2 b (FI (hlt b hb))).trans e,b2,b3,va.append (.cons r8 .nil),?_,?_,w8⟩
     ·simpa using pl9
     ·rw [Fv,FH];omega
 exact codeAny_compStart_list (loop _ rfl) (T.self X.A 0 _ _ _ st3 (loop _ rfl))
theorem Y5 {spos:Pos}{cl:List (Str×Addr)}{wi:TI}(hN:X.N.Nodup) (hy:X.N[i]?=some y) (hx:Loc X.env.scope y) (hc:X.calm=true) (O:X6 X scope cl N caps)
  (hi:PI X (.Name x px) iter wi) (hg:∀ C s H ex,PG (blk X scope cl N C s H ex) (.Name x px) g) (ht:∀ C s H ex,PTs (blk X scope cl N C s H ex) ifs tt) (he:∀ C s H ex,PE (blk X scope cl N C s H ex) elt te)
  (hs:∀ v,foldedSetIterable iter X.env v=pure v:=by intro _;rfl) (hsw:swapsWith (.ListComp elt [⟨.Name x px,iter,ifs,0⟩] scope pos) (some (.Name y py)) spos.line X.env=pure true:=by rfl)
  (hf:X.fn y=true∨X.env.scope.names.lookup y=some .local:=by first | exact .inl rfl | exact .inr rfl | assumption):PS X (.Assign [.Name y py] (.ListComp elt [⟨.Name x px,iter,ifs,0⟩] scope pos) spos) (Z4 (Kh caps wi g tt te) (Zt i)):=VJ hN hy hx hc O hi hg ht he hs hsw hf
end
end L2
namespace L2
open PySem PySem.W PyProof.Rows
def Asks {α:Type}(n:Nat) (P:α->Prop):KasT α->Prop
 | .ret a=>P a
 | .ask i j k=>i<n/\j<n/\∀ b,Asks n P (k b)
theorem Asks.bind {P:α->Prop}{R:β->Prop}{f:α->KasT β}(hf:∀ a,P a->Asks n R (f a)):∀ {t:KasT α},Asks n P t->Asks n R (t.bind f)
 | .ret a,h=>hf a h
 | .ask _ _ k,⟨h1,h2,h3⟩=>⟨h1,h2,fun b=>Asks.bind hf (h3 b)⟩
theorem Asks.wp {P:α->Prop}{cmp:Nat->Nat->(Bool->Shared->Prop)->Shared->Prop}(hc:∀ i j C,i<n->j<n->(∀ b,C b s)->cmp i j C s) :
  ∀ {t:KasT α},Asks n P t->t.kasWp cmp (fun a s'=>s'=s/\P a) s
 | .ret _,h=>⟨rfl,h⟩
 | .ask i j _,⟨h1,h2,h3⟩=>hc i j _ h1 h2 fun b=>Asks.wp hc (h3 b)
def PermN (n:Nat) (p:Array Nat):Prop:=p.toList.Perm (List.range n)
theorem PermN.lt {p:Array Nat}(h:PermN n p) (hn:0<n) (i:Nat):p.getD i 0<n:=by
 by_cases hi:i<p.size
 ·have e:p.getD i 0=p[i]:=by simp [Array.getD,hi]
  rw [e];have m:p[i]∈p.toList:=by simp
  exact List.mem_range.mp (h.mem_iff.mp m)
 ·have e:p.getD i 0=0:=by simp [Array.getD,hi]
  rw [e];exact hn
theorem PermN.rev {j:Nat}{p:Array Nat}(h:PermN n p):PermN n (kas_rev p i j):=List.Perm.trans (Array.Perm.toList (mirror_perm p i j _)) h
theorem PermN.bub {k d:Nat}{p:Array Nat}(h:PermN n p):PermN n (bubble p k d):=List.Perm.trans (Array.Perm.toList (bubble_perm p k d)) h
section
variable {n:Nat} (hn:0<n)
include hn
theorem JO {p:Array Nat}(h:PermN n p):∀ f m,Asks n (fun _:Nat=>True) (kas_asc p f m)
 | 0,_=>trivial
 | f+1,m=>⟨h.lt hn _,h.lt hn _,fun b=>by cases b;exact JO h f (m+1);exact trivial⟩
theorem Yx:∀ f p m q,PermN n p->Asks n (fun r:Array Nat×Nat×Nat=>PermN n r.1) (kas_desc f p m q)
 | 0,_,_,_,h=>h
 | f+1,p,m,q,h=>⟨h.lt hn _,h.lt hn _,fun b=>by
  cases b with
  | true=>
   simp only [if_true];split
   ·exact Yx f _ _ _ h.rev
   ·exact Yx f _ _ _ h
  | false=>exact ⟨h.lt hn _,h.lt hn _,fun c=>by cases c;exact Yx f _ _ _ h;exact h⟩⟩
theorem JN {p:Array Nat}{k:Nat}(h:PermN n p):Asks n (fun r:Nat×Array Nat=>PermN n r.2) (kas_tail3 m k p):=
 by
 unfold kas_tail3;refine Asks.bind (P:=fun _=>True) ?_ (JO hn h.rev _ _);intro _ _;exact h.rev
theorem YD {p:Array Nat}{k:Nat}(h:PermN n p):Asks n (fun r:Nat×Array Nat=>PermN n r.2) (kas_descPart m k p):=
 Asks.bind (fun r hr=>by split;exact JN hn (PermN.rev hr);exact JN hn hr) (Yx hn _ _ _ _ h)
theorem UU {p:Array Nat}{k:Nat}(h:PermN n p):Asks n (fun r:Nat×Array Nat=>PermN n r.2) (kas_count k p):=
 Asks.bind (fun m _=>by
  split
  ·exact h
  ·split
   ·exact ⟨h.lt hn _,h.lt hn _,fun b=>by cases b;exact YD hn h.rev;exact h⟩
   ·exact YD hn h) (JO hn h _ _)
theorem YO {p:Array Nat}{k:Nat}(h:PermN n p):∀ f l r,Asks n (fun _:Nat=>True) (kas_place p k f l r)
 | 0,_,_=>trivial
 | f+1,l,r=>by
  unfold kas_place;split
  ·exact trivial
  ·exact ⟨h.lt hn _,h.lt hn _,fun b=>by cases b;exact YO h f _ _;exact YO h f _ _⟩
theorem V7:∀ f p k,PermN n p->Asks n (PermN n) (kas_bin f p k)
 | 0,_,_,h=>h
 | f+1,p,k,h=>Asks.bind (fun l _=>V7 f _ _ h.bub) (YO hn h _ _ _)
theorem Nw:Asks n (PermN n) (kas_sort n):=
 Asks.bind (fun r hr=>by split;exact V7 hn _ _ _ hr;exact hr) (UU hn (show PermN n (List.toArray (List.range n)) from List.Perm.refl _))
end
def Wp (k:Bool) (v:Value):Prop:=if k=true then ∃ x t,v=Value.str x t else ∃ i t,v=Value.int i t
section
variable {prog:Program} {w:World} {A:Around} {E:Value->Shared->Prop} {s:Shared}
theorem Bp {b k:Bool}{p q:Value}{Q:Bool->Shared->Prop}(hp:Wp k p) (hq:Wp k q) (h:∀ c,Q c s):wpAny (model prog w) A (oneLt' b p q) Q E s:=by
 cases k with
 | true=>
  obtain ⟨x,t,rfl⟩:=hp;obtain ⟨y,u,rfl⟩:=hq;cases b
  ·exact kat_one _ _ (PyProof.Rows.lt_str (h _))
  ·exact oneLt_str (h _)
 | false=>
  obtain ⟨x,t,rfl⟩:=hp;obtain ⟨y,u,rfl⟩:=hq;cases b
  ·exact kat_one _ _ (PyProof.Rows.lt_int (h _))
  ·exact oneLt_int (h _)
theorem BN {k:Bool}{p q:Value}{Q:Bool->Shared->Prop}(hp:Wp k p) (hq:Wp k q) (h:∀ c,Q c s):wpAny (model prog w) A (eqBool p q) Q E s:=by
 cases k with
 | true=>
  obtain ⟨x,t,rfl⟩:=hp;obtain ⟨y,u,rfl⟩:=hq;exact wpAny_eqBool_str (h _)
 | false=>
  obtain ⟨x,t,rfl⟩:=hp;obtain ⟨y,u,rfl⟩:=hq;exact wpAny_eqBool_int (h _)
theorem VV {b fin:Bool}{Q:Bool->Shared->Prop}(h:∀ c,Q c s):∀ {ks:List Bool}{xs ys:List Value},Paired Wp ks xs->Paired Wp ks ys->∀ i,KatLex prog w A b fin Q (xs.zip ys) i s
 | _,_,_,.nil,_,_=>kat_nil (h _)
 | _,_,_,.cons hp rx,.cons hq ry,i=>kat_cons (BN hp hq fun e=>kat_go (fun z=>by subst z;exact kat_yes (VV h rx ry (i+1))) (fun z=>by subst z;exact kat_no (Bp hp hq h)))
def GE (h:Heap) (ks:List Bool) (v:Value):Prop:=∃ a o xs n,v=.ref a/\h.get? a=some o/\o.cls=.type "tuple"/\o.data=.seq xs n/\Paired Wp ks xs.toList
def bare (h:Heap) (a:Addr) (vs:List Value):Heap:=((h.update a (Obj.mapSeq fun _=>#[])).push (seqObj "tuple" vs.toArray 0)).push (seqObj "list" #[] 0)
theorem Lk {b:Addr}{vs:List Value}{o:Obj}(hb:b≠a) (g:h.get? b=some o):(bare h a vs).get? b=some o:=
 FG _ (FG _ ((Heap.get?_update_other h (Obj.mapSeq fun _=>#[]) (Eb hb)).trans g))
theorem Uq (vs:List Value):(List.range vs.length).map (fun i=>vs.getD i Value.none)=vs:=by
 apply EE;intro i;by_cases h:i<vs.length
 ·rw [Fx,Dm h];simp [h]
 ·simp [Nat.le_of_not_lt h]
end
def GF (k:Bool) (x:V):Prop:=if k=true then ∃ z,x=V.str z else ∃ i,x=V.int i
theorem Ko:∀ {ks:List Bool}{xs:List V}{us:List Value},Paired GF ks xs->Vals xs us->Paired Wp ks us
 | _,_,_,.nil,.nil=>.nil
 | k :: _,_,_,.cons hk r,.cons hv r'=>.cons (by
   cases k with
   | true=>obtain ⟨z,rfl⟩:=hk;obtain ⟨t,rfl⟩:=hv;exact ⟨z,t,rfl⟩
   | false=>obtain ⟨z,rfl⟩:=hk;obtain ⟨t,rfl⟩:=hv;exact ⟨z,t,rfl⟩) (Ko r r')
theorem Vz:∀ {xs:List V}{us:List Value}{u:Value},Vals xs us->u∈us->∃ x∈xs,RelV x u
 | _,_,_,.nil,h=>by cases h
 | _,_,u,.cons hv r,h=>by
  rcases FS.mp h with rfl | h
  ·exact ⟨_,Ea,hv⟩
  ·obtain ⟨x,m,q⟩:=Vz r h;exact ⟨x,F9 _ m,q⟩
theorem GG {ws:List Value}(p:us.Perm ws):∀ {xs:List V},Vals xs ws->∃ ys:List V,ys.Perm xs/\Vals ys us:=by
 induction p with
 | nil=>intro xs r;exact ⟨xs,.refl _,r⟩
 | cons x p ih=>
  intro xs r;cases r with
  | cons hv r=>
   obtain ⟨ys,h1,h2⟩:=ih r;exact ⟨_ :: ys,h1.cons _,.cons hv h2⟩
 | swap x y l=>
  intro xs r;cases r with
  | cons hv r=>
   cases r with
   | cons hw r=>exact ⟨_,.swap _ _ _,.cons hw (.cons hv r)⟩
 | trans p q ih1 ih2=>
  intro xs r;obtain ⟨ys,h1,h2⟩:=ih2 r;obtain ⟨zs,h3,h4⟩:=ih1 h2;exact ⟨zs,h3.trans h1,h4⟩
theorem V3 (Pv:Nat->List V->St->Hp->Prop) (h0:Pv 0 [] σ0 H) (hn:n<=1000)
  (hs:∀ i acc σ H,i<n->acc.length<=i->Pv i acc σ H->g (.int (lo+i)) σ H fun σ2 H2=>tt σ2 H2 fun b H3=>if b=true then te σ2 H3 fun v H4=>CN Pv n i (acc++[v]) σ2 H4 else CN Pv n i acc σ2 H3)
  (hd:∀ acc σ H,Pv n acc σ H->∀ p,H p=none->Q (.ref p) (upd H p (.lst acc))):Kz (Itr lo n) g tt te σ0 H Q:=by
 refine ⟨fun i m acc σ H=>m=n-i/\i<=n/\acc.length<=i/\Pv i acc σ H,⟨n,by simp,FZ _,Ft _,h0⟩,?_⟩;rintro i m acc σ H ⟨rfl,hi,ha,p⟩;by_cases hlt:i<n
 ·refine .inr ⟨hlt,QF (by omega),fun x H' y=>?_⟩;obtain ⟨rfl,rfl⟩:=y;exact hs i acc σ _ hlt ha p
 ·have e:i=n:=by omega
  subst e;exact .inl ⟨Ft _,hd acc σ H p⟩
def HH (neg:Bool):R2:=fun x y H Q=>∃ i j,x=.str i/\y=.str j/\Q (.bl (if neg then !(!(Builtin.Str.occurrences j i 0 j.length 1).isEmpty) else !(Builtin.Str.occurrences j i 0 j.length 1).isEmpty)) H
def LW (K:W.Frag) (neg:Bool):R2:=fun x y H Q=>rIn K neg x y H Q∨HH neg x y H Q
theorem inK (K:W.Frag) {X:Cx}(h:X.K=K):OpR X (compareOp .In) (LW K false):=by
 subst h;exact op_in_seq.or GV
theorem WH (K:W.Frag) {X:Cx}(h:X.K=K):OpR X (compareOp .NotIn) (LW K true):=by
 subst h;exact op_notIn_seq.or K1
theorem Vi {z:Str}:∀ {xs:List Str},inV (.str z) (xs.map V.str)=decide (z∈xs)
 | []=>by simp [inV]
 | x :: xs=>by
  have ih:=Vi (z:=z) (xs:=xs);unfold inV at *;rw [F5,List.any_cons,ih];by_cases h:z=x
  ·subst h;simp [eqV]
  ·have h':¬ x=z:=fun e=>h e.symm
   simp [eqV,h,h']
theorem Kp (xs:List Str):(xs.map V.str).all Wf=true:=by
 rw [List.all_map,Eu];intro _ _;rfl
theorem Kb {z:Str}{xs:List Str}(h:SqL K H p (xs.map V.str)) (q:Q (.bl (decide (z∈xs))) H):LW K false (.str z) (.ref p) H Q:=
 .inl ⟨p,_,rfl,.inl h,rfl,Kp xs,by rw [Vi];exact q⟩
theorem XF {z:Str}{xs:List Str}(h:SqL K H p (xs.map V.str)) (q:Q (.bl (!decide (z∈xs))) H):LW K true (.str z) (.ref p) H Q:=
 .inl ⟨p,_,rfl,.inl h,rfl,Kp xs,by rw [Vi];exact q⟩
end L2
namespace L2
open PySem PyProof.Rows
def asBl (x:V) (P:Bool->Prop):Prop:=match x with | .bl c=>P c | _=>False
theorem asBl.out {x:V}{P:Bool->Prop}(h:asBl x P):∃ c,x=.bl c/\P c:=by
 cases x <;> first | exact ⟨_,rfl,h⟩ | exact h.elim
def asInt (x:V) (P:Int->Prop):Prop:=match x with | .int c=>P c | _=>False
theorem asInt.out {x:V}{P:Int->Prop}(h:asInt x P):∃ c,x=.int c/\P c:=by
 cases x <;> first | exact ⟨_,rfl,h⟩ | exact h.elim
def asVar (o:Option (Option V)) (P:V->Prop):Prop:=match o with | some (some v)=>P v | _=>False
theorem asVar.out {o:Option (Option V)}{P:V->Prop}(h:asVar o P):∃ v,o=some (some v)/\P v:=by
 cases o with
 | none=>exact h.elim
 | some o=>cases o with
  | none=>exact h.elim
  | some v=>exact ⟨v,rfl,h⟩
section
variable {X:Cx}
theorem PE.imp {e:Expr}{t u:TE}(p:PE X e t) (h:∀ σ H Q,u σ H Q->t σ H Q):PE X e u:=fun pins s σ H Q I q=>p pins s σ H Q I (h _ _ _ q)
theorem PGs.imp {t u:TGs}(p:PGs X es t) (h:∀ vs σ H Q,u vs σ H Q->t vs σ H Q):PGs X es u:=fun pins s σ H vs us Q I r q=>p pins s σ H vs us Q I r (h _ _ _ _ q)
theorem OpR.imp {f:Value->Value->Sem Value}{r r':R2}(p:OpR X f r) (h:∀ x y H Q,r' x y H Q->r x y H Q):OpR X f r':=fun pins s σ H x y v u Q I rx ry q=>p pins s σ H x y v u Q I rx ry (h _ _ _ _ q)
theorem UnR.imp {f:Value->Sem Value}{r r':V->Hp->VK->Prop}(p:UnR X f r) (h:∀ x H Q,r' x H Q->r x H Q):UnR X f r':=fun pins s σ H x v Q I rx q=>p pins s σ H x v Q I rx (h _ _ _ q)
def V9 (i:Nat):TE:=fun σ H Q=>asVar σ[i]? fun v=>Q v H
theorem pu (i:Nat) {x:Str}{pos:Pos}(hN:X.N[i]?=some x:=by rfl) (hv:Vis X.env.scope x:=by first | exact Or.inl rfl | exact Or.inr (Or.inl rfl) | exact Or.inr (Or.inr rfl)) (hd:(x == ("__debug__":Str))=false:=by decide) (hcd:(x == ("__classdict__":Str))=false:=by decide):PE X (.Name x pos) (V9 i):=
 (pv i hN hv hd hcd).imp fun _ _ _ h=>h.out
def uB (t:TE):TT:=fun σ H Q=>t σ H fun x H1=>asBl x fun c=>Q c H1
variable {a b:Expr} {ta tb:TE} {rest:List Expr} {pos:Pos}
theorem Zx {e:Expr}{t:TE}(h:PE X e t) (he:∀ whole,isTrue e X.env whole=(do let v <-whole;standAt e.pos;holding [v] (truthy v)):=by intro _;rfl):PT X e (uB t):=by
 intro pins s σ H Q I hw;refine isTrue_plain (thn (h pins s σ H _ I hw) fun v s1 ⟨x,H1,I1,r1,q1⟩=>?_) (he _);obtain ⟨d,rfl,q⟩:=q1.out;cases r1;exact EK ⟨H1,I1,q⟩
def B7 (ta tb:TE):TE:=fun σ H Q=>ta σ H fun x H1=>asBl x fun c=>if c=true then tb σ H1 Q else Q (.bl false) H1
def Sr (ta tb:TE):TE:=fun σ H Q=>ta σ H fun x H1=>asBl x fun c=>if c=true then Q (.bl true) H1 else tb σ H1 Q
def B6 (ta:TE):TE:=fun σ H Q=>ta σ H fun x H1=>asBl x fun c=>Q (.bl (!c)) H1
theorem Je (ha:PE X a ta) (hb:PE X (.BoolOp .And (b :: rest) pos) tb):PE X (.BoolOp .And (a :: b :: rest) pos) (B7 ta tb):=by
 intro pins s σ H Q I h;refine BoolOp_and (thn (ha pins s σ H _ I h) fun v s1 ⟨x,H1,I1,r1,q1⟩=>?_);obtain ⟨c,rfl,q1⟩:=q1.out;cases r1;refine EK ?_;cases c with
 | true=>exact hb pins s1 σ H1 Q I1 q1
 | false=>exact ⟨.bl false,H1,I1,rfl,q1⟩
theorem Pl (ha:PE X a ta) (hb:PE X (.BoolOp .Or (b :: rest) pos) tb):PE X (.BoolOp .Or (a :: b :: rest) pos) (Sr ta tb):=by
 intro pins s σ H Q I h;refine BoolOp_or (thn (ha pins s σ H _ I h) fun v s1 ⟨x,H1,I1,r1,q1⟩=>?_);obtain ⟨c,rfl,q1⟩:=q1.out;cases r1;refine EK ?_;cases c with
 | false=>exact hb pins s1 σ H1 Q I1 q1
 | true=>exact ⟨.bl true,H1,I1,rfl,q1⟩
theorem U9 (ha:PE X a ta):PE X (.UnaryOp .Not a pos) (B6 ta):=by
 intro pins s σ H Q I h;refine UnaryOp_ (thn (ha pins s σ H _ I h) fun v s1 ⟨x,H1,I1,r1,q1⟩=>?_);obtain ⟨c,rfl,q1⟩:=q1.out;cases r1;exact not_of (EK ⟨.bl (!c),H1,I1,rfl,q1⟩)
theorem Qq {r:R2}(ho:OpR X (compareOp op) r) (ha:PE X a ta) (hb:PE X b tb) (hm:behindInMarks op b=false):PT X (.Compare a [op] [b] pos) (uB (tOp r ta tb)):=by
 intro pins s σ H Q I h;refine wpAny_isTrue_Compare1 (thn (ha pins s σ H _ I h) fun v s1 ⟨x,H1,I1,r1,q1⟩=>thn (hb pins s1 σ H1 _ I1 q1) fun u s2 ⟨y,H2,I2,r2,q2⟩=>
  thn (ho pins s2 σ H2 x y v u _ I2 r1 r2 q2) fun c s3 ⟨z,H3,I3,r3,q3⟩=>?_) hm
 obtain ⟨k,e,q3⟩:=q3.out;subst e;cases r3;exact EK ⟨H3,I3,q3⟩
def sI (C:Int->Int->Prop) (g:Int->Int->V):R2:=fun x y H Q=>asInt x fun i=>asInt y fun j=>C i j/\Q (g i j) H
def sI0 (g:Int->Int->V):R2:=fun x y H Q=>asInt x fun i=>asInt y fun j=>Q (g i j) H
def sU (g:Int->V):V->Hp->VK->Prop:=fun x H Q=>asInt x fun i=>Q (g i) H
theorem sI.out {C:Int->Int->Prop}{g:Int->Int->V}(x y:V) (H:Hp) (Q:VK) (h:sI C g x y H Q):rI C g x y H Q:=by
 obtain ⟨i,rfl,h2⟩:=asInt.out h;obtain ⟨j,rfl,h3⟩:=asInt.out h2;exact ⟨i,j,rfl,rfl,h3⟩
theorem sI0.out {g:Int->Int->V}(x y:V) (H:Hp) (Q:VK) (h:sI0 g x y H Q):rI0 g x y H Q:=by
 obtain ⟨i,rfl,h2⟩:=asInt.out h;obtain ⟨j,rfl,h3⟩:=asInt.out h2;exact ⟨i,j,rfl,rfl,h3⟩
theorem sU.out {g:Int->V}(x:V) (H:Hp) (Q:VK) (h:sU g x H Q):rU g x H Q:=by
 obtain ⟨i,rfl,h⟩:=asInt.out h;exact ⟨i,rfl,h⟩
theorem Bf:OpR X (binaryOp .Sub) (sI0 fun i j=>.int (i-j)):=op_sub.imp sI0.out
theorem QZ:OpR X (binaryOp .Mult) (sI CMulB fun i j=>.int (i*j)):=op_mulB.imp sI.out
theorem Qy:OpR X (binaryOp .Mult) (sI CMulU fun i j=>.int (i*j)):=op_mulU.imp sI.out
theorem Qz:OpR X (binaryOp .FloorDiv) (sI (fun _ j=>CDivB j) fun i j=>.int (i.fdiv j)):=op_fdivB.imp sI.out
theorem Qt:OpR X (binaryOp .Mod) (sI (fun _ j=>0<j) fun i j=>.int (i % j)):=op_mod.imp sI.out
theorem Mg:OpR X (binaryOp .Mod) (sI (fun _ j=>j≠0) fun i j=>.int (i.fmod j)):=op_modN.imp sI.out
theorem KZ:OpR X (binaryOp .Pow) (sI Lu fun i j=>.int (i ^ j.toNat)):=op_pow.imp sI.out
theorem Jv:OpR X (compareOp .Lt) (sI0 fun i j=>.bl (decide (i<j))):=op_lt.imp sI0.out
theorem Us:OpR X (compareOp .Gt) (sI0 fun i j=>.bl (decide (i > j))):=op_gt.imp sI0.out
theorem Pq:OpR X (compareOp .GtE) (sI0 fun i j=>.bl (decide (i ≥ j))):=op_ge.imp sI0.out
theorem U2:UnR X (unaryOp .USub) (sU fun i=>.int (-i)):=un_neg.imp sU.out
def sAdd:R2:=fun x y H Q=>match x,y with
 | .int i,.int j=>Q (.int (i+j)) H
 | .str i,.str j=>i.length+j.length<=sizeLine/\Q (.str (i++j)) H
 | .ref _,.ref _=>LZ x y H Q
 | _,_=>False
theorem sAdd.out (x y:V) (H:Hp) (Q:VK) (h:sAdd x y H Q):Rk x y H Q:=by
 unfold sAdd at h;split at h
 ·exact .inl ⟨_,_,rfl,rfl,h⟩
 ·exact .inr (.inl ⟨_,_,rfl,rfl,h⟩)
 ·exact .inr (.inr h)
 ·exact h.elim
theorem Qv:OpR X (binaryOp .Add) sAdd:=op_addA.imp sAdd.out
def sEq (K:W.Frag):R2:=fun x y H Q=>match x,y with
 | .int i,.int j=>Q (.bl (decide (i=j))) H
 | .str i,.str j=>Q (.bl (decide (i=j))) H
 | .bl i,.bl j=>Q (.bl (decide (i=j))) H
 | _,_=>KR K x y H Q
def sNe (K:W.Frag):R2:=fun x y H Q=>match x,y with
 | .int i,.int j=>Q (.bl (!decide (i=j))) H
 | .str i,.str j=>Q (.bl (!decide (i=j))) H
 | .bl i,.bl j=>Q (.bl (!decide (i=j))) H
 | _,_=>KP K x y H Q
theorem sEq.out (x y:V) (H:Hp) (Q:VK) (h:sEq K x y H Q):KR K x y H Q:=by
 unfold sEq at h;split at h
 ·rw [R0];exact h
 ·rw [RZ];exact h
 ·rw [R1];exact h
 ·exact h
theorem sNe.out (x y:V) (H:Hp) (Q:VK) (h:sNe K x y H Q):KP K x y H Q:=by
 unfold sNe at h;split at h
 ·rw [RR];exact h
 ·rw [RQ];exact h
 ·rw [RS];exact h
 ·exact h
theorem eqM (K:W.Frag) (h:X.K=K) (hu:X.A.units+64<cLine):OpR X (compareOp .Eq) (sEq K):=(eqK K h hu).imp sEq.out
theorem neM (K:W.Frag) (h:X.K=K) (hu:X.A.units+64<cLine):OpR X (compareOp .NotEq) (sNe K):=(neK K h hu).imp sNe.out
def SY:TGs:=fun vs σ H Q=>match vs with | []=>Q σ H | _=>False
def Ru (t:TG) (u:TGs):TGs:=fun vs σ H Q=>match vs with | v :: r=>t v σ H fun σ' H'=>u r σ' H' Q | []=>False
theorem Q7:PGs X [] SY:=pgs_nil.imp fun vs _ _ _ h=>by
 cases vs with
 | nil=>exact ⟨rfl,h⟩
 | cons _ _=>exact h.elim
theorem QA {e:Expr}{t:TG}{u:TGs}(h:PG X e t) (hg:PGs X es u) (hs:(assignEach (e :: es) X.env).map (·.2)=assign e X.env :: (assignEach es X.env).map (·.2):=by rfl):PGs X (e :: es) (Ru t u):=(Ma h hg hs).imp fun vs _ _ _ q=>by
 cases vs with
 | nil=>exact q.elim
 | cons v r=>exact ⟨v,r,rfl,q⟩
end
def Sp1M (φ:V->Hp->VK->Prop):Sp:=fun vs H Q _=>match vs with | [a]=>φ a H Q | _=>False
def Sp2M (φ:V->V->Hp->VK->Prop):Sp:=fun vs H Q _=>match vs with | [a,b]=>φ a b H Q | _=>False
def Sp3M (φ:V->V->V->Hp->VK->Prop):Sp:=fun vs H Q _=>match vs with | [a,b,c]=>φ a b c H Q | _=>False
def Sp4M (φ:V->V->V->V->Hp->VK->Prop):Sp:=fun vs H Q _=>match vs with | [a,b,c,d]=>φ a b c d H Q | _=>False
def Rp1M (φ:V->Hp->VK->XK->Prop):Sp:=fun vs H Q E=>match vs with | [a]=>φ a H Q E | _=>False
def Rp3M (φ:V->V->V->Hp->VK->XK->Prop):Sp:=fun vs H Q E=>match vs with | [a,b,c]=>φ a b c H Q E | _=>False
theorem Sp1M.imp {φ:V->Hp->VK->Prop}(vs:List V) (H:Hp) (Q:VK) (E:XK) (h:Sp1M φ vs H Q E):Sp1 φ vs H Q E:=by
 unfold Sp1M at h;split at h
 ·exact ⟨_,rfl,h⟩
 ·exact h.elim
theorem Sp2M.imp {φ:V->V->Hp->VK->Prop}(vs:List V) (H:Hp) (Q:VK) (E:XK) (h:Sp2M φ vs H Q E):Sp2 φ vs H Q E:=by
 unfold Sp2M at h;split at h
 ·exact ⟨_,_,rfl,h⟩
 ·exact h.elim
theorem Sp3M.imp {φ:V->V->V->Hp->VK->Prop}(vs:List V) (H:Hp) (Q:VK) (E:XK) (h:Sp3M φ vs H Q E):Sp3 φ vs H Q E:=by
 unfold Sp3M at h;split at h
 ·exact ⟨_,_,_,rfl,h⟩
 ·exact h.elim
theorem Sp4M.imp {φ:V->V->V->V->Hp->VK->Prop}(vs:List V) (H:Hp) (Q:VK) (E:XK) (h:Sp4M φ vs H Q E):Sp4 φ vs H Q E:=by
 unfold Sp4M at h;split at h
 ·exact ⟨_,_,_,_,rfl,h⟩
 ·exact h.elim
theorem Rp1M.imp {φ:V->Hp->VK->XK->Prop}(vs:List V) (H:Hp) (Q:VK) (E:XK) (h:Rp1M φ vs H Q E):Rp1 φ vs H Q E:=by
 unfold Rp1M at h;split at h
 ·exact ⟨_,rfl,h⟩
 ·exact h.elim
theorem Rp3M.imp {φ:V->V->V->Hp->VK->XK->Prop}(vs:List V) (H:Hp) (Q:VK) (E:XK) (h:Rp3M φ vs H Q E):Rp3 φ vs H Q E:=by
 unfold Rp3M at h;split at h
 ·exact ⟨_,_,_,rfl,h⟩
 ·exact h.elim
theorem Tc:V9 i σ H Q=asVar σ[i]? fun v=>Q v H:=rfl
theorem RH {P:V->Prop}:asVar (some (some v)) P=P v:=rfl
theorem Hv {c:Bool}{P:Bool->Prop}:asBl (.bl c) P=P c:=rfl
theorem Hr {t:TE}{Q:Bool->Hp->Prop}:uB t σ H Q=t σ H fun x H1=>asBl x fun c=>Q c H1:=rfl
theorem Tw {tb:TE}:B7 ta tb σ H Q=ta σ H fun x H1=>asBl x fun c=>if c=true then tb σ H1 Q else Q (.bl false) H1:=rfl
theorem Hu {tb:TE}:Sr ta tb σ H Q=ta σ H fun x H1=>asBl x fun c=>if c=true then Q (.bl true) H1 else tb σ H1 Q:=rfl
theorem Tn:B6 ta σ H Q=ta σ H fun x H1=>asBl x fun c=>Q (.bl (!c)) H1:=rfl
theorem Ht {C:Int->Int->Prop}{g:Int->Int->V}{i:Int}:sI C g (.int i) (.int j) H Q=(C i j/\Q (g i j) H):=rfl
theorem Th {g:Int->Int->V}{i:Int}:sI0 g (.int i) (.int j) H Q=Q (g i j) H:=rfl
theorem Hs {g:Int->V}{i:Int}:sU g (.int i) H Q=Q (g i) H:=rfl
theorem RK {i:Int}:sAdd (.int i) (.int j) H Q=Q (.int (i+j)) H:=rfl
theorem RJ {i j:Str}:sAdd (.str i) (.str j) H Q=(i.length+j.length<=sizeLine/\Q (.str (i++j)) H):=rfl
theorem Tu {i:Int}:sEq K (.int i) (.int j) H Q=Q (.bl (decide (i=j))) H:=rfl
theorem Ts {i j:Str}:sEq K (.str i) (.str j) H Q=Q (.bl (decide (i=j))) H:=rfl
theorem Tv {i j:Bool}:sEq K (.bl i) (.bl j) H Q=Q (.bl (decide (i=j))) H:=rfl
theorem Tt {q:Addr}:sEq K (.ref p) (.ref q) H Q=KR K (.ref p) (.ref q) H Q:=rfl
theorem Tq {i:Int}:sNe K (.int i) (.int j) H Q=Q (.bl (!decide (i=j))) H:=rfl
theorem To {i j:Str}:sNe K (.str i) (.str j) H Q=Q (.bl (!decide (i=j))) H:=rfl
theorem Tr {i j:Bool}:sNe K (.bl i) (.bl j) H Q=Q (.bl (!decide (i=j))) H:=rfl
theorem Tp {q:Addr}:sNe K (.ref p) (.ref q) H Q=KP K (.ref p) (.ref q) H Q:=rfl
theorem RI {Q:St->Hp->Prop}:SY [] σ H Q=Q σ H:=rfl
theorem Lv {t:TG}{u:TGs}{r:List V}{Q:St->Hp->Prop}:Ru t u (v :: r) σ H Q=t v σ H fun σ' H'=>u r σ' H' Q:=rfl
theorem Tg {φ:V->Hp->VK->Prop}{a:V}{E:XK}:Sp1M φ [a] H Q E=φ a H Q:=rfl
theorem Tf {φ:V->V->Hp->VK->Prop}{a b:V}{E:XK}:Sp2M φ [a,b] H Q E=φ a b H Q:=rfl
theorem Te {φ:V->V->V->Hp->VK->Prop}{a b:V}{E:XK}:Sp3M φ [a,b,c] H Q E=φ a b c H Q:=rfl
theorem Td {φ:V->V->V->V->Hp->VK->Prop}{a b d:V}{E:XK}:Sp4M φ [a,b,c,d] H Q E=φ a b c d H Q:=rfl
theorem Tj {φ:V->Hp->VK->XK->Prop}{a:V}{E:XK}:Rp1M φ [a] H Q E=φ a H Q E:=rfl
theorem Ti {φ:V->V->V->Hp->VK->XK->Prop}{a b:V}{E:XK}:Rp3M φ [a,b,c] H Q E=φ a b c H Q E:=rfl
theorem Vx {q:Addr}(h:LZ (.ref p) (.ref q) H Q):sAdd (.ref p) (.ref q) H Q:=h
end L2
namespace L2
open PySem PySem.Spec PyProof.Rows
section
variable {κ:Type} [DecidableEq κ]
def Zd (kvs:List (κ×V)) (k:κ):Option V:=(kvs.find? fun kv=>decide (kv.1=k)).map (·.2)
def X9 (kvs:List (κ×V)) (k:κ) (v:V):List (κ×V):=
 if (kvs.any fun kv=>decide (kv.1=k))=true then kvs.map (fun kv=>if kv.1=k then (kv.1,v) else kv) else kvs++[(k,v)]
theorem Zq {p:κ×V}{r:List (κ×V)}{k:κ}(e:p.1=k):Zd (p :: r) k=some p.2:=by simp [Zd,Dh,e]
theorem Zr {p:κ×V}{r:List (κ×V)}{k:κ}(e:¬ p.1=k):Zd (p :: r) k=Zd r k:=by simp [Zd,Dh,e]
theorem Xe (k:κ):∀ kvs:List (κ×V),(kvs.any fun kv=>decide (kv.1=k))=(Zd kvs k).isSome
 | []=>rfl
 | p :: r=>by
  rw [List.any_cons];by_cases e:p.1=k
  ·simp only [Zq e,EC e,Bool.true_or,Option.isSome_some]
  ·rw [Zr e,F6 e,Bool.false_or];exact Xe k r
theorem VB (k j:κ) (y:V):∀ kvs:List (κ×V),Zd (kvs.map fun kv=>if kv.1=k then (kv.1,y) else kv) j=(Zd kvs j).map fun x=>if j=k then y else x
 | []=>rfl
 | p :: r=>by
  have ih:=VB k j y r;rw [F5];by_cases h:p.1=k
  ·rw [Fs h];by_cases e:p.1=j
   ·rw [Zq (p:=(p.1,y)) e,Zq e,EV,Fs (e.symm.trans h)]
   ·rw [Zr (p:=(p.1,y)) e,Zr e,ih]
  ·rw [Fl h];by_cases e:p.1=j
   ·rw [Zq (p:=p) e,Zq e,EV,Fl (fun z=>h (e.trans z))]
   ·rw [Zr (p:=p) e,Zr e,ih]
theorem Kf (k j:κ) (y:V):∀ kvs:List (κ×V),Zd kvs k=none->Zd (kvs++[(k,y)]) j=if j=k then some y else Zd kvs j
 | [],_=>by
  by_cases e:k=j
  ·rw [Fs e.symm];exact Zq (p:=(k,y)) e
  ·rw [Fl (fun z=>e z.symm)];exact Zr (p:=(k,y)) e
 | p :: r,hn=>by
  rw [List.cons_append];have hk:¬ p.1=k:=fun z=>by rw [Zq z] at hn;cases hn
  rw [Zr hk] at hn;have ih:=Kf k j y r hn;by_cases e:p.1=j
  ·rw [Zq e,Zq e,Fl (fun z=>hk (e.trans z))]
  ·rw [Zr e,Zr e,ih]
theorem VA (kvs:List (κ×V)) (k j:κ) (y:V):Zd (X9 kvs k y) j=if j=k then some y else Zd kvs j:=by
 unfold X9;by_cases a:(kvs.any fun kv=>decide (kv.1=k))=true
 ·rw [Fs a,VB];rw [Xe] at a;by_cases e:j=k
  ·obtain ⟨x,hx⟩:=Option.isSome_iff_exists.mp a;rw [Fs e,e,hx,EV,Fs rfl]
  ·rw [Fl e];cases Zd kvs j with
   | none=>rfl
   | some x=>rw [EV,Fl e]
 ·rw [Fl a];refine Kf k j y kvs ?_;rw [Xe] at a;cases q:Zd kvs k with
  | none=>rfl
  | some x=>rw [q] at a;exact (a rfl).elim
theorem Yg (kvs:List (κ×V)) (k:κ) (v:V):(X9 kvs k v).length<=kvs.length+1:=by
 unfold X9;split
 ·rw [Fo];omega
 ·rw [Fv,En,List.length_nil];omega
theorem Xg {kvs:List (κ×V)}{k:κ}(v:V) (h:Zd kvs k=none):X9 kvs k v=kvs++[(k,v)]:=by
 unfold X9;rw [Xe,h];exact Fl (by decide)
theorem RelO.isSome_eq {o:Option V}{u:Option Value}(r:RelO o u):o.isSome=u.isSome:=by
 cases o with
 | none=>cases u with
  | none=>rfl
  | some _=>exact (show False from r).elim
 | some _=>cases u with
  | none=>exact (show False from r).elim
  | some _=>rfl
theorem KV.val {kvs:List (κ×V)}{vs:List (κ×Value)}(r:KV kvs vs) (k:κ):RelO (Zd kvs k) (valueAt vs k):=by
 unfold KV at r
 induction r with
 | nil=>exact True.intro
 | @cons p q ps qs h t ih=>
  obtain ⟨h1,h2⟩:=h;by_cases e:p.1=k
  ·have e':q.1=k:=h1.symm.trans e;have b:valueAt (q :: qs) k=some q.2:=by simp [valueAt,Dh,e']
   rw [Zq e,b];exact h2
  ·have e':¬ q.1=k:=fun z=>e (h1.trans z)
   have b:valueAt (q :: qs) k=valueAt qs k:=by simp [valueAt,Dh,e']
   rw [Zr e,b];exact ih
theorem KV.any {kvs:List (κ×V)}{vs:List (κ×Value)}(r:KV kvs vs) (k:κ):(kvs.any fun kv=>decide (kv.1=k))=vs.any fun kv=>decide (kv.1=k):=by
 unfold KV at r
 induction r with
 | nil=>rfl
 | cons h t ih=>rw [List.any_cons,List.any_cons,ih,h.1]
theorem KV.repl {kvs:List (κ×V)}{vs:List (κ×Value)}(r:KV kvs vs) (k:κ) {y:V}{u:Value}(ry:RelV y u) :
  KV (kvs.map fun kv=>if kv.1=k then (kv.1,y) else kv) (vs.map fun kv=>if kv.1=k then (kv.1,u) else kv):=by
 unfold KV at r ⊢
 induction r with
 | nil=>exact .nil
 | @cons p q ps qs h t ih=>
  rw [F5,F5];refine .cons ?_ ih;obtain ⟨h1,h2⟩:=h;by_cases e:p.1=k
  ·rw [Fs e,Fs (h1.symm.trans e)];exact ⟨h1,ry⟩
  ·rw [Fl e,Fl (fun z=>e (h1.trans z))];exact ⟨h1,h2⟩
theorem KV.put {kvs:List (κ×V)}{vs:List (κ×Value)}(r:KV kvs vs) (k:κ) {y:V}{u:Value}(ry:RelV y u):KV (X9 kvs k y) (stored vs k u):=by
 unfold X9 stored;rw [r.any k];by_cases e:(vs.any fun kv=>decide (kv.1=k))=true
 ·rw [Fs e,Fs e];exact r.repl k ry
 ·rw [Fl e,Fl e];exact Paired.snoc r ⟨rfl,ry⟩
theorem KV.keys {kvs:List (κ×V)}{vs:List (κ×Value)}(r:KV kvs vs):kvs.map (·.1)=vs.map (·.1):=by
 unfold KV at r
 induction r with
 | nil=>rfl
 | cons h t ih=>rw [F5,F5,ih,h.1]
theorem KV.length {kvs:List (κ×V)}{vs:List (κ×Value)}(r:KV kvs vs):kvs.length=vs.length:=Paired.length r
end
theorem Gg {k:Key}(r:RelV (kV k) u):(QX P w).is k u=true:=by
 cases k with
 | inl i=>obtain ⟨t,e⟩:=(show ∃ t,u=Value.int i t from r);subst e;exact VS P w i t
 | inr x=>obtain ⟨t,e⟩:=(show ∃ t,u=Value.str x t from r);subst e;exact VR P w x t
theorem Kl {P:Program}{w:World}:∀ {ks:List Key}{us:List Value},Vals (ks.map kV) us->ItemsAre (QX P w) ks us
 | [],_,r=>by rw [List.map_nil] at r;cases r;exact .nil
 | k :: ks,_,r=>by
  rw [F5] at r;cases r with
  | cons h t=>exact .cons (Gg h) (Kl t)
abbrev KT (H:Hp):List (List Key×V)->List (List Key×Addr×Value)->Prop:=Paired fun p q=>p.1=q.1/\H q.2.1=some (.tup (p.1.map kV))/\RelV p.2 q.2.2
theorem KT.val {kvs:List (List Key×V)}{xs:List (List Key×Addr×Value)}(r:KT H kvs xs) (k:List Key):RelO (Zd kvs k) ((atKey xs k).map (·.2)):=by
 induction r with
 | nil=>exact True.intro
 | @cons p q ps qs h t ih=>
  obtain ⟨h1,_,h2⟩:=h;by_cases e:p.1=k
  ·have e':q.1=k:=h1.symm.trans e;have b:atKey (q :: qs) k=some q.2:=by simp [atKey,Dh,e']
   rw [Zq e,b];exact h2
  ·have e':¬ q.1=k:=fun z=>e (h1.trans z)
   have b:atKey (q :: qs) k=atKey qs k:=by simp [atKey,Dh,e']
   rw [Zr e,b];exact ih
theorem KT.repl {kvs:List (List Key×V)}{xs:List (List Key×Addr×Value)}(r:KT H kvs xs) (k:List Key) {y:V}{u:Value}(ry:RelV y u) :
  KT H (kvs.map fun kv=>if kv.1=k then (kv.1,y) else kv) (xs.map (putAt k u)):=by
 induction r with
 | nil=>exact .nil
 | @cons p q ps qs h t ih=>
  rw [F5,F5];refine .cons ?_ ih;obtain ⟨h1,h2,h3⟩:=h;unfold putAt;by_cases e:p.1=k
  ·rw [Fs e,Fs (h1.symm.trans e)];exact ⟨h1,h2,ry⟩
  ·rw [Fl e,Fl (fun z=>e (h1.trans z))];exact ⟨h1,h2,h3⟩
theorem KT.put {kvs:List (List Key×V)}{xs:List (List Key×Addr×Value)}(r:KT H kvs xs) (k:List Key) {b:Addr}{y:V}{u:Value}(hb:H b=some (.tup (k.map kV))) (ry:RelV y u) :
  KT H (X9 kvs k y) (storedH xs k b u):=by
 have e:(kvs.any fun kv=>decide (kv.1=k))=(atKey xs k).isSome:=by
  rw [Xe,(r.val k).isSome_eq,Option.isSome_map]
 unfold X9 storedH;rw [e];by_cases q:(atKey xs k).isSome=true
 ·rw [Fs q,Fs q];exact r.repl k ry
 ·rw [Fl q,Fl q];exact Paired.snoc r ⟨rfl,hb,ry⟩
theorem KT.keeps {kvs:List (List Key×V)}{xs:List (List Key×Addr×Value)}(r:KT H kvs xs) (ht:∀ b ys,H b=some (.tup ys)->H' b=some (.tup ys)):KT H' kvs xs:=
 Paired.mapP r fun _ _ z=>⟨z.1,ht _ _ z.2.1,z.2.2⟩
section
variable {P:Program} {w:World} {H:Hp} {h:Heap} {a:Addr}
theorem Ri {u:HO}(ok:HOk P w H h) (e:Rd H a u):ObjOk P w H h a u:=e.ok ok
theorem VZ (ok:HOk P w H h) (e:Rd H a (.dK kvs)):kvs.length<=sizeLine/\(a == sysModules)=false/\∃ vs,KV kvs vs/\h.DictOf (QX P w) a vs:=
 show ObjOk P w H h a (.dK kvs) from Ri ok e
theorem Rz (ok:HOk P w H h) (e:H a=some (.dK kvs)):kvs.length<=sizeLine/\(a == sysModules)=false/\∃ vs,KV kvs vs/\h.DictOf (QX P w) a vs:=VZ ok (.inl e)
theorem Ve {ks:List Key}(ok:HOk P w H h) (e:H a=some (.tup (ks.map kV))):(tupleKind (QX P w)).is h ks a:=by
 obtain ⟨_,its,r,o,h1,h2,n,h3⟩:=(show ObjOk P w H h a (.tup (ks.map kV)) from ok a _ e)
 exact ⟨o,its.toArray,n,h1,h2,h3,by simpa using Kl r⟩
theorem Gy {kvs:List (List Key×V)}(ok:HOk P w H h) (e:Rd H a (.dT kvs)):kvs.length<=sizeLine/\(a == sysModules)=false /\
  ∃ xs,KT H kvs xs/\h.DictOfH (tupleKind (QX P w)) a xs:=by
 obtain ⟨z,y,xs,r,o,es,ep,h1,h2,h3,h4,h5⟩:=(show ObjOk P w H h a (.dT kvs) from Ri ok e)
 refine ⟨z,y,xs,r,o,es,ep,h1,h2,h3,h4,fun x hx=>?_,h5⟩;have all:∀ {l:List (List Key×V)} {m:List (List Key×Addr×Value)},KT H l m->∀ x∈m,(tupleKind (QX P w)).is h x.1 x.2.1:=by
  intro l m q
  induction q with
  | nil=>intro x hx;exact nomatch hx
  | @cons p q ps qs hq t ih=>
   intro x hx;rcases FS.mp hx with e | hx
   ·subst e;exact Ve ok (by rw [<-hq.1];exact hq.2.1)
   ·exact ih x hx
 exact all r x hx
theorem S8 {kvs:List (List Key×V)}(ok:HOk P w H h) (e:H a=some (.dT kvs)):kvs.length<=sizeLine/\(a == sysModules)=false /\
  ∃ xs,KT H kvs xs/\h.DictOfH (tupleKind (QX P w)) a xs:=Gy ok (.inl e)
end
def DGet (H:Hp) (a:Addr) (y:V) (r:Option V):Prop:=
 (∃ kvs k,Rd H a (.dK kvs)/\y=kV k/\r=Zd kvs k)∨∃ kvs k b,Rd H a (.dT kvs)/\y=.ref b/\H b=some (.tup (k.map kV))/\r=Zd kvs k
def DPut (H:Hp) (a:Addr) (y v:V) (H':Hp):Prop:=
 (∃ kvs k,H a=some (.dK kvs)/\y=kV k/\kvs.length<sizeLine/\H'=upd H a (.dK (X9 kvs k v))) ∨
 ∃ kvs k b,H a=some (.dT kvs)/\y=.ref b/\H b=some (.tup (k.map kV))/\kvs.length<sizeLine/\H'=upd H a (.dT (X9 kvs k v))
theorem DGet.k {H:Hp}{a:Addr}{kvs:List (Key×V)}{k:Key}(e:H a=some (.dK kvs)):DGet H a (kV k) (Zd kvs k):=.inl ⟨kvs,k,.inl e,rfl,rfl⟩
theorem DPut.k {H:Hp}{a:Addr}{kvs:List (Key×V)}{k:Key}{v:V}(e:H a=some (.dK kvs)) (hl:kvs.length<sizeLine):DPut H a (kV k) v (upd H a (.dK (X9 kvs k v))):=.inl ⟨kvs,k,e,rfl,hl,rfl⟩
section
variable {X:Cx} {pins:List (Addr×Obj)} {σ:St} {H:Hp} {s:Shared} {a:Addr} {y v:V} {u r:Value} {o:Option V} {A:Around} {E:Value->Shared->Prop}
theorem Inv.big (I:Inv X pins σ H s):sysModules<s.heap.objs.size:=by
 have h:mainGlobals<s.heap.objs.size:=(I.mod.glob.keeps I.bk).lt;exact Nat.lt_trans (by decide) h
theorem Nn {Q:Value->Shared->Prop}(hu:A.units+1<cLine) (I:Inv X pins σ H s) (g:DGet H a y (some v)) (ry:RelV y u) (h:∀ w' s',Inv X pins σ H s'->RelV v w'->Q w' s') :
  wpAny (model X.prog X.w) A (getItem (.ref a) u) Q E s:=by
 rcases g with ⟨kvs,k,e,ey,l⟩ | ⟨kvs,k,b,e,ey,eb,l⟩
 ·subst ey;obtain ⟨z,hd,vs,rel,dd⟩:=VZ I.hok e;obtain ⟨w',hw,rw'⟩:=RelO.some_of (v:=v) (o:=valueAt vs k) (by rw [l];exact rel.val k);exact wpAny_getItem_of (Gg ry) dd.mapOf hw (h w' _ (I.tok _) rw')
 ·subst ey;cases (show u=Value.ref b from ry);obtain ⟨z,hd,xs,rel,dd⟩:=Gy I.hok e;obtain ⟨w',hw,rw'⟩:=RelO.some_of (v:=v) (o:=(atKey xs k).map (·.2)) (by rw [l];exact rel.val k);obtain ⟨p,hp,hp2⟩:=FO.mp hw;refine wpAny_getItem_heap (tupleKind_room_in1 hu) (Ve I.hok eb) dd hp ?_;rw [hp2];exact h w' _ (I.tok _) rw'
theorem BP {Q:Value->Shared->Prop}(hu:A.units+1<cLine) (I:Inv X pins σ H s) (g:DGet H a y o) (ry:RelV y u) (h:∀ s',Inv X pins σ H s'->Q (.bool (!o.isSome)) s') :
  wpAny (model X.prog X.w) A (compareOp .NotIn u (.ref a)) Q E s:=by
 rcases g with ⟨kvs,k,e,ey,l⟩ | ⟨kvs,k,b,e,ey,eb,l⟩
 ·subst ey;obtain ⟨z,hd,vs,rel,dd⟩:=VZ I.hok e;refine wpAny_notIn_of (Gg ry) hd dd.mapOf ?_;rw [<-(rel.val k).isSome_eq,<-l];exact h _ (I.tok _)
 ·subst ey;cases (show u=Value.ref b from ry);obtain ⟨z,hd,xs,rel,dd⟩:=Gy I.hok e;refine wpAny_notIn_heap (tupleKind_room_in1 hu) (Ve I.hok eb) hd dd ?_;have q:=(rel.val k).isSome_eq;rw [Option.isSome_map] at q;rw [<-q,<-l];exact h _ (I.tok _)
theorem GB {ob:HO}(I:Inv X pins σ H s) (mu:Mut (H a)) (hs:Heap.SameBut a s.heap h') (he:∃ q,h'.get? a=some q) (new:ObjOk X.prog X.w (upd H a ob) h' a ob) :
  Inv X pins σ (upd H a ob) { s with heap:=h',toks:=t' }:=
 I.write (x:=a) (e:=a) mu (.inl rfl) (fun b q hb z=>(hs.2 b hb).trans z) he new
theorem PY {vs:List (Key×Value)}(z:kvs.length<=sizeLine) (hd:(a == sysModules)=false) (rel:KV kvs vs) (dd:h'.DictOf (QX P w) a vs) :
  ObjOk P w H' h' a (.dK kvs):=⟨z,hd,vs,rel,dd⟩
theorem Nm {Q:Unit->Shared->Prop}(hu:A.units+1<cLine) (I:Inv X pins σ H s) (g:DPut H a y v H') (ry:RelV y u) (rv:RelV v r) (h:∀ s',Inv X pins σ H' s'->Q () s') :
  wpAny (model X.prog X.w) A (setItem (.ref a) u r) Q E s:=by
 rcases g with ⟨kvs,k,e,ey,l,eH⟩ | ⟨kvs,k,b,e,ey,eb,l,eH⟩
 ·subst ey eH;obtain ⟨z,hd,vs,rel,dd⟩:=Rz I.hok e;have hz:vs.length<=sizeLine:=by rw [<-rel.length];exact z
  have hl:(X9 kvs k v).length<=sizeLine:=by have:=Yg kvs k v;omega
  refine wpAny_setItem_pairs (hsz:=hz) (Gg ry) dd fun h' dd' hs=>h _ ?_
  have he:∃ q,h'.get? a=some q:=let ⟨q,_,_,hq,_⟩:=dd';⟨q,hq⟩;exact GB I (by rw [e];exact True.intro) hs he (PY hl hd (rel.put k rv) dd')
 ·subst ey eH;cases (show u=Value.ref b from ry);obtain ⟨z,hd,xs,rel,dd⟩:=S8 I.hok e;have hz:xs.length<=sizeLine:=by rw [<-Paired.length rel];exact z
  have hl:(X9 kvs k v).length<=sizeLine:=by have:=Yg kvs k v;omega
  refine wpAny_setItem_heap (hsz:=hz) (tupleKind_room_in1 hu) (Ve I.hok eb) dd fun h' dd' hs=>h _ ?_
  obtain ⟨q,es,ep,hq,h2,h3,h4,_,h5⟩:=dd';refine GB I (by rw [e];exact True.intro) hs ⟨q,hq⟩ ⟨hl,hd,_,(rel.put k eb rv).keeps fun c ys ec=>?_,q,es,ep,hq,h2,h3,h4,h5⟩;rw [Qj (VQ ec e (fun z=>nomatch z))];exact ec
end
def Hn (i:Expr):Prop:=∀ ov iv,subscripted i false ov iv=operate [ov,iv] (getItem ov iv)
theorem LK {value slice:Expr}{id:String}{Q:Value->Shared->Prop} 
  (hl:typeLookup (.type T) "__getitem__"=pure (some (.builtin id))) (hs:Hn slice)
  (h:wpAny (model prog w) A (eval value env) (fun o s₁=>wpAny (model prog w) A (eval slice env) (fun i s₂=>s₂.TypeIs o T/\wpAny (model prog w) A (getItem o i) Q E s₂) E s₁) E s) :
  wpAny (model prog w) A (eval (.Subscript value slice pos) env) Q E s:=by
 refine Subscript_ (FV h (fun o s₁ h₁=>FV h₁ (fun i s₂ h₂=>?_) fun _ _ x=>x) fun _ _ x=>x);obtain ⟨hT,h₂⟩:=h₂;unfold subscriptTail;refine Fk ?_;rw [getitemInPython_of_ne hT.not_modules];refine Fk (wpAny_specialOf hT hl ?_);have fin:wpAny (model prog w) A (subscripted slice false o i) (fun r s₃=>wpAny (model prog w) A (letTemporaryGo value o r >>= fun _=>pure r) Q E s₃) E s₂:=by
  rw [hs o i];exact wpAny_operating (FV h₂ (fun r s₃ h₃=>Fk (wpAny_letTemporaryGo (Fw h₃))) fun _ _ x=>x)
 first
  | exact Fw (Fk fin)
  | exact Fk (Fw (Fk fin))
  | exact Fk fin
theorem V0 {y:V}{o:Option V}(I:Inv X pins σ H s) (g:DGet H a y o):s.TypeIs (.ref a) "dict":=by
 rcases g with ⟨kvs,k,e,_,_⟩ | ⟨kvs,k,b,e,_,_,_⟩
 ·obtain ⟨_,_,vs,_,dd⟩:=VZ I.hok e;exact dd.typeIs
 ·obtain ⟨_,_,xs,_,dd⟩:=Gy I.hok e;exact dd.typeIs
def Ra (td ty:TE):TE:=fun σ H Q=>td σ H fun x H1=>ty σ H1 fun y H2=>∃ a v,x=.ref a/\DGet H2 a y (some v)/\Q v H2
def U5 (ty td:TE):TE:=fun σ H Q=>ty σ H fun y H1=>td σ H1 fun x H2=>∃ a o,x=.ref a/\DGet H2 a y o/\Q (.bl (!o.isSome)) H2
def NU (td ty tv:TE):TS:=fun D σ H=>tv σ H fun v H1=>td σ H1 fun x H2=>ty σ H2 fun y H3=>∃ a H4,x=.ref a/\DPut H3 a y v H4/\D.nx σ H4
section
variable {X:Cx} {o i e value:Expr} {pos pos' tpos:Pos} {td ty tv:TE}
theorem Q4 (hu:X.A.units+1<cLine) (ho:PE X o td) (hi:PE X i ty) (hs:Hn i):PE X (.Subscript o i pos) (Ra td ty):=by
 intro pins s σ H Q I h;refine LK PySem.F.slot_dict_getitem.lookup hs (thn (ho pins s σ H _ I h) fun u s1 ⟨x,H1,I1,rx,q1⟩=>thn (hi pins s1 σ H1 _ I1 q1) fun iv s2 ⟨y,H2,I2,ry,a,v,ex,g,q2⟩=>?_);subst ex;obtain rfl:u=Value.ref a:=rx;exact ⟨V0 I2 g,Nn hu I2 g ry fun w' s3 I3 rw'=>⟨v,H2,I3,rw',q2⟩⟩
theorem Kk (hu:X.A.units+1<cLine) (hi:PE X i ty) (ho:PE X o td):PC X .NotIn i o (U5 ty td):=by
 intro pins s σ H Q I h;refine thn (hi pins s σ H _ I h) fun iv s1 ⟨y,H1,I1,ry,q1⟩=>thn (ho pins s1 σ H1 _ I1 q1) fun u s2 ⟨x,H2,I2,rx,a,ov,ex,g,q2⟩=>?_
 subst ex;obtain rfl:u=Value.ref a:=rx;exact BP hu I2 g ry fun s3 I3=>⟨.bl (!ov.isSome),H2,I3,rfl,q2⟩
theorem Xb (hu:X.A.units+1<cLine) (ho:PE X o td) (hi:PE X i ty) (hv:PE X value tv) (hs:swapsWith value (some (.Subscript o i pos')) pos.line X.env=pure false) :
  PS X (.Assign [.Subscript o i pos'] value pos) (NU td ty tv):=by
 intro pins s σ H D I h;refine wpAny_Assign_Subscript (thn (hv pins s σ H _ I h) fun r s1 ⟨v,H1,I1,rv,q1⟩=>thn (ho pins s1 σ H1 _ I1 q1) fun u s2 ⟨x,H2,I2,rx,q2⟩=>thn (hi pins s2 σ H2 _ I2 q2) fun iv s3 ⟨y,H3,I3,ry,a,H4,ex,g,q3⟩=>?_) hs;subst ex;obtain rfl:u=Value.ref a:=rx;exact Nm hu I3 g ry rv fun s4 I4=>⟨σ,H4,I4,q3⟩
end
theorem MZ (h:Heap) (hb:sysModules<h.objs.size):ObjOk P w H (h.push { cls:=.type "dict",data:=.dict #[] }) h.objs.size (.dK []):=
 ⟨FZ _,beq_eq_false_iff_ne.mpr (Eb (FI hb)),[],.nil,Heap.DictOf.new h⟩
def NN:TE:=fun _ H Q=>∀ p,H p=none->Q (.ref p) (upd H p (.dK []))
section
variable {X:Cx} {pos:Pos}
theorem Z0:PE X (.Dict [] [] pos) NN:=fun pins s σ H Q I h=>
 wpAny_Dict_empty ⟨.ref s.heap.objs.size,_,I.laid (a:=s.heap.objs.size) (o:=.dK []) (t':=s.toks) (fun _ _ q=>FG _ q) (Ft _) (MZ s.heap I.big),rfl,h _ (I.hok.fresh (Ft _))⟩
end
end L2
namespace L2
open PySem PyProof.Rows
section
variable {κ:Type} [DecidableEq κ]
theorem NH {kvs:List (κ×V)}{k:κ}(h:Zd kvs k=none):¬ k∈kvs.map (·.1):=by
 intro m;obtain ⟨p,hp,e⟩:=FK.mp m;have q:(kvs.any fun kv=>decide (kv.1=k))=true:=List.any_eq_true.mpr ⟨p,hp,EC e⟩;rw [Xe,h] at q;exact absurd q (by simp)
theorem U1 {kvs:List (κ×V)}{k:κ}(h:Zd kvs k=some v):k∈kvs.map (·.1):=by
 have q:(kvs.any fun kv=>decide (kv.1=k))=true:=by
  rw [Xe,h];all_goals rfl
 obtain ⟨p,hp,e⟩:=List.any_eq_true.mp q;exact FK.mpr ⟨p,hp,Dp e⟩
end
section
variable {X:Cx} {e o value:Expr} {ta tv:TE} {f:Str} {pos pos':Pos}
theorem Ze (K:W.Frag) (h:X.K=K) (he:PE X e ta) (hb:attributeBase e f X.env (eval e X.env)=eval e X.env:=by rfl):PE X (.Attribute e f pos) (LI K ta f):=by subst h;exact Pm he hb
theorem QM (K:W.Frag) (h:X.K=K) (ha:PE X o ta) (hv:PE X value tv) (hs:swapsWith value (some (.Attribute o f pos')) pos.line X.env=pure false:=by rfl):PS X (.Assign [.Attribute o f pos'] value pos) (LP K ta tv f):=by subst h;exact Pi ha hv hs
end
def SH (K:W.Frag):V->List V->Hp->VK->Prop:=fun x vs H Q=>∃ (z:Str) (p:Addr) (ys:List Str),x=.str z/\vs=[.ref p]/\SqL K H p (ys.map V.str)/\(ys.map (·.length)).sum+ys.length*z.length<=16777216/\Q (.str (Txt.join z ys)) H
theorem Ug {ys:List Str}:∀ {us:List Value},Vals (ys.map V.str) us->StrsAre us ys:=by
 induction ys with
 | nil=>intro us r;rw [List.map_nil] at r;cases r;exact .nil
 | cons y ys ih=>
  intro us r;rw [F5] at r;cases r with
  | cons hv r=>
   obtain ⟨t,rfl⟩:=hv;exact .cons _ _ (ih r)
theorem Bo (K:W.Frag) {X:Cx}(h:X.K=K):MtR X "str.join" (SH K):=by
 subst h;intro pins s σ H x xs v us Q I rx rs q;obtain ⟨z,p,ys,rfl,rfl,hq,hz,q⟩:=q;obtain ⟨t,rfl⟩:=rx;obtain ⟨u,rfl,r1⟩:=XH rs;obtain rfl:=r1.ref_of;obtain ⟨its,rv,pl,_⟩:=I.list hq;exact join_list pl.isList (by simpa using Ug rv) hz fun t' k=>⟨.str _,H,I.tok _,⟨_,rfl⟩,q⟩
structure UV (P:Program) (w:World) (K:W.Frag) (mg:Str->Option Value) (base:Heap) (k:Nat) (C:Addr) (m:Str) (ps:List Str) (sp:Sp):Prop where
 ex:∃ (f:Addr) (fd:FuncData),FnOk P w K mg base CX0 k f fd ps sp/\Binds K fd ps []/\Lp K C m f
structure JQ (P:Program) (w:World) (K:W.Frag) (mg:Str->Option Value) (base:Heap) (k:Nat) (C:Addr) (ps:List Str) (sp:Sp):Prop where
 ex:∃ (f:Addr) (fd:FuncData),FnOk P w K mg base CX0 k f fd ps sp/\Binds K fd ps []/\Mk K C f
structure IsC (K:W.Frag) (C:Addr):Prop where
 ha:W.findIn K (.ref C) "__class__"=some (some (.builtin "object.__class__"))
 hn:W.specialIn K (.builtin "object.__class__") "__get__"=some (some (.builtin "getset_descriptor.__get__"))
 htk:W.takesIn K (.builtin "object.__class__")=some true
 hm:W.mroIn K C (.type "object")=some true
section
variable {X:Cx} {k:Nat} {C:Addr} {m x:Str} {ps:List Str} {sp:Sp} {p pos apos:Pos} {o e:Expr} {es:List Expr} {t:TA} {ta:TE}
theorem Mb (G:UV X.prog X.w X.K X.mg X.base k C m ps sp) (hr:Room k X.A) (c:Cls X.K C) (he:PE X o ta) (ha:PA X (e :: es) t)
  (hst:starEach (e :: es) X.env=(false,eval e X.env) :: starEach es X.env:=by rfl) (hpl:(backTo pos (starEach es X.env)).any (·.1)=false:=by rfl)
  (ht:eval (.Call (.Attribute o m apos) (e :: es) [] pos) X.env=(do
   let ov <-eval o X.env
   standAt apos.atName
   let (f,first) <-holding [ov] (getMethod ov m pl)
   callWith pos f first (backTo pos (starEach (e :: es) X.env)) (backToKw pos (keywordEach [] X.env))):=by rfl) :
  PE X (.Call (.Attribute o m apos) (e :: es) [] pos) (VD C m sp [] E0 ta t):=by
 obtain ⟨f,fd,F,b,M⟩:=G.ex;exact L9 he c M F hr b .nil Gd ha hst hpl ht
theorem Ga (G:UV X.prog X.w X.K X.mg X.base k C m ps sp) (hr:Room k X.A) (c:Cls X.K C) (he:PE X o ta)
  (ht:eval (.Call (.Attribute o m apos) [] [] pos) X.env=(do
   let ov <-eval o X.env
   standAt apos.atName
   let (f,first) <-holding [ov] (getMethod ov m pl)
   callWith pos f first (backTo pos (starEach [] X.env)) (backToKw pos (keywordEach [] X.env))):=by rfl) :
  PE X (.Call (.Attribute o m apos) [] [] pos) (VD C m sp [] E0 ta LG):=by
 obtain ⟨f,fd,F,b,M⟩:=G.ex;exact Mc he c M F hr b .nil Gd ht
theorem X0 (G:JQ X.prog X.w X.K X.mg X.base k C ps sp) (hr:Room (k+1) X.A) (hg:Gl X x) (hm:X.mg x=some (.ref C)) (ha:PA X (e :: es) t) (hdb:(x == ("__debug__":Str))=false:=by decide)
  (he:starEach (e :: es) X.env=(false,eval e X.env) :: starEach es X.env:=by rfl) (hpl:(backTo pos (starEach es X.env)).any (·.1)=false:=by rfl):PE X (.Call (.Name x p) (e :: es) [] pos) (WX C sp [] E0 t):=by
 obtain ⟨f,fd,F,b,M⟩:=G.ex;exact Ba M F hr hg hm b .nil Gd ha hdb he hpl
end
theorem YR {f:Str}{fs:List (Str×V)}(hp:H p=some (.ins C dx fs)) (c:Cls K C) (n:NoAttr K C f) (l:fs.lookup f=some v) (q:Q v H) (e:σ[i]?=some (some (.ref p)):=by rfl):LI K (V9 i) f σ H Q:=by
 show asVar σ[i]? _;rw [e];exact ⟨p,C,dx,fs,v,rfl,hp,c,n,l,q⟩
theorem X8 {j:Nat}{f:Str}{fs:List (Str×V)}{D:Q3}(hp:H p=some (.ins C dx fs)) (c:Cls K C) (n:NoAttr K C f) (l:fs.length<1000) (q:D.nx σ (upd H p (.ins C dx (Q5 f v fs)))) (e:σ[i]?=some (some (.ref p)):=by rfl) (e':σ[j]?=some (some v):=by rfl):LP K (V9 i) (V9 j) f D σ H:=by
 show asVar σ[j]? _;rw [e'];show asVar σ[i]? _;rw [e];exact ⟨p,C,dx,fs,rfl,hp,c,n,l,q⟩
theorem Lz {m:Str}{sp:Sp}{ta:TA}{fs:List (Str×V)}(hp:H p=some (.ins C dx fs)) (l:fs.lookup m=none) (q:ta σ H fun vs H2=>sp (.ref p :: (vs++[])) H2 Q E0) (e:σ[i]?=some (some (.ref p)):=by rfl):VD C m sp [] E0 (V9 i) ta σ H Q:=by
 show asVar σ[i]? _;rw [e];exact ⟨p,dx,fs,rfl,hp,l,q⟩
theorem Mv {k:Key}(h:JA k u=true):RelV (kV k) u:=by
 rcases Q0 h with ⟨i,t,rfl,rfl⟩ | ⟨x,t,rfl,rfl⟩
 ·exact ⟨t,rfl⟩
 ·exact ⟨t,rfl⟩
def ItD (d:Addr) (o:Obj) (kvs:List (Key×V)):It:=
 ⟨fun i H=>H d=some (.frz o (.dK kvs))/\i<kvs.length,fun i H x H'=>H'=H/\∃ kv,kvs[i]?=some kv/\x=kV kv.1,fun i H=>H d=some (.frz o (.dK kvs))/\kvs.length<=i⟩
def DOb (P:Program) (w:World) (o:Obj) (vs:List (Key×Value)) (ep:Nat):Prop:=∃ es,o.ExactDict/\o.data=.dict es ep/\KeysOf (QX P w) es/\Pairs (QX P w) es.toList vs/\(vs.map (·.1)).Nodup
theorem Kg {o:Obj}{vs:List (Key×Value)}{ep:Nat}(hob:DOb P w o vs ep) (rel:KV kvs vs) :
  Nx P w K tg (ItD d o kvs) [it] it (fun i h=>h.IsKeyIter it d i vs.length ep) where
 mem:=by simp
 obj:=fun i h st b hb=>by
  have e:b=it:=by simpa using hb
  subst e;obtain ⟨q,e,c,dd⟩:=st;exact ⟨q,e,fun v z=>by rw [dd] at z;cases z⟩
 keep:=fun i h h' ⟨q,e,r⟩ k=>⟨q,k it (by simp) q e,r⟩
 item:=by
  intro X hP hw hK hc i pins s σ H E I hf st hg;subst hP hw hK;obtain ⟨hd,hi⟩:=hg;obtain ⟨es,o1,o2,o3,o4,o5⟩:=hob;obtain ⟨f0,f1,f2,f3,f4,f5⟩:=hf it (by simp);have gd:s.heap.get? d=some o:=(show ObjOk X.prog X.w H s.heap d (.frz o (.dK kvs)) from I.hok d _ hd).1;have hm:s.heap.DictAt (QX X.prog X.w) d vs ep:=⟨o,es,gd,o1,o2,o3,o4,o5⟩
  have hl:=rel.length;obtain ⟨⟨k,u⟩,hx⟩:∃ kv,vs[i]?=some kv:=⟨_,Fu (by omega)⟩
  have hkv:(kvs.map (·.1))[i]?=some k:=by rw [rel.keys,Fx,hx];rfl
  rw [Fx] at hkv;obtain ⟨kv,hkv2,rfl⟩:=FO.mp hkv;refine wpAny_pyNext_dict_item st hm hx fun key h' hk st' sb=>?_
  have I1:Inv X pins σ H { s with heap:=h' }:=I.turned (t':=s.toks) (fun b o hb e=>(sb.2 b hb).trans e) f0 f1 f3 f4 f5;obtain ⟨q,e,c,dd⟩:=id st';exact ⟨key,rfl,Gi (s:={ s with heap:=h' }) e c dd (by decide) ⟨kV kv.1,H,I1,Mv hk,⟨rfl,kv,hkv2,rfl⟩,st',fun b hb=>(hf b hb).1⟩⟩
 done:=by
  intro X hP hw hK hc i pins s σ H E I hf st hg;subst hP hw hK;obtain ⟨hd,hi⟩:=hg;obtain ⟨es,o1,o2,o3,o4,o5⟩:=hob;obtain ⟨f0,f1,f2,f3,f4,f5⟩:=hf it (by simp);have gd:s.heap.get? d=some o:=(show ObjOk X.prog X.w H s.heap d (.frz o (.dK kvs)) from I.hok d _ hd).1;have hm:s.heap.DictAt (QX X.prog X.w) d vs ep:=⟨o,es,gd,o1,o2,o3,o4,o5⟩
  have hl:=rel.length;exact wpAny_pyNext_dict_end (I.ok.hd hc) st hm (Ej (by omega)) fun h' eb=>⟨rfl,I.turned (t':=s.toks) (fun b o hb e=>eb b o hb e) f0 f1 f3 f4 f5⟩
 self:=fun _ _ _ _ _ st h=>wpAny_pyIter_keyiter st h
def Rt (tl:TE):TI:=fun σ H R=>tl σ H fun x H1=>∃ d kvs,x=.ref d/\H1 d=some (.dK kvs)/\∀ o,R (ItD d o kvs) (upd H1 d (.frz o (.dK kvs)))
section
variable {X:Cx} {tg l:Expr} {tl:TE}
theorem L8 (hl:PE X l tl):PI X tg l (Rt tl):=by
 intro pins s σ H R I h;refine thn (hl pins s σ H _ I h) fun v s1 ⟨x,H1,I1,r1,q1⟩=>?_
 obtain ⟨d,kvs,e,hd,q⟩:=q1;subst e;cases r1;obtain ⟨z,hs,vs,rel,dd⟩:=Rz I1.hok hd;obtain ⟨ep,hm⟩:=dd.dictAt;obtain ⟨o,es,gd,o1,o2,o3,o4,o5⟩:=id hm;have I2:Inv X pins σ (upd H1 d (.frz o (.dK kvs))) s1:=by
  refine I1.write (x:=d) (e:=d) (h':=s1.heap) (t':=s1.toks) (by rw [hd];exact True.intro) (.inl rfl) (fun b u _ e=>e) ⟨o,gd⟩ ?_;exact ⟨gd,z,hs,vs,rel,dd⟩
 refine wpAny_pyIter_dict hs hm ?_;have hn:(upd H1 d (.frz o (.dK kvs))) s1.heap.objs.size=none:=I2.hok.fresh (Ft _);refine ⟨s1.heap.objs.size,[s1.heap.objs.size],_,_,_,rfl,I2.kept (t':=s1.toks) fun b o e=>FG _ e,Kg ⟨es,o1,o2,o3,o4,o5⟩ rel,⟨_,FY _ rfl,rfl,rfl⟩,fun b hb=>?_,q o⟩;have e:b=s1.heap.objs.size:=by simpa using hb
 subst e;exact I2.fpOk (Ft _) hn
end
theorem HV {o:Obj}{D:Q3}(Pv:Nat->St->Hp->Prop) (h0:Pv 0 σ H) (hl:∀ i σ H,i<=kvs.length->Pv i σ H->H d=some (.frz o (.dK kvs)))
  (hs:∀ i kv σ H,kvs[i]?=some kv->Pv i σ H->g (kV kv.1) σ H fun σ2 H2=>tb { D with nx:=Pv (i+1),ct:=Pv (i+1),bk:=D.nx } σ2 H2) (hd:∀ σ H,Pv kvs.length σ H->D.nx σ H):Ky (ItD d o kvs) g tb D σ H:=by
 refine ⟨fun i m σ H=>m=kvs.length-i/\i<=kvs.length/\Pv i σ H,⟨kvs.length,by simp,FZ _,h0⟩,?_⟩;rintro i m σ H ⟨rfl,hi,p⟩;have q:=hl i σ H hi p;rcases EY i kvs.length with hlt | hge
 ·refine .inr ⟨⟨q,hlt⟩,Pv (i+1),fun σ' H' p'=>⟨kvs.length-(i+1),by omega,rfl,hlt,p'⟩,?_⟩;rintro x H' ⟨rfl,kv,hk,rfl⟩;exact hs i kv σ _ hk p
 ·have e:i=kvs.length:=by omega
  subst e;exact .inl ⟨⟨q,hge⟩,hd σ H p⟩
def LV:V->List V->Hp->VK->Prop:=fun x vs H Q=>∃ (l:Addr) (xs:List V) (k:Int) (y:V),x=.ref l/\vs=[.int k,y]/\H l=some (.lst xs)/\0<=k/\k<=xs.length/\xs.length<=1000/\Q .non (upd H l (.lst (xs.take k.toNat++y :: xs.drop k.toNat)))
theorem UO {k:Int}(h0:0<=k) (h:k<=1000):¬ (!Builtin.List.listFitsIndex k)=true:=by
 rw [fitsIndex_of h0 (Int.lt_of_le_of_lt h (by decide))];decide
theorem G6:MtM X "list.insert" LV:=by
 intro pins s σ H x vs v us Q I rx rv h;obtain ⟨l,xs,k,y,rfl,rfl,hH,h0,hi,hz,q⟩:=h;cases rx;obtain ⟨u1,u2,rfl,⟨t,rfl⟩,ru⟩:=Ke rv;obtain ⟨z,its,n,r,hl,e⟩:=I.lstM hH;have hs:its.toArray.size<=sizeLine:=by rw [FN];omega
 have hk:k.toNat<=its.length:=by omega
 refine call_meets F.slot_list_insert ⟨_,e,rfl⟩ F.entry_list_insert (F.args_list_insert_3 _ _ _) (AutoListH.list_insert_list_int_val_1 l its.toArray n k t u2 (UO h0 (by omega)) hs) ⟨e,?_⟩;refine ⟨.non,_,I.lset (its':=its.take k.toNat++u2 :: its.drop k.toNat) hH e ?_ ((r.take k.toNat).append (.cons ru (r.drop k.toNat))) ?_,rfl,q⟩
 ·have hm:min k.toNat its.toArray.size=k.toNat:=by rw [FN];omega
  simp only [Fl (show ¬ (k<0) by omega),hm];apply Array.ext';simp only [Array.toList_append,Array.toList_push,Array.toList_extract,FN];simp;exact EX (by rw [Et];omega)
 ·rw [Fv,En,FX,Et];unfold sizeLine;omega
section
variable {P:Program} {w:World} {A:Around} {R:Result->Shared->Prop} {I:Addr} {fp wr:List Addr} {G:Array GenState->Array GenState->Prop} {n:Nat} {T:Nat->Value->Prop} {St:Nat->Shared->Prop}
def met (zs:List Str) (i:Nat) (k:Str):Bool:=decide (k∈zs.take i)
end
section
variable {ta td ty tv tl:TE} {t:TE} {σ:St} {H:Hp} {Q:VK} {D:Q3} {R:It->Hp->Prop} {B:Bool->Hp->Prop}
theorem M4:NN σ H Q=∀ p,H p=none->Q (.ref p) (upd H p (.dK [])):=rfl
theorem d_ni':tB (U5 ty td) σ H B=ty σ H fun y H1=>td σ H1 fun x H2=>∃ a o,x=.ref a/\DGet H2 a y o/\∃ b,V.bl (!o.isSome)=.bl b/\B b H2:=rfl
theorem M6:Ra td ty σ H Q=td σ H fun x H1=>ty σ H1 fun y H2=>∃ a v,x=.ref a/\DGet H2 a y (some v)/\Q v H2:=rfl
theorem M3:NU td ty tv D σ H=tv σ H fun v H1=>td σ H1 fun x H2=>ty σ H2 fun y H3=>∃ a H4,x=.ref a/\DPut H3 a y v H4/\D.nx σ H4:=rfl
theorem M5:Rt tl σ H R=tl σ H fun x H1=>∃ d kvs,x=.ref d/\H1 d=some (.dK kvs)/\∀ o,R (ItD d o kvs) (upd H1 d (.frz o (.dK kvs))):=rfl
theorem M7 {f:Str}:LI K ta f σ H Q=ta σ H fun x H1=>∃ a C dx fs v,x=.ref a/\H1 a=some (.ins C dx fs)/\Cls K C/\NoAttr K C f/\fs.lookup f=some v/\Q v H1:=rfl
theorem M1 {f:Str}:LP K ta tv f D σ H=tv σ H fun y H1=>ta σ H1 fun x H2=>∃ a C dx fs,x=.ref a/\H2 a=some (.ins C dx fs)/\Cls K C/\NoAttr K C f/\fs.length<1000/\D.nx σ (upd H2 a (.ins C dx (Q5 f y fs))):=rfl
end
theorem DGet.r {k:Key}(e:Rd H a (.dK kvs)):DGet H a (kV k) (Zd kvs k):=.inl ⟨kvs,k,e,rfl,rfl⟩
end L2
namespace L2
open PySem PySem.Spec PyProof.Rows
end L2
namespace L2
open PySem PySem.W PyProof.Rows
structure Fi (n:Nat) (lt:Nat->Nat->Bool):Prop where
 tot:∀ i j,i<n->j<n->i≠j->lt i j=!lt j i
 tr:∀ i j k,i<n->j<n->k<n->lt i j=true->lt j k=true->lt i k=true
section
variable {n:Nat} {lt:Nat->Nat->Bool} {p:Array Nat}
variable (L:Fi n lt)
include L
end
def ltS (a b:Str):Prop:=a.cps.toList<b.cps.toList
instance (a b:Str):Decidable (ltS a b):=inferInstanceAs (Decidable (a.cps.toList<b.cps.toList))
theorem Jp:∀ {us:List Value}{zs:List Str},us.length=zs.length->(∀ (j:Nat) v z,us[j]?=some v->zs[j]?=some z->∃ t,v=Value.str z t)->StrsAre us zs
 | [],[],_,_=>.nil
 | u :: us,z :: zs,hl,h=>by
  obtain ⟨t,rfl⟩:=h 0 u z rfl rfl;exact .cons _ _ (Jp (by simpa using hl) fun j v y h1 h2=>h (j+1) v y h1 h2)
 | [],_ :: _,hl,_=>nomatch hl
 | _ :: _,[],hl,_=>nomatch hl
section
variable {prog:Program} {w:World} {A:Around} {E:Value->Shared->Prop} {s:Shared}
theorem VH {kvs:List (Key×Value)}{zs:List Str}{Q:Value->Shared->Prop}(hh:A.handled=none) (lo:(d == sysModules)=false) (hd:s.heap.DictOf (QX prog w) d kvs) (hk:kvs.map (·.1)=zs.map Sum.inr) (h64:zs.length<64)
  (h:∀ (out:Array Value) (ss:List Str) (h1 h':Heap) (tk e:Nat),StrsAre out.toList ss->ss.Perm zs->sortedS ss=true->(∀ b o,s.heap.get? b=some o->h1.get? b=some o)->(∀ b o,h1.get? b=some o->h'.get? b=some o)->h'.get? h1.objs.size=some (seqObj "list" out e)->Q (.ref h1.objs.size) { s with heap:=h',toks:=tk }) :
  wpAny (model prog w) A (call (.builtin "sorted") [.ref d]) Q E s:=by
 obtain ⟨ep,hat⟩:=hd.dictAt;have kl:kvs.length=zs.length:=by
  have:=congrArg List.length hk;rwa [Fo,Fo] at this
 refine Calls.call_function_entry kind_sorted plain_sorted entry_sorted (args_sorted1 _) ?_;show wpAny _ _ (Builtin.«sorted» _) _ _ _;unfold Builtin.«sorted»;refine Fk (m:=checkCount "sorted" 1 1 _) (Fw (Fk (kdu_collect (A:=A.in1) (kdl_dict (knd:=QX prog w) (kvs:=kvs) (ep:=ep) lo) hh hat (by rw [EF];omega) fun h' tk acc hk' hacc=>?_)));have al:acc.toList.length=zs.length:=by rw [Array.length_toList,hacc.1,kl]
 have hS:StrsAre acc.toList zs:=Jp (by omega) fun j v z hj hz=>by
  obtain ⟨k,x,hx,hi⟩:=hacc.2 j v (by rw [<-Array.getElem?_toList];exact hj);have e1:(kvs.map (·.1))[j]?=some k:=by rw [Fx,hx];rfl
  rw [hk,Fx,hz] at e1;cases e1;exact Mv (k:=Sum.inr z) hi
 refine Fk (wpAny_newList ?_ (by rw [EF];omega));have new:(h'.push (seqObj "list" acc.toList.toArray 0)).get? h'.objs.size=some (seqObj "list" acc.toList.toArray 0):=FY _ rfl;show wpAny _ _ _ _ _ { s with heap:=h'.push (seqObj "list" acc.toList.toArray 0),toks:=tk };dsimp only;refine Fk (wpAny_holding (wpAny_call_entry slot_list_sort ⟨_,new,rfl⟩ entry_list_sort (list_sort_treeK strKind_oneLt new hS.keysOf (fun v₁ v₂ rest e=>keyKind_strs (by rw [<-e];exact hS)) (by omega) fun st' hp hs=>⟨_,rfl,?_⟩) (args_list_sort _)));obtain ⟨ss,h1,h2,h3⟩:=sorted_out_str hS hp hs;obtain ⟨e,he⟩:=sortedHeap_at (out:=(arrOf st').map (·.2)) new;refine Fw ⟨_,rfl,h _ ss h' _ tk e h1 h2 h3 hk' (fun b o q'=>?_) he⟩;have hlt:=Fy q';rw [sortedHeap_old (FI hlt) (by rw [size_push'];exact Nat.lt_succ_of_lt hlt)];exact FG _ q'
end
theorem Kc:∀ {us:List Value}{ss:List Str},StrsAre us ss->Vals (ss.map V.str) us
 | _,_,.nil=>.nil
 | _,_,.cons _ t r=>.cons ⟨t,rfl⟩ (Kc r)
def Pf:List V->Hp->VK->Prop:=fun xs H Q=>∃ (d:Addr) (kvs:List (Key×V)) (zs:List Str),xs=[.ref d]/\Rd H d (.dK kvs)/\kvs.map (·.1)=zs.map Sum.inr/\zs.length<64/\∀ l ss,H l=none->ss.Perm zs->sortedS ss=true->Q (.ref l) (upd H l (.lst (ss.map V.str)))
theorem Vt (hc:X.calm=true):ZT X (.builtin "sorted") Pf:=by
 intro pins s σ H xs us Q I r h;obtain ⟨d,kvs,zs,rfl,hd,hk,h64,q⟩:=h;obtain ⟨u,rfl,r1⟩:=XH r;obtain rfl:=r1.ref_of;obtain ⟨z,lo,vs,rel,dd⟩:=VZ I.hok hd;refine VH (I.ok.hd hc) lo dd (by rw [<-rel.keys];exact hk) h64 fun out ss h1 h' tk e s1 s2 s3 k1 k2 he=>?_
 have I1:Inv X pins σ H { s with heap:=h1 }:=I.kept (t':=s.toks) k1;have hz:zs.length<=sizeLine:=by rw [EF];omega
 exact ⟨.ref _,_,I1.laid (t':=tk) k2 (Ft _) (show ObjOk X.prog X.w _ _ _ (.lst (ss.map V.str)) from ⟨by rw [Fo,s2.length_eq];exact hz,out.toList,e,Kc s1,by rw [he]⟩),rfl,q _ _ (I1.hok.fresh (Ft _)) s2 s3⟩
end L2
namespace Gr
variable {α:Type} [DecidableEq α]
end Gr
namespace Gr
open PySem
def NmAt (n:Nat) (two:Bool) (u:Int) (z:Str):Prop:=z.cps[n]?=some (97+(u % 26).toNat)/\(two=true->z.cps[n+1]?=some (97+(u / 26).toNat))
end Gr
namespace L2
open PySem PyProof.Rows Gr
def Nb (H:Hp) (d:Addr) (nms:List Str) (nb:Str->List Str):Prop:=∃ kvs:List (Key×V),H d=some (.dK kvs)/\∀ z∈nms,∃ a,Zd kvs (Sum.inr z)=some (.ref a)/\H a=some (.lst ((nb z).map V.str))
theorem Nb.same {nb:Str->List Str}(h:Nb H d nms nb) (g:Same H H'):Nb H' d nms nb:=by
 obtain ⟨kvs,h1,h2⟩:=h;refine ⟨kvs,g _ _ h1,fun z hz=>?_⟩;obtain ⟨a,h3,h4⟩:=h2 z hz;exact ⟨a,h3,g _ _ h4⟩
theorem Z3 (hk:kvs.map (·.1)=nms.map Sum.inr) {z:Str}(hz:z ∉ nms):Zd kvs (Sum.inr z:Key)=none:=by
 cases q:Zd kvs (Sum.inr z:Key) with
 | none=>rfl
 | some v=>
  have:=U1 q;rw [hk] at this;obtain ⟨y,hy,e⟩:=FK.mp this;cases e;exact absurd hy hz
theorem NG (hk:kvs.map (·.1)=nms.map Sum.inr) {z:Str}(hz:z∈nms):(Zd kvs (Sum.inr z:Key)).isSome=true:=by
 cases q:Zd kvs (Sum.inr z:Key) with
 | some v=>rfl
 | none=>
  exfalso;refine NH q ?_;rw [hk];exact FK.mpr ⟨z,hz,rfl⟩
def vO:Option Str->V
 | none=>.non
 | some p=>.str p
def stE (e:Str×Option Str):Key×V:=(Sum.inr e.1,vO e.2)
theorem W6 (st:List (Str×Option Str)):(st.map stE).map (·.1)=(st.map (·.1)).map Sum.inr:=by rw [El,El];rfl
theorem GK {st:List (Str×Option Str)}(k:Str):(Zd (st.map stE) (Sum.inr k:Key)).isSome=decide (k∈st.map (·.1)):=by
 by_cases c:k∈st.map (·.1)
 ·rw [EC c];exact NG (W6 st) c
 ·rw [F6 c,Z3 (W6 st) c];rfl
theorem NP {st:List (Str×Option Str)}{k:Str}{v:Option Str}(h:k ∉ st.map (·.1)):X9 (st.map stE) (Sum.inr k) (vO v)=(st++[(k,v)]).map stE:=by
 rw [Xg _ (Z3 (W6 st) h),Fz];rfl
end L2
namespace L2
open PySem PySem.Spec PyProof.Rows Gr
end L2
namespace L2
open PySem PyProof.Rows
abbrev TJ:=Str->St->Hp->VK->Prop
end L2
namespace L2
open PySem PySem.Spec PyProof.Rows
structure RoomH (k:Nat) (A:Around) (e:Addr):Prop where
 hd:A.handled=some (.ref e)
 dp:A.depth+3*k+5<recursionLimit
 un:A.units+16*k+200<cLine
theorem RoomH.deeper {k:Nat}(r:RoomH (k+1) A e) (env:Env):RoomH k (A.deeper env) e:=
 ⟨r.hd,by have:=r.dp;show A.depth+1+3*k+5<_;omega,by have:=r.un;show A.units+3+16*k+200<_;omega⟩
theorem RoomH.depth {k:Nat}(r:RoomH k A e):A.depth<recursionLimit:=by have:=r.dp;omega
theorem RoomH.units {k:Nat}(r:RoomH k A e):A.units+64<cLine:=by have:=r.un;omega
theorem Room.hand {k j:Nat}(r:Room k A) (e:Addr) (h:j<=k):RoomH j (A.mark (some (.ref e))) e:=⟨rfl,(r.mono h).dp,(r.mono h).un⟩
def cxH (P:Program) (w:World) (K:W.Frag) (mg:Str->Option Value) (base:Heap) (N:List Str) (qual:Str) (scope:Scope) (f:Addr) (cd:Value) (A:Around) (outer:List Env) (s:Shared) (H:Hp):Cx where
 prog:=P
 w:=w
 K:=K
 mg:=mg
 base:=base
 A:=A.deeper (envOfC qual scope s.heap.objs.size f cd)
 N:=N
 s₀:=s
 H₀:=H
 env:=envOfC qual scope s.heap.objs.size f cd
 outer:=outer
 stack:=envOfC qual scope s.heap.objs.size f cd :: outer
 ex:=[]
 calm:=false
 fn:=fun _=>true
 pn:=[]
 xe:=fun _ _=>False
theorem UM {cd:Value}{s1:Shared} 
  (S:Qn N ps scope) (e0:Env0 P w K mg base A outer s H) (hl:vs.length=ps.length) (r:Vals vs us)
  (x:InCallC s s.heap.objs.size (bindL (envOfC qual scope s.heap.objs.size f cd).kindOf (ps.zip us) fun _=>none) (cellsFrom (s.heap.objs.size+1) scope.names []) (bindC (envOfC qual scope s.heap.objs.size f cd).kindOf (ps.zip us) fun _=>none) s1) :
  Inv (cxH P w K mg base N qual scope f cd A outer s H) [] (start N vs) H s1:=by
 have hpl:ps.length<=N.length:=by have:=congrArg List.length S.pre;rw [FX] at this;omega
 obtain ⟨h1,tk,rfl,hk⟩:=x.done;have noA:∀ b:Addr,b ∉ (cxH P w K mg base N qual scope f cd A outer s H).ex:=fun b z=>absurd (show b∈([]:List Addr) from z) (by simp)
 refine ⟨⟨e0.mod,S.kind,rfl,rfl,Ft _,fun y z c h1 h2=>?_,fun y hy=>?_,fun y c _ h=>?_,fun z=>Bool.noConfusion (show false=true from z),Around.frames_deeper e0.frames,.inr ⟨rfl,rfl⟩,fun b z=>absurd z (noA b),e0.bs,e0.bsz,fun b _ _=>noA b,fun b z=>absurd z (noA b),e0.funs,e0.frf⟩,
  rfl,e0.bare,Un.kept hk,⟨_,x.toInCall.ns,fun i y v h1 h2 h3=>?_⟩,fun y c h=>⟨_,x.cell y c h⟩,e0.hok.fresh (Ft _),fun y c h=>?_,fun p hp=>absurd (show p∈([]:List (Addr×Obj)) from hp) (by simp),e0.hok.kept hk,?_⟩
 ·exact name_of_addr x.apart (EG h1) (EG h2)
 ·have hy:scope.names.lookup y=some .cell∨scope.names.lookup y=some .free:=hy;rcases hy with hy | hy
  ·exact Wm hy
  ·exact absurd rfl (S.nofree _ (EG hy))
 ·exact Dc (x.above y c (EG h))
 ·have hi:i<vs.length:=by
   unfold start at h2;by_cases hi:i<vs.length
   ·exact hi
   ·rw [Ed (by simpa using hi)] at h2;rw [List.getElem?_replicate] at h2;split at h2 <;> cases h2
  have ha:vs[i]?=some v:=by
   unfold start at h2;rw [Ei (by simpa using hi),Fx] at h2;cases e:vs[i]? with
   | none=>rw [e] at h2;cases h2
   | some a=>rw [e] at h2;cases h2;rfl
  obtain ⟨u,hu,rv⟩:=r.get ha;have hp:ps[i]?=some y:=by
   rw [<-S.pre,List.getElem?_take_of_lt (by omega)];exact h1
  have ndP:ps.Nodup:=by rw [<-S.pre];exact S.nd.sublist (List.take_sublist _ _)
  refine ⟨u,rv,?_⟩;rcases S.par y (FD hp) with k | k
  ·exact .inl ⟨k,WT ndP hp hu k⟩
  ·obtain ⟨c,e⟩:=Wm (n:=s.heap.objs.size+1) k;refine .inr ⟨.inl k,c,e,?_⟩;have q:=x.cell y c e;rw [WU ndP hp hu (by show scope.names.lookup y≠_;rw [k];decide)] at q;exact q
 ·exact e0.hok.fresh (Dc (x.above y c (EG h)))
 ·unfold start;show _=N.length;rw [Fv,Fo,List.length_replicate];omega
structure FnOkH (P:Program) (w:World) (K:W.Frag) (mg:Str->Option Value) (base:Heap) (k:Nat) (f:Addr) (fd:FuncData) (ps:List Str) (sp:Addr->Sp):Prop where
 len:∀ e vs H Q E,sp e vs H Q E->vs.length=ps.length
 run:∀ (A:Around) (e:Addr) (outer:List Env) (s:Shared) (H:Hp) (args:Args) (us:List Value) (vs:List V) (Q:VK) (E:XK),RoomH k A e->Env0 P w K mg base A outer s H->BindsTo s fd args (ps.zip us)->Vals vs us->sp e vs H Q E ->
  codeAny (model P w) A (.call (.ref f) args) (CR CX0 outer P w H s Q E) s
theorem FnOkH.imp {k:Nat}{sp sp':Addr->Sp}(F:FnOkH P w K mg base k f fd ps sp)
  (h:∀ e vs H Q E,sp' e vs H Q E->sp e vs H Q E):FnOkH P w K mg base k f fd ps sp':=
 ⟨fun e vs H Q E q=>F.len e vs H Q E (h _ _ _ _ _ q),fun A e outer s H args us vs Q E hr he hb hv hs=>F.run A e outer s H args us vs Q E hr he hb hv (h _ _ _ _ _ hs)⟩
section
variable {P:Program} {w:World} {K:W.Frag} {mg:Str->Option Value} {base:Heap}
theorem Fun.okH {k:Nat}{sp:Addr->Sp}(F:Fun K x qual st f fd) (S:Qn N ps (Qh st)) (len:∀ e vs H Q E,sp e vs H Q E->vs.length=ps.length)
  (hbody:∀ (cdv:Value) (A:Around) (e:Addr) (outer:List Env) (s:Shared) (H:Hp) (vs:List V) (Q:VK) (E:XK),RoomH k (A.deeper (envOfC qual (Qh st) s.heap.objs.size f cdv)) e->sp e vs H Q E ->
   ∃ t,PSs (cxH P w K mg base N qual (Qh st) f cdv A outer s H) (QT st) t/\t { nx:=fun _ H'=>Q .non H',rt:=Q } (start N vs) H):FnOkH P w K mg base (k+1) f fd ps sp:=by
 obtain ⟨oc,od,kV,doc,pm,an,cdv,ct,osl,rfl,lk,hcd⟩:=F.ex;refine ⟨len,fun A e outer s H args us vs Q E hr e0 hb r hsp=>?_⟩;have hl:=len _ _ _ _ _ hsp;have KX:K.In s.heap:=e0.mod.kin.keeps fun b o e=>(e0.bs b o e).1
 have lim:s.heap.NoLimit:=e0.mod.nolimit.keeps fun b o e=>(e0.bs b o e).1
 have hkind:∀ y∈ps.zip us,(Qh st).names.lookup y.1=some .local∨((Qh st).names.lookup y.1=some .cell/\((cellsFrom (s.heap.objs.size+1) (Qh st).names []).lookup y.1).isSome=true):=fun ⟨n,v⟩ hy=>by
  rcases S.par n (List.of_mem_zip hy).1 with q | q
  ·exact .inl q
  ·exact .inr ⟨q,W.cellsFrom_some _ _ _ (.inl q)⟩
 refine codeAny_call_function hr.depth (KX _ _ lk) rfl S.co S.gen rfl (W.codeRec_of KX hcd) (hb _ _ _ _ ?_);refine wpAny_newFunctionEnv_cells S.kind hkind fun env he s1 x=>?_
 subst he;refine ⟨lim.keeps x.toInCall.keep,codeAny_func ?_⟩;obtain ⟨t,ht,hq⟩:=hbody cdv A e outer s H vs Q E (hr.deeper _) hsp;have I:Inv (cxH P w K mg base N qual (Qh st) f cdv A outer s H) [] (start N vs) H s1:=UM S e0 hl r x;refine FV (ht [] s1 (start N vs) H _ I hq) (fun fl s' hs=>?_) fun e s' hs=>False.elim hs
 have fin:∀ {σ':St} {H':Hp} {v:V} {u:Value},Inv (cxH P w K mg base N qual (Qh st) f cdv A outer s H) [] σ' H' s'->RelV v u->Q v H'->CE outer P w H s Q u s':=
  fun {σ' H' v u} J rv q=>⟨v,H',J.os,J.bare,J.base,J.hok,rv,q⟩
 cases fl with
 | ret u=>
  obtain ⟨v,σ',H',J,rv,q⟩:=hs;exact fin J rv q
 | next=>
  obtain ⟨σ',H',J,q⟩:=hs;exact fin (v:=V.non) (u:=Value.none) J rfl q
 | brk=>
  obtain ⟨_,_,_,q⟩:=hs;exact False.elim q
 | cont=>
  obtain ⟨_,_,_,q⟩:=hs;exact False.elim q
end
structure Ta (P:Program) (w:World) (K:W.Frag) (mg:Str->Option Value) (base:Heap) (k:Nat) (name:Str) (ps:List Str) (sp:Addr->Sp):Prop where
 ex:∃ (f:Addr) (fd:FuncData),FnOkH P w K mg base k f fd ps sp/\Binds K fd ps []/\W.keepIn K (.ref f)=true/\mg name=some (.ref f)
section
variable {X:Cx} {k:Nat} {name:Str} {ps:List Str} {sp:Addr->Sp} {ea:Addr} {p pos:Pos} {e:Expr} {es:List Expr} {t:TA}
theorem KY (C:Ta X.prog X.w X.K X.mg X.base k name ps sp) (hr:RoomH k X.A ea) (hg:Gl X name) (ha:PA X (e :: es) t) (hdb:(name == ("__debug__":Str))=false:=by decide)
  (he:starEach (e :: es) X.env=(false,eval e X.env) :: starEach es X.env:=by rfl) (hpl:(backTo pos (starEach es X.env)).any (·.1)=false:=by rfl) :
  PE X (.Call (.Name name p) (e :: es) [] pos) (VE (sp ea) [] E0 t):=by
 obtain ⟨f,fd,F,hb,hk,hm⟩:=C.ex;intro pins s σ H Q I h;refine E7 (X1 I hg hm ?_ hdb);refine W.callWith_K (h₀:=X.base) I.ok.mod.kin hk (thn (ha pos pins s σ H _ I h) fun us s1 ⟨vs,H1,I1,r,q⟩=>⟨I1.kIn,?_⟩) he hpl;have r2:Vals (vs++[]) (us++[]):=r.append .nil;have hl:(us++[]).length=ps.length:=by rw [<-r2.length];exact F.len _ _ _ _ _ q
 refine wpAny_call (EW (F.run X.A ea X.stack s1 H1 ⟨us,[]⟩ (us++[]) (vs++[]) Q E0 hr I1.env0 (hb s1 us I1.kIn hl) r2 q) fun r s' hq=>?_);cases r with
 | error e=>exact False.elim hq
 | ok fl=>
  cases fl with
  | ret u=>exact I1.after hq
  | next=>exact False.elim hq
  | brk=>exact False.elim hq
  | cont=>exact False.elim hq
end
structure Cj {α:Type}(t:Sem α):Prop where
 out:∀ (M:Model) (Γ:PySem.Ctx) (Q1 Q2:α->Pos->Shared->Prop) (E1 E2:Value->Pos->Shared->Prop) (p:Pos) (s:Shared),Sem.wp M Γ t Q1 E1 p s->Sem.wp M Γ t Q2 E2 p s ->
  Sem.wp M Γ t (fun a p s=>Q1 a p s/\Q2 a p s) (fun e p s=>E1 e p s/\E2 e p s) p s
section
variable {α β:Type}
theorem QY {a:α}:Cj (pure a:Sem α):=⟨fun _ _ _ _ _ _ _ _ h1 h2=>⟨h1,h2⟩⟩
theorem XA {x:String}:Cj (unsupported x:Sem α):=⟨fun _ _ _ _ _ _ _ _ h1 _=>h1.elim⟩
theorem QN {m:Sem α}{f:α->Sem β}(h:Cj m) (hf:∀ a,Cj (f a)):Cj (m >>= f):=⟨fun M Γ Q1 Q2 E1 E2 p s h1 h2=>by
 have e:=fun Q E=>Sem.wp_bind M Γ m f Q E p s
 have h1':=(e Q1 E1).mp h1;have h2':=(e Q2 E2).mp h2;exact (e _ _).mpr (Sem.wp_mono M Γ m (fun a p' s' ⟨z1,z2⟩=>(hf a).out M Γ Q1 Q2 E1 E2 p' s' z1 z2) (fun _ _ _ z=>z) p s (h.out M Γ _ _ _ _ p s h1' h2'))⟩
theorem Vr:Cj (load a):=⟨fun _ _ _ _ _ _ _ _ ⟨o,e,h1⟩ ⟨o',e',h2⟩=>by
 rw [e] at e';cases e';exact ⟨o,e,h1,h2⟩⟩
theorem Ks {f:Obj->Obj}:Cj (update a f):=⟨fun _ _ _ _ _ _ _ _ ⟨e,h1⟩ ⟨_,h2⟩=>⟨e,h1,h2⟩⟩
theorem V6 {o:Obj}:Cj (alloc o):=⟨fun _ _ _ _ _ _ _ _ h1 h2=>⟨h1,h2⟩⟩
theorem JJ:Cj stack:=⟨fun _ _ _ _ _ _ _ _ h1 h2=>⟨h1,h2⟩⟩
end
theorem Cj.any {t:Sem α}(h:Cj t) {M:Model}{A:Around}{Q1 Q2:α->Shared->Prop}{E1 E2:Value->Shared->Prop}{s:Shared}(h1:wpAny M A t Q1 E1 s) (h2:wpAny M A t Q2 E2 s):wpAny M A t (fun a s=>Q1 a s/\Q2 a s) (fun e s=>E1 e s/\E2 e s) s:=
 fun Γ p hΓ=>h.out M Γ _ _ _ _ p s (h1 Γ p hΓ) (h2 Γ p hΓ)
theorem V5 {v:Value}:Cj (fieldsOf v):=by
 unfold fieldsOf;split
 ·refine QN Vr fun o=>?_
  split
  ·exact QY
  ·exact XA
 ·exact XA
theorem Wl {v:Value}:Cj (field v i):=by
 unfold field;refine QN V5 fun vs=>?_
 split
 ·exact QY
 ·exact XA
theorem JI {v:Value}:Cj (updateField a i v):=by
 unfold updateField;refine QN Vr fun o=>?_
 split
 ·split
  ·exact Ks
  ·exact XA
 ·exact XA
theorem Yj {v x:Value}:Cj (setField v i x):=by
 unfold setField;split
 ·exact JI
 ·exact XA
theorem cj_setFlight {e:Value}{f:Option Addr}:Cj (setFlight e f):=by
 unfold setFlight;refine QN Wl fun tb=>?_
 split
 ·exact Yj
 ·exact QY
theorem Nq {l:List Env}:Cj (behindIsImport env l):=by
 unfold behindIsImport;split
 ·exact QY
 ·split
  ·exact QY
  ·exact QN Wl fun _=>QY
theorem M9:Cj underTheClaimsCaller:=by
 unfold underTheClaimsCaller;exact QN JJ fun _=>QY
theorem BR {b:Bool}{l:List Env}:Cj (keptBack env b l):=by
 unfold keptBack;split
 ·split
  ·exact QY
  ·exact QN M9 fun _=>QY
 ·exact QY
theorem V4:∀ {l:List Env},Cj (readyFrames l)
 | []=>QY
 | env :: outer=>by
  have ih:=V4 (l:=outer);unfold readyFrames;split
  ·refine QN Vr fun o=>?_
   split
   ·exact QY
   ·exact QN Nq fun _=>QN BR fun _=>QN Ks fun _=>ih
  ·exact XA
theorem US:Cj (PySem.frameOf env):=by
 unfold PySem.frameOf frameEnvs;refine QN (QN JJ fun _=>QY) fun l=>?_
 refine QN ?_ fun r=>?_
 ·unfold frameObject;split
  ·exact QY
  ·exact QN V4 fun _=>QY
 ·split
  ·exact QY
  ·exact XA
theorem La {b:Bool}:Cj (entryPlaceOf f b):=by
 unfold entryPlaceOf;refine QN JJ fun acts=>?_
 split <;> exact QY
theorem Vq {ty:String}{l:List Value}:Cj (newFields ty l):=by
 unfold newFields newObj newObjAsIs;dsimp only;split
 ·exact QN XA fun _=>QN V6 fun _=>QY
 ·exact QN V6 fun _=>QY
theorem Lb {a b c d e:Value}{l:List Value}:Cj (EntryCells.newEntry a b c d e l):=Vq
theorem cj_noteFrame {e:Value}:Cj (noteFrame e env):=by
 unfold noteFrame;split
 ·refine QN Wl fun hd=>?_
  have rest:∀ {b:Bool} {f:Addr},Cj (do
    let a <-PySem.frameOf env
    let pl <-entryPlaceOf f b
    let x <-EntryCells.newEntry hd a Value.none (rawInt ↑f) Value.none pl
    setField e 1 x):=fun {b f}=>QN US fun _=>QN La fun _=>QN Lb fun _=>Yj
  dsimp only;split
  ·refine QN Wl fun fl=>?_
   split
   ·exact QY
   ·exact QN Yj fun _=>rest
  ·exact rest
 ·exact XA
theorem cj_leaving {e:Value}:Cj (leaving env e):=QN cj_noteFrame fun _=>cj_setFlight
def F2 (e:Addr) (h:Heap):Prop:=∃ o vs,h.get? e=some o/\o.data=.fields vs/\vs[2]?=some .none
theorem PH {o:Obj}{vs:Array Value}{f:Array Value->Array Value}(h:o.data=.fields vs):(Obj.mapFields f o).data=.fields (f vs)/\(Obj.mapFields f o).isFreed=false:=by
 obtain ⟨c,d,dt,sl⟩:=o;cases h;exact ⟨rfl,rfl⟩
end L2
namespace L2
open PySem PySem.Spec PyProof.Rows PySem.W Builtin Builtin.ObjectAttr Builtin.Getset_descriptor
end L2
namespace L2
open PySem PySem.Spec PyProof.Rows PySem.W Builtin
section
variable {prog:Program} {w:World} {A:Around} {E:Value->Shared->Prop} {s:Shared} {e it l:Addr} {i:Nat} {items:Array Value}
theorem J1:entryFor table "proto.unchain"=some Builtin.«proto.unchain»:=by kernel_rfl
theorem GS {o:Obj}{us:Array Value}{Q:α->Shared->Prop}(hh:A.handled=some (.ref e)) (f2:F2 e s.heap) (ha:s.heap.get? a=some o) (hd:o.data=.fields us) (h2:2<us.size) (hne:e≠a)
  (hE:E (.ref a) { s with heap:=s.heap.update a (Obj.mapFields fun x_1=>x_1.setIfInBounds 2 (.ref e)) }):wpAny (model prog w) A (raiseNew (.ref a):Sem α) Q E s:=by
 obtain ⟨oe,vs,k1,k2,k3⟩:=f2;unfold raiseNew;refine Fk (wpAny_handled ?_);rw [hh];dsimp only;rw [Fs (by rw [bne_iff_ne];intro z;cases z;exact hne rfl)];refine Fk (wpAny_holding (wpAny_runValue (codeAny_builtin J1 ?_)));unfold Builtin.«proto.unchain»;dsimp only;refine Fk (wpAny_field k1 k2 k3 ?_);rw [Fs (by rfl)];refine Fw ?_;refine Fk ?_;show wpAny (model prog w) A (setField (.ref a) 2 (.ref e)) _ _ _;refine wpAny_setField ha hd h2 ?_;exact wpAny_throw hE
theorem Br {Q:Option Value->Shared->Prop}(hh:A.handled=some (.ref e)) (f2:F2 e s.heap) (ne:e≠it) (hit:s.heap.IsListIter it l i) (hl:s.heap.IsList l items) (hx:items[i]?=none)
  (hE:∀ (h':Heap) (x:Addr),Heap.ExtBut it s.heap h'->(∃ o,h'.get? x=some o/\o.cls=Value.type "StopIteration")->E (.ref x) { s with heap:=h' }):wpAny (model prog w) A (callSpecial? (.ref it) (Str.ofString "__next__")) Q E s:=by
 obtain ⟨o,ho,hc,hd⟩:=id hit;obtain ⟨ol,hol,left,nl,hdl⟩:=hl;refine wpAny_callSpecial?_slot hit.typeIs slot_listiter_next (wpAny_call_entry slot_listiter_next hit.typeIs entry_listiter_next ?_)
 change wpAny _ _ (field (.ref it) 0 >>= _) _ _ _
 refine Fk (wpAny_field ho hd rfl ?_)
 change wpAny _ _ (field (.ref it) 1 >>= _) _ _ _
 refine Fk (wpAny_field ho hd rfl ?_)
 change wpAny _ _ (seqItems? (.ref l) >>= _) _ _ _
 refine Fk (wpAny_seqItems hol hdl ?_);have hx':items[(i:Int).toNat]?=none:=hx;dsimp only [Int.toNat_natCast];rw [hx];dsimp only;refine Fk (wpAny_rule (Fk (wpAny_setField ho hd (by simp) ?_)));unfold SmallTypes.stopIteration newExc;refine Fk (Fk (wpAny_newObj_type (Fk (wpAny_of_eq (Eq.refl (firstArgMember (Value.type "StopIteration") [])) (wpAny_newObj_type ?_)))));have e1:Heap.ExtBut it s.heap (s.heap.update it (Obj.mapFields fun x=>x.setIfInBounds 0 Value.none)):=fun b ob hb hg=>EZ _ (Eb hb) hg
 generalize s.heap.update it (Obj.mapFields fun x=>x.setIfInBounds 0 Value.none)=h1 at *;have fe:F2 e h1:=by
  obtain ⟨oe,vs,k1,k2,k3⟩:=f2;exact ⟨oe,vs,e1 e oe ne k1,k2,k3⟩
 dsimp only;generalize hob:({ cls:=Value.type "StopIteration",data:=Data.fields _ }:Obj)=ob;have hcls:ob.cls=Value.type "StopIteration":=by rw [<-hob]
 obtain ⟨us,hus,hsz⟩:∃ us,ob.data=.fields us/\2<us.size:=by
  rw [<-hob];refine ⟨_,rfl,?_⟩;rw [Array.size_append];show 2<6+_;omega
 clear hob;have k2:∀ b o,h1.get? b=some o->(h1.push { cls:=Value.type "tuple",data:=Data.seq #[] }).get? b=some o:=fun b o q=>FG _ q
 generalize h1.push { cls:=Value.type "tuple",data:=Data.seq #[] }=h2 at *;have k3:∀ b o,h2.get? b=some o->(h2.push ob).get? b=some o:=fun b o q=>FG _ q
 have alive:ob.isFreed=false:=by
  obtain ⟨c,d,dt,sl⟩:=ob;cases hus;rfl
 have kn:(h2.push ob).get? h2.objs.size=some ob:=FY _ alive;have fresh:∀ b o,h2.get? b=some o->h2.objs.size≠b:=fun b o q z=>absurd (Fy q) (by rw [z];exact FM _)
 have fe3:F2 e (h2.push ob):=by
  obtain ⟨oe,vs,q1,q2,q3⟩:=fe;exact ⟨oe,vs,k3 _ _ (k2 _ _ q1),q2,q3⟩
 have hne:e≠h2.objs.size:=by
  obtain ⟨oe,vs,q1,q2,q3⟩:=fe;exact (fresh _ _ (k2 _ _ q1)).symm
 refine GS (s:={ s with heap:=h2.push ob }) hh fe3 kn hus hsz hne (hE _ _ (fun b o hb hg=>?_) ?_)
 ·have q:=k2 _ _ (e1 b o hb hg);exact EZ _ (fresh _ _ q) (k3 _ _ q)
 ·obtain ⟨m1,m2⟩:=PH (f:=fun x_1=>x_1.setIfInBounds 2 (Value.ref e)) hus;refine ⟨_,Du _ kn m2,?_⟩;obtain ⟨c,d,dt,sl⟩:=ob;cases hus;exact hcls
theorem ZM {Q:Option Value->Shared->Prop}(hh:A.handled=some (.ref e)) (f2:F2 e s.heap) (ne:e≠it) (hit:s.heap.IsListIter it l i) (hl:s.heap.IsList l items) (hx:items[i]?=none)
  (hQ:∀ h':Heap,Heap.ExtBut it s.heap h'->Q none { s with heap:=h' }):wpAny (model prog w) A (pyNext (.ref it)) Q E s:=by
 unfold pyNext;refine Fk (wpAny_attempt (Br hh f2 ne hit hl hx fun h' x eb ⟨o,k1,k2⟩=>?_));dsimp only;unfold isInstance;refine Fk ?_
 repeat (first | (with_reducible refine wpAny_loadPart_at k1 ?_;rw [k2]) | wp_step)
 refine wpAny_of_eq (show isSubtype (Value.type "StopIteration") (Value.type "StopIteration")=pure true by kernel_rfl) (Fw ?_);exact hQ _ eb
end
structure RE (P:Program) (w:World) (K:W.Frag) (ea:Addr) (tg:Expr) (J:It) (fp:List Addr) (it:Addr) (tn:Nat->Heap->Prop):Prop where
 mem:it∈fp
 obj:∀ i h,tn i h->∀ b∈fp,∃ o,h.get? b=some o/\∀ v,o.data≠.cell v
 keep:∀ i h h',tn i h->(∀ b∈fp,∀ o,h.get? b=some o->h'.get? b=some o)->tn i h'
 item:∀ (X:Cx),X.prog=P->X.w=w->X.K=K->X.A.handled=some (.ref ea)->∀ (i:Nat) (pins:List (Addr×Obj)) (s:Shared) (σ:St) (H:Hp) (E:Value->Shared->Prop),Inv X pins σ H s->(∀ b∈fp,XC X pins H b)->tn i s.heap->J.go i H ->
  wpAny (model P w) X.A (pyNext (.ref it)) (fun r s1=>∃ u,r=some u /\
   wpAny (model P w) X.A (letOwnedTupleGo tg (.ref it) u) (fun _ s2=>∃ x H',Inv X pins σ H' s2/\RelV x u/\J.yld i H x H'/\tn (i+1) s2.heap/\∀ b∈fp,H' b=none) E s1) E s
 done:∀ (X:Cx),X.prog=P->X.w=w->X.K=K->X.A.handled=some (.ref ea)->∀ (i:Nat) (pins:List (Addr×Obj)) (s:Shared) (σ:St) (H:Hp) (E:Value->Shared->Prop),Inv X pins σ H s->(∀ b∈fp,XC X pins H b)->tn i s.heap->J.stop i H ->
  wpAny (model P w) X.A (pyNext (.ref it)) (fun r s1=>r=none/\Inv X pins σ H s1) E s
 self:∀ (A:Around) (i:Nat) (s:Shared) (Q:Value->Shared->Prop) (E:Value->Shared->Prop),tn i s.heap->Q (.ref it) s->wpAny (model P w) A (pyIter (.ref it)) Q E s
def Fg (X:Cx) (ea:Addr) (pins:List (Addr×Obj)) (σ:St) (tg:Expr) (R:It->Hp->Prop) (itv:Value) (s2:Shared):Prop:=
 ∃ (it:Addr) (fp:List Addr) (tn:Nat->Heap->Prop) (J:It) (H':Hp),itv=.ref it/\Inv X pins σ H' s2/\RE X.prog X.w X.K ea tg J fp it tn/\tn 0 s2.heap/\(∀ b∈fp,XC X pins H' b)/\R J H'
def PIH (X:Cx) (ea:Addr) (tg iter:Expr) (wi:TI):Prop:=
 ∀ (pins:List (Addr×Obj)) (s:Shared) (σ:St) (H:Hp) (R:It->Hp->Prop),Inv X pins σ H s->wi σ H R ->
  wpAny (model X.prog X.w) X.A (eval iter X.env) (fun v s1=>wpAny (model X.prog X.w) X.A (pyIter v) (Fg X ea pins σ tg R) X.xe s1) X.xe s
theorem Me {cl:List (Str×Addr)}{wi:TI}(hc:X.A.handled=some (.ref ea)) (O:X6 X scope cl N caps)
  (hi:PIH X ea (.Name x px) iter wi) (hg:∀ C s H ex,PG (blk X scope cl N C s H ex) (.Name x px) g) (ht:∀ C s H ex,PTs (blk X scope cl N C s H ex) ifs tt) (he:∀ C s H ex,PE (blk X scope cl N C s H ex) elt te)
  (hs:∀ v,foldedSetIterable iter X.env v=pure v:=by intro _;rfl):PE X (.ListComp elt [⟨.Name x px,iter,ifs,0⟩] scope pos) (Kh caps wi g tt te):=by
 intro pins s σ H Q I h;rw [eval_ListComp];refine wpAny_comprehension_free (use:=none) rfl hs O.clos O.kind O.names (thn (hi pins s σ H _ I h) fun v s1 h1=>thn h1 fun itv s2 h2=>?_);obtain ⟨it,fp,tn,J,H2,e,I2,T,st2,f2,W,⟨m0,w0⟩,turn⟩:=h2;subst e;refine wpAny_newObj_type (wpAny_newFunctionEnv O.nocell (by intro y hy;simp at hy) (fun h₁ hns₁ hsb₁=>?_) O.kind);dsimp only at hns₁ hsb₁ ⊢;generalize hH2:s2.heap.push { cls:=.type "list",dict:=none,data:=.seq ([]:List Value).toArray }=P2 at hns₁ hsb₁ ⊢;have hC:P2.objs.size=s2.heap.objs.size+1:=by rw [<-hH2,Heap.size_push]
 have hDC:s2.heap.objs.size≠P2.objs.size:=by rw [hC];exact FI (De _)
 have hCle:s2.heap.objs.size<=P2.objs.size:=by rw [hC];exact EA _
 have old:∀ b o,s2.heap.get? b=some o->h₁.get? b=some o:=fun b o e=>hsb₁.extBut b o (FI (FP (Fy e) hCle)) (FG _ (hH2 ▸ FG _ e))
 have hacc:h₁.PlainList s2.heap.objs.size #[]:=⟨_,hsb₁.extBut _ _ hDC (FG _ (hH2 ▸ FY _ rfl))⟩
 have hlt:∀ b∈fp,b<s2.heap.objs.size:=fun b hb=>by
  obtain ⟨o,e,_⟩:=T.obj 0 _ st2 b hb;exact Fy e
 generalize hCC:P2.objs.size=C at *;generalize hDD:s2.heap.objs.size=Dl at *;have I3:Inv (blk X scope cl N C s2 H2 fp) [] (WN caps σ) H2 { s2 with heap:=h₁,toks:=s2.toks+([]:List (Str×Value)).length }:=WS I2 O f2 (by rw [hDD];exact hlt) old (by rw [hDD];exact hCle) hns₁;have st3:tn 0 h₁:=T.keep 0 _ _ st2 fun b _ o e=>old b o e
 have hDn:H2 Dl=none:=I2.hok.fresh (by rw [hDD];exact Ft _);have nfs:∀ b∈fp,b ∉ frs X.stack:=fun b hb z=>by
  rcases FS.mp (I2.stkSub b z) with q | q
  ·exact (f2 b hb).2.1 q
  ·exact (f2 b hb).2.2.1 q
 have stat:∀ {H':Hp},(∀ b∈fp,H' b=none)->∀ b∈fp,XC (blk X scope cl N C s2 H2 fp) [] H' b:=fun hn b hb=>
  ⟨hn b hb,FI (FP (hlt b hb) hCle),nfs b hb,.inl hb,fun x c e=>(f2 b hb).2.2.2.2.1 x c (O.sub x c e),fun p hp=>absurd (show p∈([]:List (Addr×Obj)) from hp) (by simp)⟩
 have cellD:∀ x c,cl.lookup x=some c->c≠Dl:=fun x c e z=>by
  obtain ⟨v,q⟩:=I2.cell x c (O.sub x c e);have:=q.lt;rw [hDD] at this;exact FM _ (z ▸ this)
 have nfsD:Dl ∉ frs X.stack:=fun z=>by
  have:=I2.stkSub Dl z;rcases FS.mp this with q | q
  ·have:=I2.lt;rw [hDD] at this;exact FM _ (q ▸ this)
  ·exact I2.nofs (by rw [hDD];exact Ft _) q
 have statD:∀ {H':Hp},H' Dl=none->XC (blk X scope cl N C s2 H2 fp) [] H' Dl:=fun hn=>⟨hn,hDC,nfsD,.inr (Nat.le_of_eq hDD),cellD,fun p hp=>absurd (show p∈([]:List (Addr×Obj)) from hp) (by simp)⟩
 have loop:∀ s₃:Shared,s₃={ s2 with heap:=h₁,toks:=s2.toks+([]:List (Str×Value)).length } ->
   codeAny (model X.prog X.w) X.A (.compLoop (.ListComp elt [⟨.Name x px,iter,ifs,0⟩] scope pos) 0 (.ref it) (.ref Dl) (compEnvC scope cl C X.env))
    (compPost (model X.prog X.w) X.A X.xe none (EP X pins σ Q) (.ref Dl) C) s₃:=by
  intro s₃ hs3;subst hs3;refine X3 (fun n s'=>∃ i σ' H' acc its,Inv (blk X scope cl N C s2 H2 fp) [] σ' H' s'/\tn i s'.heap/\(∀ b∈fp,H' b=none)/\H' Dl=none/\Vals acc its/\s'.heap.PlainList Dl its.toArray/\acc.length<=sizeLine/\W i n acc σ' H') ?_ m0
   ⟨0,WN caps σ,H2,[],[],I3,st3,fun b hb=>(f2 b hb).1,hDn,.nil,hacc,FZ _,w0⟩
  rintro n s3 ⟨i,σ3,H3,acc,its,J3,st3,fr3,d3,va,pl3,la,w3⟩;rcases turn i n acc σ3 H3 w3 with ⟨stop,qn⟩ | ⟨go,la2,step⟩
  ·refine thn (T.done (blk X scope cl N C s2 H2 fp) rfl rfl rfl hc i [(Dl,{ cls:=.type "list",data:=.seq its.toArray (Classical.choose pl3) })] s3 σ3 H3 (fun _ _=>False) (J3.pins_of fun p hp=>?_) (fun b hb=>?_) st3 stop) fun r s4 ⟨hr,J4⟩=>?_
   ·have e:=FE.mp (show p∈[_] from hp);subst e;exact ⟨Df pl3,d3,hDC,nfsD,fun v z=>by cases z⟩
   ·obtain ⟨q1,q2,q3,q4,q5,q6⟩:=stat fr3 b hb;refine ⟨q1,q2,q3,q4,q5,fun p hp z=>?_⟩;have e:=FE.mp (show p∈[_] from hp);subst e;exact absurd (hlt b hb) (by rw [<-z];exact FM _)
   ·subst hr;obtain ⟨m,hn,_⟩:=J4.loc;refine ⟨m,hn,fun h' sb=>?_⟩;have pD:=J4.pin (Dl,_) (by simp;rfl);have J5:=Vv I2 f2 J4 (by rw [hDD];exact hCle) sb;refine ⟨.ref Dl,upd H3 Dl (.lst acc),?_,rfl,qn _ d3⟩;refine J5.track (o:=.lst acc) (FQ I2.sz (by rw [hDD];exact Ft _)) d3 (fun z=>by
     have:=I2.lt;rw [hDD,<-z] at this;exact FM _ this) (fun y c e z=>by
     obtain ⟨v,q⟩:=I2.cell y c e;have:=q.lt;rw [hDD] at this;exact FM _ (z ▸ this)) (fun p hp z=>by
     have:=Fy (I2.pin p hp).1;rw [hDD,z] at this;exact FM _ this) ⟨la,its,_,va,(sb.2 Dl hDC).trans pD.1⟩
  ·refine thn (T.item (blk X scope cl N C s2 H2 fp) rfl rfl rfl hc i [(Dl,{ cls:=.type "list",data:=.seq its.toArray (Classical.choose pl3) })] s3 σ3 H3 (fun _ _=>False) (J3.pins_of fun p hp=>?_) (fun b hb=>?_) st3 go) fun r s4 ⟨u,hr,h4⟩=>?_
   ·have e:=FE.mp (show p∈[_] from hp);subst e;exact ⟨Df pl3,d3,hDC,nfsD,fun v z=>by cases z⟩
   ·obtain ⟨q1,q2,q3,q4,q5,q6⟩:=stat fr3 b hb;refine ⟨q1,q2,q3,q4,q5,fun p hp z=>?_⟩;have e:=FE.mp (show p∈[_] from hp);subst e;exact absurd (hlt b hb) (by rw [<-z];exact FM _)
   ·subst hr;refine thn h4 fun _ s5 ⟨y,H5,J5,r5,y5,st5,fr5⟩=>?_
    have J5':Inv (blk X scope cl N C s2 H2 fp) ([(Dl,{ cls:=.type "list",data:=.seq its.toArray (Classical.choose pl3) })]++Xz fp s5.heap) σ3 H5 s5:=J5.pinned (fun b hb=>by
     obtain ⟨q1,q2,q3,q4,q5,q6⟩:=stat fr5 b hb;refine ⟨q1,q2,q3,q4,q5,fun p hp z=>?_⟩;have e:=FE.mp (show p∈[_] from hp);subst e;exact absurd (hlt b hb) (by rw [<-z];exact FM _)) (T.obj _ _ st5)
    refine thn (hg C s2 H2 fp _ s5 σ3 H5 y u _ J5' r5 (step y H5 y5)) fun _ s6 ⟨σ6,H6,J6,q6⟩=>?_
    refine thn (ht C s2 H2 fp _ s6 σ6 H6 _ J6 q6) fun ok s7 ⟨H7,J7,q7⟩=>?_
    have back:∀ {H8:Hp} {s8:Shared},Inv (blk X scope cl N C s2 H2 fp) ([(Dl,{ cls:=.type "list",data:=.seq its.toArray (Classical.choose pl3) })]++Xz fp s5.heap) σ6 H8 s8 ->
      tn (i+1) s8.heap/\(∀ b∈fp,H8 b=none)/\H8 Dl=none/\s8.heap.PlainList Dl its.toArray:=fun {H8 s8} J8=>by
     have pb:∀ b∈fp,∀ o,s5.heap.get? b=some o->s8.heap.get? b=some o/\H8 b=none:=fun b hb o e=>by
      have:=J8.pin (b,o) (F4 _ (F4 _ (Xi hb e)));exact ⟨this.1,this.2.1⟩
     have pd:=J8.pin (Dl,_) (F4 _ (Ez _ (FE.mpr rfl)));refine ⟨T.keep _ _ _ st5 fun b hb o e=>(pb b hb o e).1,fun b hb=>?_,pd.2.1,⟨_,pd.1⟩⟩;obtain ⟨o,e,_⟩:=T.obj _ _ st5 b hb;exact (pb b hb o e).2
    cases ok with
    | false=>
     rw [Fl FT] at q7 ⊢;obtain ⟨m',hm,w7⟩:=q7;obtain ⟨b1,b2,b3,b4⟩:=back J7;exact ⟨m',hm,i+1,σ6,H7,acc,its,J7.pins_of (fun p hp=>absurd hp (by simp)),b1,b2,b3,va,b4,la,w7⟩
    | true=>
     rw [Fs rfl] at q7 ⊢;refine thn (he C s2 H2 fp _ s7 σ6 H7 _ J7 q7) fun z s8 ⟨zv,H8,J8,r8,q8⟩=>?_
     obtain ⟨m',hm,w8⟩:=q8;obtain ⟨b1,b2,b3,b4⟩:=back J8;have z1:its.length=acc.length:=va.length.symm;refine wpAny_list_append_plain (hsz:=by rw [FN];omega) b4 fun h9 pl9 sb9=>?_
     have J9:Inv (blk X scope cl N C s2 H2 fp) [] σ6 H8 { s8 with heap:=h9,toks:=s8.toks }:=by
      obtain ⟨k0,k1,k2,k3,k4,k5⟩:=statD (H':=H8) b3;exact (J8.pins_of (pins':=[]) (fun p hp=>absurd hp (by simp))).turned (it:=Dl) (fun b o hb e=>(sb9.2 b hb).trans e) k0 k1 k3 k4 k5
     refine ⟨m',hm,i+1,σ6,H8,acc++[zv],its++[z],J9,T.keep _ _ _ b1 fun b hb o e=>(sb9.2 b (FI (hlt b hb))).trans e,b2,b3,va.append (.cons r8 .nil),?_,?_,w8⟩
     ·simpa using pl9
     ·rw [Fv,FH];omega
 exact codeAny_compStart_list (loop _ rfl) (T.self X.A 0 _ _ _ st3 (loop _ rfl))
theorem Vy (hh:A.handled=some (.ref e)) (I ax:Addr) (hne:ax≠I) (hei:e≠I) (items:Array Value) :
  Walks prog w A I [I,ax,e] [I] items.size (fun i v=>items[i]?=some v) fun i h=>h.IsListIter I ax i/\h.IsList ax items/\F2 e h where
 sub:=fun b hb=>by simp at hb;simp [hb]
 frame:=fun i h h' ⟨s1,s2,o,vs,k1,k2,k3⟩ hk=>⟨s1.at fun o e=>hk I (by simp) o e,s2.at fun o e=>hk ax (by simp) o e,o,vs,hk _ (by simp) _ k1,k2,k3⟩
 item:=fun i s Q E hi ⟨s1,s2,o,vs,k1,k2,k3⟩ hQ=>by
  refine wpAny_pyNext_list_item s1 s2 (x:=items[i]) (by simp [hi]) fun h' st' sb=>?_
  exact hQ items[i] h' s.toks (by simp [hi]) ⟨st',s2.extBut sb.extBut hne,o,vs,sb.extBut _ _ hei k1,k2,k3⟩ fun b ob hb g=>sb.extBut b ob (by simpa using hb) g
 done:=fun s Q E ⟨s1,s2,f2⟩ hQ=>ZM hh f2 hei s1 s2 (by simp) fun h' eb=>hQ h' s.toks fun b ob hb g=>eb b ob (by simpa using hb) g
 self:=fun _ _ _ _ st hQ=>wpAny_pyIter_listiter st.1 hQ
end L2
namespace L2
open PySem PySem.Spec PyProof.Rows
end L2
namespace L2
open PySem PySem.Spec PyProof.Rows
end L2
namespace L2
open PySem PySem.W PyProof.Rows
section
variable {prog:Program} {w:World} {A:Around} {E:Value->Shared->Prop} {s:Shared}
theorem Wg {h:Heap}{ks:List Bool}:∀ (vs:List Value),(∀ v∈vs,GE h (false :: ks) v)->∃ fs,KatTups h vs fs/\fs.length=vs.length/\∀ f∈fs,∃ x t,f=Value.int x t
 | [],_=>⟨[],trivial,rfl,by simp⟩
 | v :: vs,H=>by
  obtain ⟨fs,h1,h2,h3⟩:=Wg vs fun u hu=>H u (F9 _ hu)
  obtain ⟨a,o,xs,n,rfl,ho,hc,hd,hp⟩:=H v Ea;obtain ⟨f,r,hx,hf⟩:∃ f r,xs.toList=f :: r/\Wp false f:=by
   generalize xs.toList=l at hp;cases hp with
   | cons hf _=>exact ⟨_,_,rfl,hf⟩
  ·refine ⟨f :: fs,⟨⟨a,o,xs,n,rfl,ho,hc,hd,?_⟩,h1⟩,by simp [h2],?_⟩
   ·have:xs.toList[0]?=some f:=by rw [hx];rfl
    simpa using this
   ·intro g hg;rcases FS.mp hg with rfl | hg
    ·exact hf
    ·exact h3 g hg
theorem VT {vs:List Value}{ks:List Bool}{P:PySem.Fin->Shared->Prop}(ho:s.heap.get? a=some (seqObj "list" vs.toArray n)) (h64:vs.length<64) (ht:∀ v∈vs,GE s.heap (false :: ks) v)
  (fin:∀ out:Array Value,out.toList.Perm vs->P (.done (.ret .none)) { s with heap:=sortedHeap s.heap a vs out }):wpAny (model prog w) A (Builtin.«list.sort» ⟨[.ref a],[]⟩) P E s:=by
 have hv:vs.length<=sizeLine:=by rw [EF];omega
 obtain ⟨e1,ho1⟩:∃ e1,(s.heap.update a (Obj.mapSeq fun _=>(#[]:Array Value))).get? a=some (seqObj "list" #[] e1):=⟨_,get?_update_seq ho fun _=>#[]⟩
 have ho6:(bare s.heap a vs).get? a=some (seqObj "list" #[] e1):=FG _ (FG _ ho1);have ht6:∀ v∈vs,GE (bare s.heap a vs) (false :: ks) v:=fun v m=>by
  obtain ⟨b,o,xs,k,rfl,g,hc,hd,hp⟩:=ht v m;refine ⟨b,o,xs,k,rfl,Lk (fun z=>?_) g,hc,hd,hp⟩;subst z;rw [ho] at g;cases g;simp [seqObj] at hc
 rw [list_sort_plain];refine Fk (listItems_at ho rfl (Fk (listUpdate_at ho rfl (Fk (seqEpoch_at ho1 rfl (Fk (wpAny_newTuple (Fk (wpAny_newList (wpAny_holding ?_) (FZ _))) ?_)))) ?_ (FZ _))))
 rotate_left
 ·exact hv
 ·rw [FN];exact hv
 show wpAny (model prog w) A _ P E { s with heap:=bare s.heap a vs };dsimp only;by_cases h2:vs.toArray.size<2
 ·rw [Fs h2,Fs h2];refine Fk (Fw ?_);rw [StateT.run_pure];refine Fk (Fw ?_);dsimp only;have e:(arrOf (SortSt.mk' general' (vs.toArray.zip vs.toArray) #[] 7 none)).map (·.2)=vs.toArray:=by
   apply Array.toList_inj.mp;show (Array.map _ (vs.toArray.zip vs.toArray)).toList=vs;rw [Array.toList_map,Array.toList_zip];exact List.map_snd_zip (Ft _)
  refine Fk (seqEpoch_at ho6 rfl (Fk (listUpdate_at ho6 rfl ?_ (FZ _) ?_)))
  ·simp only [bne_self_eq_false,Bool.false_eq_true,if_false];exact Fw (fin _ (by rw [e]))
  ·show (Array.map _ _).size<=_;rw [e,FN];omega
 ·rw [Fl h2,Fl h2];rw [FN] at h2;obtain ⟨fs,k1,k2,k3⟩:=Wg (h:=bare s.heap a vs) vs ht6;refine Fk (kat_kind (T:=.type "int") k1 (by omega) (fun v hv=>by obtain ⟨x,t,rfl⟩:=k3 v hv;exact Looks.of_pure rfl) rfl ?_);have hc:∀ i j (C:Bool->Shared->Prop),i<vs.length->j<vs.length->(∀ b,C b { s with heap:=bare s.heap a vs }) ->
    kas_ask prog w A (tuples' (Value.type "int" != Value.type "tuple")) vs i j C { s with heap:=bare s.heap a vs }:=fun i j C hi hj hC=>by
   unfold kas_ask;have gi:vs.getD i Value.none=vs[i]:=by simp [hi]
   have gj:vs.getD j Value.none=vs[j]:=by simp [hj]
   rw [gi,gj];obtain ⟨b,o,xs,k,e,g,hc,hd,hp⟩:=ht6 vs[i] (List.getElem_mem hi);obtain ⟨b',o',xs',k',e',g',hc',hd',hp'⟩:=ht6 vs[j] (List.getElem_mem hj);rw [e,e'];exact kat_lt g hd g' hd' (VV hC hp hp' 0)
  refine Fk (FV (kat_run (ks:=vs) (vs:=vs) (Q:=fun st' s'=>s'={ s with heap:=bare s.heap a vs }/\∃ p:Array Nat,p.size=vs.length/\arrOf st'=p.map (kas_item (vs.toArray.zip vs.toArray))/\failedOf st'=none/\PermN vs.length p) rfl (by omega) h64
   (fun p st' s' a1 a2 a3 a4=>⟨a4.1,p,a1,a2,a3,a4.2⟩) (Asks.wp hc (Nw (by omega)))) ?_ fun _ _ e=>e)
  rintro ⟨⟨⟩,st'⟩ s' ⟨rfl,p,hp,har,hf,perm⟩;dsimp only;have e:=kat_snds (vs:=vs) (ks:=vs) rfl har;have pm:(p.toList.map fun i=>vs.getD i Value.none).Perm vs:=by
   have:=perm.map fun i=>vs.getD i Value.none
   rwa [Uq] at this
  refine Fk (seqEpoch_at ho6 rfl (Fk (listUpdate_at ho6 rfl ?_ (FZ _) ?_)))
  ·rw [hf];simp only [bne_self_eq_false,Bool.false_eq_true,if_false];exact Fw (fin _ (by rw [e];exact pm))
  ·show (Array.map _ _).size<=_;rw [e,FN,pm.length_eq];omega
theorem KE {vs:List Value}{ks:List Bool}{Q:Value->Shared->Prop}(hl:s.heap.IsList l vs.toArray) (h64:vs.length<64) (ht:∀ v∈vs,GE s.heap (false :: ks) v)
  (h:∀ (out:List Value) (h':Heap) (e:Nat),out.Perm vs->(∀ b o,s.heap.get? b=some o->h'.get? b=some o)->h'.get? (s.heap.objs.size+1)=some (seqObj "list" out.toArray e)->Q (.ref (s.heap.objs.size+1)) { s with heap:=h' }) :
  wpAny (model prog w) A (call (.builtin "sorted") [.ref l]) Q E s:=by
 have hv:vs.length<=sizeLine:=by rw [EF];omega
 refine Calls.call_function_entry kind_sorted plain_sorted entry_sorted (args_sorted1 _) ?_;show wpAny _ _ (Builtin.«sorted» _) _ _ _;unfold Builtin.«sorted»;refine Fk (m:=checkCount "sorted" 1 1 _) (Fw (Fk (collect_list hl (Fk (wpAny_newList ?_ ?_)) ?_)))
 rotate_left
 ·exact hv
 ·exact hv
 have fin:∀ out:Array Value,out.toList.Perm vs->Q (.ref (s.heap.objs.size+1)) { s with heap:=sortedAll s.heap vs out }:=fun out hp=>by
  obtain ⟨e,he⟩:=sortedAll_at s.heap vs out;exact h out.toList _ e hp (fun b o=>sortedAll_old) (by rw [he])
 unfold sortedAll at fin;generalize hG:(s.heap.push (seqObj "list" #[] 0)).update s.heap.objs.size (Obj.mapSeq (·++vs.toArray))=G at fin;have z:G.objs.size=s.heap.objs.size+1:=by
  rw [<-hG];simp [Heap.size_update,size_push']
 have old:∀ b o,s.heap.get? b=some o->(G.push (seqObj "list" vs.toArray 0)).get? b=some o:=fun b o q=>by
  refine FG _ ?_;rw [<-hG,Heap.get?_update_ne _ _ _ _ (FI (Fy q))];exact FG _ q
 have new:(G.push (seqObj "list" vs.toArray 0)).get? (s.heap.objs.size+1)=some (seqObj "list" vs.toArray 0):=z ▸ FY _ rfl;show wpAny _ _ _ _ _ { s with heap:=G.push (seqObj "list" vs.toArray 0) };dsimp only;rw [z];refine Fk (wpAny_holding (wpAny_call_entry slot_list_sort ⟨_,new,rfl⟩ entry_list_sort (VT (ks:=ks) new h64 (fun v m=>?_) fun out hp=>⟨_,rfl,?_⟩) (args_list_sort _)))
 ·obtain ⟨a,o,xs,n,e,g,r⟩:=ht v m;exact ⟨a,o,xs,n,e,old _ _ g,r⟩
 ·exact Fw ⟨_,rfl,fin out hp⟩
end
def Pe (K:W.Frag):List V->Hp->VK->Prop:=fun xs H Q=>∃ p ys ks,xs=[.ref p]/\SqL K H p ys/\ys.length<64/\(∀ y∈ys,∃ a zs,y=.ref a/\SqT K H a zs/\Paired GF (false :: ks) zs)/\∀ l zs,H l=none->zs.Perm ys->Q (.ref l) (upd H l (.lst zs))
theorem Vs (K:W.Frag) {X:Cx}(hK:X.K=K):ZT X (.builtin "sorted") (Pe K):=by
 subst hK;intro pins s σ H xs us Q I r h;obtain ⟨p,ys,ks,rfl,hq,h64,ht,q⟩:=h;obtain ⟨u,rfl,r1⟩:=XH r;obtain rfl:=r1.ref_of;obtain ⟨its,rv,pl,hz⟩:=I.list hq;have hlen:=rv.length;refine KE (ks:=ks) pl.isList (by omega) (fun v m=>?_) fun out h' e hp kp g=>?_
 ·obtain ⟨y,my,ry⟩:=Vz rv m;obtain ⟨a,zs,rfl,hs,hf⟩:=ht y my;obtain rfl:=ry.ref_of;obtain ⟨its',r',pt,_⟩:=I.tuple hs;obtain ⟨o,ho,hc,n,hd⟩:=pt;exact ⟨a,o,its'.toArray,n,rfl,ho,hc,hd,Ko hf r'⟩
 ·obtain ⟨zs,pz,rz⟩:=GG hp rv;exact ⟨.ref _,_,I.laid (t':=s.toks) kp (EA _) (show ObjOk X.prog X.w _ h' _ (.lst zs) from ⟨by rw [pz.length_eq];exact hz,out,e,rz,g⟩),rfl,q _ _ (I.hok.fresh (EA _)) pz⟩
def ltP (a b:Int×Int):Prop:=a.1<b.1∨(a.1=b.1/\a.2<b.2)
instance (a b:Int×Int):Decidable (ltP a b):=inferInstanceAs (Decidable (_∨_))
end L2
namespace L2
open PySem PySem.Spec PyProof.Rows
def Tl (K:W.Frag) (H:Hp) (l:List Str) (v:V):Prop:=∃ q,v=.ref q/\SqL K H q (l.map V.str)
theorem Tl.rep {l:List Str}(h:Tl K H l v):Rep K H (.lst (l.map D.str)) v:=by
 obtain ⟨q,rfl,h⟩:=h;refine .lst h (by rw [Fo,Fo]) fun i d x e1 e2=>?_
 rw [Fx] at e1 e2;obtain ⟨a,ha,rfl⟩:=FO.mp e1;obtain ⟨b,hb,rfl⟩:=FO.mp e2;rw [ha] at hb;cases hb;exact .str _
theorem NO {l m:List Str}(h:l.map V.str=m.map V.str):l=m:=List.map_inj_right (fun a b h=>by injection h) |>.mp h
theorem Nl {l m:List Str}(h:D.lst (l.map D.str)=.lst (m.map D.str)):l=m:=by
 injection h with h
 exact List.map_inj_right (fun a b h=>by injection h) |>.mp h
theorem S9 (l:List Str):DB 2 (.lst (l.map D.str)):=.lst fun d hd=>by
 obtain ⟨a,_,rfl⟩:=FK.mp hd;exact .str _
def SN (K:W.Frag) (neg:Bool):R2:=fun x y H Q=>∃ (r:List Str) (l:Addr) (ps:List (List Str)) (vs:List V),Tl K H r x/\y=.ref l/\SqL K H l vs/\All2 (Tl K H) ps vs/\Q (.bl (if neg then !decide (r∈ps) else decide (r∈ps))) H
open Classical in
def eqTx (K:W.Frag) (H:Hp) (r:List Str):Value->Bool
 | .ref p=>decide (SqL K H p (r.map V.str))
 | _=>false
theorem Vn (I:Inv X pins σ H s) (hu:A.units+2<cLine) {r q:List Str}{x y:V}{u v:Value}(hx:Tl X.K H r x) (hy:Tl X.K H q y) (rx:RelV x u) (ry:RelV y v):SeqAt.EqAt A s v u (eqTx X.K H r v)/\eqTx X.K H r v=decide (r=q):=by
 have e:eqTx X.K H r v=decide (r=q):=by
  obtain ⟨p,rfl,hp⟩:=hy;obtain rfl:=ry.ref_of;unfold eqTx;refine decide_eq_decide.mpr ⟨fun z=>NO (I.list_inj z hp),fun z=>by rw [z];exact hp⟩
 refine ⟨?_,e⟩;rw [e];refine NY I hy.rep (S9 q) hu hx.rep ry rx ?_;rw [EM];exact ⟨fun z=>by rw [z],fun z=>(Nl z).symm⟩
theorem Lm (I:Inv X pins σ H s) (hu:A.units+2<cLine) {r:List Str}{x:V}{u:Value}(hx:Tl X.K H r x) (rx:RelV x u) {ps:List (List Str)}{vs:List V}{its:List Value}(hA:All2 (Tl X.K H) ps vs) (rv:Vals vs its) :
  (∀ v∈its.toArray,SeqAt.EqAt A s v u (eqTx X.K H r v))/\its.toArray.any (eqTx X.K H r)=decide (r∈ps):=by
 have at_:∀ (i:Nat) v,its[i]?=some v->∃ q y,ps[i]?=some q/\Tl X.K H q y/\RelV y v:=by
  intro i v hv;have hi:=(EJ.mp hv).1;have hl:=rv.length;obtain ⟨y,hy⟩:∃ y,vs[i]?=some y:=⟨_,Fu (by omega)⟩
  obtain ⟨w',hw,ry⟩:=rv.get hy;rw [hv] at hw;cases hw;obtain ⟨q,hq,hp⟩:=hA.getV hy;exact ⟨q,y,hq,hp,ry⟩
 refine ⟨fun v hv=>?_,?_⟩
 ·obtain ⟨i,hi⟩:=Ee (show v∈its by simpa using hv);obtain ⟨q,y,_,hp,ry⟩:=at_ i v hi;exact (Vn I hu hx hp rx ry).1
 ·rw [show its.toArray.any (eqTx X.K H r)=its.any (eqTx X.K H r) by simp,F0,EM,List.any_eq_true];constructor
  ·rintro ⟨v,hv,e⟩;obtain ⟨i,hi⟩:=Ee hv;obtain ⟨q,y,hq,hp,ry⟩:=at_ i v hi;rw [(Vn I hu hx hp rx ry).2,EM] at e;rw [e];exact FD hq
  ·intro hr;obtain ⟨i,hi⟩:=Ee hr;have hl:=rv.length;have hl2:=hA.1;have hlt:=(EJ.mp hi).1;obtain ⟨v,hv⟩:∃ v,its[i]?=some v:=⟨_,Fu (by omega)⟩
   obtain ⟨q,y,hq,hp,ry⟩:=at_ i v hv;rw [hi] at hq;cases hq;exact ⟨v,FD hv,by rw [(Vn I hu hx hp rx ry).2];exact EC rfl⟩
theorem Bm (K:W.Frag) {X:Cx}(h:X.K=K) (hu:X.A.units+64<cLine):OpR X (compareOp .NotIn) (SN K true):=by
 subst h;intro pins s σ H x y v u Q I rx ry h;obtain ⟨r,l,ps,vs,hx,rfl,hL,hA,q⟩:=h;cases ry;obtain ⟨its,rv,pl,hz⟩:=I.list hL;obtain ⟨h1,h2⟩:=Lm (A:=X.A.in1) I (by show X.A.units+1+2<cLine;omega) hx rx hA rv;refine SeqAt.notIn_listAt (eqTx X.K H r) pl.isList h1 ⟨.bl _,H,I,rfl,?_⟩;rw [h2];exact q
end L2
namespace L2
open PySem PyProof.Rows PySem.Calls PySem.W
structure FunD (K:W.Frag) (x qual:Str) (st:Stmt) (f:Addr) (fd:FuncData):Prop where
 ex:∃ (oc:Value) (od:Option Addr) (dV kV doc pm:Value) (an:Option Addr) (cdv ct:Value) (osl:Array (Option Value)),
  fd=W.fnOf x qual (Za st) (QT st) (Qh st) dV kV doc pm an cdv ct/\K.lookup f=some ⟨oc,od,.func fd,osl⟩/\W.codeIn K cdv qual=true
 kp:W.keepIn K (.ref f)=true
section
variable {P:Program} {w:World} {K:W.Frag} {mg:Str->Option Value} {base:Heap}
theorem FunD.ok {k:Nat}{sp:Sp}(F:FunD K x qual st f fd) (S:Qn N ps (Qh st)) (len:∀ vs H Q E,sp vs H Q E->vs.length=ps.length)
  (hbody:∀ (cdv:Value) (A:Around) (outer:List Env) (s:Shared) (H:Hp) (vs:List V) (Q:VK) (E:XK),Room k (A.deeper (envOfC qual (Qh st) s.heap.objs.size f cdv))->sp vs H Q E ->
   ∃ t,PSs (Wj CX0 P w K mg base N qual (Qh st) f cdv A outer s H E).nox (QT st) t/\t { nx:=fun _ H'=>Q .non H',rt:=Q } (start N vs) H):FnOk P w K mg base CX0 (k+1) f fd ps sp:=by
 obtain ⟨oc,od,dV,kV,doc,pm,an,cdv,ct,osl,rfl,lk,hcd⟩:=F.ex;refine MS lk hcd S len fun A outer s H vs Q E hr hsp=>?_
 obtain ⟨t,h,q⟩:=hbody cdv A outer s H vs Q E hr hsp;exact ⟨t,h.nox,q⟩
theorem BC {osl:Array (Option Value)}{dV kV:Value}(l:K.lookup f=some ⟨oc,od,.func (W.fnOf x qual (Za st) (QT st) (Qh st) dV kV doc pm an cdv ct),osl⟩)
  (c:W.codeIn K cdv qual=true) (k:W.keepIn K (.ref f)=true):FunD K x qual st f (W.fnOf x qual (Za st) (QT st) (Qh st) dV kV doc pm an cdv ct):=⟨⟨oc,od,dV,kV,doc,pm,an,cdv,ct,osl,rfl,l,c⟩,k⟩
end
abbrev V10:=V->V->V->V->V->V->V->V->V->V->Hp->VK->Prop
def P9 (φ:V10):Sp:=fun vs H Q _=>∃ a b c d e f g h i j,vs=[a,b,c,d,e,f,g,h,i,j]/\φ a b c d e f g h i j H Q
def Sp10M (φ:V10):Sp:=fun vs H Q _=>match vs with | [a,b,c,d,e,f,g,h,i,j]=>φ a b c d e f g h i j H Q | _=>False
theorem Sp10M.imp {φ:V10}(vs:List V) (H:Hp) (Q:VK) (E:XK) (h:Sp10M φ vs H Q E):P9 φ vs H Q E:=by
 unfold Sp10M at h;split at h
 ·exact ⟨_,_,_,_,_,_,_,_,_,_,rfl,h⟩
 ·exact h.elim
theorem RG {φ:V10}{a b d e f g h i j:V}{E:XK}:Sp10M φ [a,b,c,d,e,f,g,h,i,j] H Q E=φ a b c d e f g h i j H Q:=rfl
theorem RM {a b d e f g h i j:V}:start N [a,b,c,d,e,f,g,h,i,j]=some a :: some b :: some c :: some d :: some e :: some f :: some g :: some h :: some i :: some j :: List.replicate (N.length-10) none:=rfl
end L2
namespace L2
open PySem PySem.Spec PyProof.Rows
abbrev ZJ (C t:Addr) (od:Option Addr):Obj:={ cls:=.ref C,dict:=od,data:=.fields #[.ref t,.none,.none,.none,.bool false,.none] }
abbrev Xc (h:Heap) (C:Addr) (us:List Value):Heap:=(h.push { cls:=.type "tuple",data:=.seq us.toArray }).push (ZJ C h.objs.size none)
section
variable {prog:Program} {w:World} {A:Around} {E:Value->Shared->Prop} {h:Heap} {g:Array GenState} {d:Drawn} {t:Nat} {os:OsState} {nm q:Str} {C N:Addr} {bs bm bmB:List Value} {hdct:Bool} {sn:List Str} {sub:List Value} {ab:Bool} {col:Option Bool} {dd:Option Addr} {k0 k1 k2 k3 k5:Option Value} {B Bn newId nid initId inN:String} {bmN:List Value} {K:W.Frag} {f:Addr} {rest:List Value}
theorem JR (Fn:ExcBaseFacts Bn newId inN bmN) (hBn:bmB.contains (.type Bn)=true) (F:ExcBaseFacts B nid initId bmB) (T:OwnTail h bmB bm) (hC:h.get? C=some (excClassObj nm q C N bs bm hdct sn sub ab col dd k0 k1 k2 k3 k5 newId)) (KX:K.In h)
  (hi:W.findIn K (.ref C) "__init__"=some (some (.ref f))) (hf:W.typeIn K (.ref f)=some (.type "function")) (hr:rest.length<=sizeLine) {Q:PySem.Fin->Shared->Prop}
  (h0:wpAny (model prog w) A (call (.ref f) (.ref (h.objs.size+1) :: rest)) (fun r s'=>r=.none/\Q (Fin.done (Flow.ret (.ref (h.objs.size+1)))) s') E { heap:=Xc h C rest,gens:=g,drawn:=d,toks:=t,os:=os }) :
  wpAny (model prog w) A (Builtin.«type.__call__» ⟨.ref C :: rest,[]⟩) Q E { heap:=h,gens:=g,drawn:=d,toks:=t,os:=os }:=by
 have kp:∀ b o,h.get? b=some o->(Xc h C rest).get? b=some o:=fun b o e=>FG _ (FG _ e)
 have KX2:K.In (Xc h C rest):=KX.keeps kp;have hC2:=kp _ _ hC;have hget:(Xc h C rest).get? (h.objs.size+1)=some (ZJ C h.objs.size none):=by
  have z:(h.push { cls:=.type "tuple",data:=.seq rest.toArray }).objs.size=h.objs.size+1:=Heap.size_push _ _;exact z ▸ FY _ rfl
 unfold Builtin.«type.__call__»;dsimp only;refine wpAny_ite_false (by rfl) (Fk ?_);unfold mroOf;refine Fk ?_;refine Fk (wpAny_load' hC (Fw (Fw ?_)));refine wpAny_ite_false (by rfl) (Fk (wpAny_madeBy_exc hC (Fk (Fw (Fk (wpAny_holding (wpAny_call ?_)))))));refine codeAny_call_builtin_code (Code.quiet_builtin _ Fn.quiet) (wpAny_check_new_subU Fn hBn T hC (codeAny_exc_new_subU Fn hBn F T hC ?_ hr));dsimp only;unfold isInstance;refine Fk (Fk ?_);unfold typeOf;dsimp only;refine Fk (wpAny_loadPart_at hget (Fw (wpAny_isSubtype_exc hC2 ?_)));rw [show (Value.ref C :: bm).contains (Value.ref C)=true by simp];refine wpAny_ite_false (by rfl) (Fk (wpAny_holding ?_));unfold callSpecial? specialOf;refine Fk (Fk ?_);unfold typeOf;dsimp only;refine Fk (wpAny_loadPart_at hget (Fw ?_));refine W.Looks.here (W.looks_findIn KX2 hi) ?_;refine wpAny_holding (Fk (W.Looks.here (W.bind_fn KX2 _ hf) ?_));dsimp only;refine Fk (FV h0 (fun r s' ⟨e,q⟩=>?_) fun _ _ z=>z);subst e;refine Fw ?_;dsimp only;refine wpAny_ite_false (by rfl) ?_;exact Fw q
theorem J2 (Fn:ExcBaseFacts Bn newId inN bmN) (hBn:bmB.contains (.type Bn)=true) (F:ExcBaseFacts B nid initId bmB) (T:OwnTail h bmB bm) (hC:h.get? C=some (excClassObj nm q C N bs bm hdct sn sub ab col dd k0 k1 k2 k3 k5 newId)) (KX:K.In h)
  (hi:W.findIn K (.ref C) "__init__"=some (some (.ref f))) (hf:W.typeIn K (.ref f)=some (.type "function")) (hr:rest.length<=sizeLine) {R:Result->Shared->Prop}
  (h0:codeAny (model prog w) (A.under (.builtin "type.__call__" ⟨.ref C :: rest,[]⟩)) (.call (.ref f) ⟨.ref (h.objs.size+1) :: rest,[]⟩) (W.InitBack (h.objs.size+1) R) { heap:=Xc h C rest,gens:=g,drawn:=d,toks:=t,os:=os }) :
  codeAny (model prog w) A (.call (.ref C) ⟨rest,[]⟩) R { heap:=h,gens:=g,drawn:=d,toks:=t,os:=os }:=by
 have f1:=tc_lookup;have f2:=tc_bind (Value.ref C);have hT:Shared.TypeIs { heap:=h,gens:=g,drawn:=d,toks:=t,os:=os } (.ref C) "type":=⟨_,hC,rfl⟩
 refine codeAny_of_tree ?_
 change wpAny _ _ (callAny (.ref C) ⟨rest,[]⟩) _ _ _
 unfold callAny;dsimp only;refine Fk (wpAny_load' hC ?_)
 change wpAny _ _ (callAny.viaDunder (.ref C) ⟨rest,[]⟩) _ _ _
 unfold callAny.viaDunder;refine Fk (wpAny_specialOf hT f1 ?_);dsimp only;refine Fk (wpAny_of_eq f2 (Fk (Fw (wpAny_ite_true (by rfl) (Fw ⟨rfl,?_⟩)))));refine codeAny_call_builtin_at (Code.quiet_builtin _ (by kernel_rfl)) entry_typeCall (wpAny_check_type_call_sub hC ?_);refine JR Fn hBn F T hC KX hi hf hr (wpAny_call (EW h0 fun r s' z=>?_));unfold W.InitBack at z;split at z
 ·exact z
 ·exact z.elim
 ·exact z
end
def K2:List Value->Bool
 | .ref _ :: r=>K2 r
 | l=>l == [.type "ValueError",.type "Exception",.type "BaseException",.type "object"]
theorem GO (self:Value):refuseLoop self "__setattr__" [.type "ValueError",.type "Exception",.type "BaseException",.type "object"]=pure ():=by kernel_rfl
theorem Wy (self:Value):∀ {l:List Value},K2 l=true->refuseLoop self "__setattr__" l=pure ()
 | .ref c :: r,h=>by
  rw [refuseLoop_ref];exact Wy self h
 | [],h=>by cases h
 | .type _ :: _,h=>by rw [eq_of_beq h];exact GO self
 | .none :: _,h=>by cases eq_of_beq h
 | .ellipsis :: _,h=>by cases eq_of_beq h
 | .notImplemented :: _,h=>by cases eq_of_beq h
 | .bool _ :: _,h=>by cases eq_of_beq h
 | .int .. :: _,h=>by cases eq_of_beq h
 | .float .. :: _,h=>by cases eq_of_beq h
 | .str .. :: _,h=>by cases eq_of_beq h
 | .bytes .. :: _,h=>by cases eq_of_beq h
 | .builtin _ :: _,h=>by cases eq_of_beq h
structure WV (K:W.Frag) (C:Addr):Prop where
 sa:W.findIn K (.ref C) "__setattr__"=some (some (.builtin "object.__setattr__"))
 mO:W.mroIn K C (.type "object")=some true
 cd:∃ cd,W.clsIn K C=some cd/\K2 cd.mro=true/\cd.hasDict=true
section
variable {prog:Program} {w:World} {A:Around} {E:Value->Shared->Prop} {s:Shared} {K:W.Frag} {C x t:Addr} {name:Str} {v:Value}
theorem BL {Q:Unit->Shared->Prop}(X:K.In s.heap) (Z:WV K C) (hx:s.heap.get? x=some (ZJ C t none)) (ht:W.findIn K (.ref C) name=some none)
  (h:∀ h',h'.get? x=some (ZJ C t (some s.heap.objs.size))->h'.Ns1 s.heap.objs.size (fun y=>if y=name then some v else none)->(∀ b o,b≠x->s.heap.get? b=some o->h'.get? b=some o)->Q () { s with heap:=h',toks:=s.toks+2 }) :
  wpAny (model prog w) A (setAttr (.ref x) name v) Q E s:=by
 have SF:=F.store_object;obtain ⟨cd,hc,ho,hd⟩:=Z.cd;have J:W.InstAt s.heap x (ZJ C t none) C none:=⟨hx,rfl,rfl,trivial⟩
 refine W.set_plain X J Z.sa ?_;have L0:W.Looks (model prog w) s.heap (typeOf (.ref x)) (.ref C):=(W.Looks.ld hx).andThen .now;have sub:W.Looks (model prog w) s.heap (isInstance (.ref x) (.type "object")) true:=L0.andThen (W.looks_mroIn X Z.mO);refine codeAny_call_builtin SF.slot.plain SF.entry (W.check_slot SF.kind SF.split sub (SF.args (.ref x) (.str name s.toks) v) ?_);rw [W.osa_eq];refine Fk ?_;unfold Builtin.ObjectAttr.refuseIfOverridden;refine Fk (L0.at (Fk ?_));have hm:W.Looks (model prog w) s.heap (mroOf (.ref C)) cd.mro:=(W.looks_clsIn X hc).andThen .now;refine hm.at ?_;refine wpAny_of_eq (t:=refuseLoop (.ref x) "__setattr__" cd.mro) (Wy _ ho) ?_;refine Fk (L0.at (Fk (W.Looks.at (W.looks_findIn X ht) (Fk (Fw ?_)))));dsimp only;unfold Builtin.ObjectAttr.storeInOwnDict;refine Fk (Fw (wpAny_ite_false (by rfl) (Fk ?_)));unfold Builtin.ObjectAttr.ownDictForStores instanceDict;dsimp only;refine Fk (wpAny_loadPart_at hx ?_);dsimp only;refine Fk (W.Looks.at (W.looks_clsIn X hc) ?_);rw [hd];refine wpAny_ite_false (by rfl) (wpAny_ite_false (by rfl) (Fk (wpAny_alloc (Fk ?_))));have hx2:(s.heap.push { cls:=Value.type "dict",data:=Data.dict #[] }).get? x=some (ZJ C t none):=FG _ hx;have hd2:(s.heap.push { cls:=Value.type "dict",data:=Data.dict #[] }).get? s.heap.objs.size=some { cls:=Value.type "dict",data:=Data.dict #[] }:=FY _ rfl;have ne:x≠s.heap.objs.size:=FI (Fy hx);refine wpAny_update hx2 (Fw ?_);dsimp only;unfold Builtin.ObjectAttr.storeInDict;refine Fk (Fw (Fk ?_));have hx3:=Du (fun o:Obj=>{ cls:=o.cls,dict:=some s.heap.objs.size,data:=o.data,slots:=o.slots }) hx2 rfl;have hd3:=EZ (fun o:Obj=>{ cls:=o.cls,dict:=some s.heap.objs.size,data:=o.data,slots:=o.slots }) ne hd2;have hk3:∀ b o,b≠x->s.heap.get? b=some o->((s.heap.push { cls:=Value.type "dict",data:=Data.dict #[] }).update x fun o=>{ cls:=o.cls,dict:=some s.heap.objs.size,data:=o.data,slots:=o.slots }).get? b=some o:=fun b o hb e=>
  EZ _ (Eb hb) (FG _ e)
 generalize ((s.heap.push { cls:=Value.type "dict",data:=Data.dict #[] }).update x fun o=>{ cls:=o.cls,dict:=some s.heap.objs.size,data:=o.data,slots:=o.slots })=h3 at *;have n0:h3.Ns1 s.heap.objs.size (fun _=>none):=Heap.Ns1.of_empty ⟨_,_,_,hd3,rfl,(fun e he=>absurd he (by simp)),fun _=>rfl⟩;refine wpAny_nsSet1 n0 fun h' hn2 hs2=>?_
 obtain ⟨oD,esD,epD,hoD,hdD,hcD⟩:=hn2.count (ns:=[name]) (Within.cons (ns:=[]) name v (fun _ z=>absurd rfl z));refine Fk (wpAny_lookBehind hoD (by rw [hdD];exact pastItsLine_dict (FQ hcD (show 1<=sizeLine+1 by decide))) ?_);refine Fw (h _ ((hs2.2 _ ne).trans hx3) hn2 fun b o h1 h2=>(hs2.2 b (FI (Fy h2))).trans (hk3 b o h1 h2))
theorem BM {o:Obj}{expr:Bool}{Q:Value->Shared->Prop}(X:K.In s.heap) (Z:Zi K C) (hh:W.hasDictIn K C=true) (hx:s.heap.get? a=some o) (hc:o.cls=.ref C) (hd:o.dict=some dx) (hno:W.notCls o=true)
    (hn:s.heap.Ns1 dx mA) (ha:W.findIn K (.ref C) name=some none) (hv:mA name=some v) (hv':W.handedIn v=true) (q:Q v { s with toks:=s.toks+1 }):wpAny (model prog w) A (getAttr (.ref a) name expr) Q E s:=by
  obtain ⟨od,ho,hl⟩:=WI hn;have J:W.InstAt s.heap a o C (some od):=⟨hx,hc,hno,by rw [hd];exact ho⟩
  have L0:=W.InstAt.type (M:=model prog w) J;have L1:=W.looks_findIn (M:=model prog w) X Z.ga;have L2:=W.looks_findIn (M:=model prog w) X Z.gt;have L3:=W.looks_find (M:=model prog w) X J (W.findObj_own (v:=v) hh ha rfl (by rw [hl,hv]));have f3:=F.attr_ValueError.ga.bind (.ref a);obtain ⟨h,g,d,t,os⟩:=s;unfold getAttr getAttrBy;refine Fk (wpAny_mkText (wpAny_holding (Fk (L0.at (Fk (L1.at ?_))))));dsimp only;rw [Fl (show ¬ ((onTheHeap (Value.ref C)&&Value.builtin "BaseException.__getattribute__" == Value.builtin "object.__getattribute__")=true) by
    rw [show (Value.builtin "BaseException.__getattribute__" == Value.builtin "object.__getattribute__")=false by decide +kernel,EL];exact FT)]
  unfold getAttrByItsOwn hookBefore;rw [Fs (show onTheHeap (Value.ref C)=true from rfl)];refine Fk (L2.at ?_);refine Fk (wpAny_attempt (wpAny_holding ?_));unfold callGetattribute;rw [Fl (show ¬ ((expr&&onTheHeap (Value.builtin "BaseException.__getattribute__"))=true) by rw [show onTheHeap (Value.builtin "BaseException.__getattribute__")=false from rfl,EL];exact FT)];unfold boundAndCalled;rw [f3];refine Fk (Fw (wpAny_call ?_));refine codeAny_call_builtin F.attr_ValueError.ga.plain F.entry_bexc_ga (Kq Z X hx hc ?_);unfold Builtin.«object.__getattribute__»;refine Fk (Fw ?_);dsimp only;refine Fk (Fw (Fk (L0.at (Fk (L3.at ?_)))));dsimp only;refine Fw ?_;dsimp only;rw [W.handedOut_of hv'];exact Fw q
end
def F3d (od:Option Addr) (e:Addr) (h:Heap):Prop:=∃ o vs T oT ts,h.get? e=some o/\o.data=.fields vs/\vs[2]?=some .none/\vs[1]?=some (.ref T)/\T≠e/\h.get? T=some oT/\oT.data=.fields ts/\3<ts.size/\o.dict=od
theorem SV {o:Obj}{vs:Array Value}{f:Array Value->Array Value}(h:o.data=.fields vs):(Obj.mapFields f o).dict=o.dict:=by
 obtain ⟨c,d,dt,sl⟩:=o;cases h;rfl
section
variable {M:Model} {A:Around} {E:Value->Shared->Prop} {s:Shared} {e:Addr} {od:Option Addr} {Q:Unit->Shared->Prop}
theorem Yw {fr:Option Addr}(x:F3d od e s.heap) (q:∀ h',F3d od e h'->Q () { s with heap:=h' }):wpAny M A (setFlight (.ref e) fr) Q E s:=by
 obtain ⟨o,vs,T,oT,ts,h1,h2,h3,h4,h5,h6,h7,h8,h9⟩:=x;unfold setFlight;refine Fk (wpAny_field h1 h2 h4 ?_);rw [Fs (by rfl)];refine wpAny_setField h6 h7 h8 (q _ ?_);obtain ⟨m1,m2⟩:=PH (f:=fun x_1=>x_1.setIfInBounds 3 (fr.elim Value.none fun f=>rawInt ↑f)) h7;refine ⟨o,vs,T,_,_,?_,h2,h3,h4,h5,Du _ h6 m2,m1,by simpa using h8,h9⟩;exact EZ _ h5 h1
theorem Gs {hd:Value}{b:Bool}(hf:A.frames=some (env :: outer)) (ff:s.heap.FunFrames base (env :: outer)) (hL:env.frame=some L) {o:Obj}{vs:Array Value}(h1:s.heap.get? e=some o) (h2:o.data=.fields vs) (h3:vs[2]?=some .none) (h9:o.dict=od)
  (q:∀ h',F3d od e h'->Q () { s with heap:=h' }):wpAny M A (do
    let a <-PySem.frameOf env
    let pl <-entryPlaceOf L b
    let x <-EntryCells.newEntry hd a Value.none (rawInt ↑L) Value.none pl
    setField (.ref e) 1 x) Q E s:=by
 refine Fk (wpAny_frameOf_fun hf ff hL fun h' so=>?_);obtain ⟨sl,k1⟩:=so.2.2 e o h1;refine Fk (wpAny_entryPlaceOf fun pl hp=>Fk ?_);unfold EntryCells.newEntry newFields;refine wpAny_newObj_type ?_ ?_
 ·have k2:∀ ob:Obj,(h'.push ob).get? e=some { cls:=o.cls,dict:=o.dict,data:=o.data,slots:=sl }:=fun ob=>FG _ k1
  have h12:1<vs.size:=by
   have:=(Array.getElem?_eq_some_iff.mp h3).1;omega
  refine wpAny_setField (k2 _) h2 h12 (q _ ?_);obtain ⟨m1,m2⟩:=PH (o:={ cls:=o.cls,dict:=o.dict,data:=o.data,slots:=sl }) (f:=fun x_1=>x_1.setIfInBounds 1 (Value.ref h'.objs.size)) h2;have ne:h'.objs.size≠e:=fun z=>absurd (Fy k1) (by rw [z];exact FM _)
  refine ⟨_,_,h'.objs.size,_,_,Du _ (k2 _) m2,m1,?_,?_,ne,EZ _ ne.symm (FY _ rfl),rfl,?_,?_⟩
  ·rw [Array.getElem?_setIfInBounds_ne (by decide)];exact h3
  ·rw [Array.getElem?_setIfInBounds_self_of_lt h12]
  ·rw [FN,Fv];show 3<5+_;omega
  ·exact (SV (o:={ cls:=o.cls,dict:=o.dict,data:=o.data,slots:=sl }) h2).trans h9
 ·show ([hd,Value.ref L,Value.none,rawInt ↑L,Value.none]++_).toArray.size<=sizeLine+2;rcases hp with rfl | ⟨_,_,_,_,_,_,_,rfl⟩
  ·show 11<=sizeLine+2
   decide
  ·show 11<=sizeLine+2
   decide
theorem MU (hf:A.frames=some (env :: outer)) (ff:s.heap.FunFrames base (env :: outer)) (hL:env.frame=some L) {o:Obj}{vs:Array Value}(h1:s.heap.get? e=some o) (h2:o.data=.fields vs) (h3:vs[2]?=some .none) (h4:vs[1]?=some .none) (h9:o.dict=od)
  (q:∀ h',F3d od e h'->Q () { s with heap:=h' }):wpAny M A (noteFrame (.ref e) env) Q E s:=by
 unfold noteFrame;rw [hL];refine Fk (wpAny_field h1 h2 h4 ?_);exact Gs hf ff hL h1 h2 h3 h9 q
theorem Gu (hf:A.frames=some (env :: outer)) (ff:s.heap.FunFrames base (env :: outer)) (hL:env.frame=some L) (x:F3d od e s.heap)
  (q:∀ h',F3d od e h'->Q () { s with heap:=h' }):wpAny M A (noteFrame (.ref e) env) Q E s:=by
 obtain ⟨o,vs,T,oT,ts,h1,h2,h3,h4,h5,h6,h7,h8,h9⟩:=id x;unfold noteFrame;rw [hL];refine Fk (wpAny_field h1 h2 h4 ?_);dsimp only;rw [Fs (by rfl)];refine Fk (wpAny_field h6 h7 (Array.getElem?_eq_getElem h8) ?_);split
 ·exact Fw (q _ x)
 ·refine Fk (wpAny_setField h6 h7 h8 ?_);have k1:(s.heap.update T (Obj.mapFields fun x_1=>x_1.setIfInBounds 3 Value.none)).get? e=some o:=EZ _ h5 h1;refine Gs (s:={ s with heap:=s.heap.update T (Obj.mapFields fun x_1=>x_1.setIfInBounds 3 Value.none) }) hf (Heap.FunFrames.of_keeps (fun b ob hb nf=>?_) ff) hL k1 h2 h3 h9 q;have ne:T≠b:=fun z=>by
   subst z;rw [h6] at hb;cases hb;exact nf _ h7
  exact ⟨ob,EZ _ ne hb,rfl⟩
end
section
variable {X:Cx} {pins:List (Addr×Obj)} {σ:St} {H:Hp} {s:Shared} {od:Option Addr}
theorem UI {t:Addr}{Q:Unit->Shared->Prop}(I1:Inv X pins σ H s) (ow:ZS X) (lo:YE X pins H e) (he:s.heap.get? e=some (ZJ C t od))
  (q:∀ h'',Inv X pins σ H { s with heap:=h'' }->Air X pins H h'' (.ref C) e->F3d od e h''->Q () { s with heap:=h'' }):wpAny M X.A (leaving X.env (.ref e)) Q E s:=by
 have hex:∀ b∈[e],YE X pins H b:=fun b hb=>by
  rw [FE.mp hb];exact lo
 have fs:=Xj (ex:=[e]) I1;have fr:=I1.ok.frames;rw [ow.2.1] at fs fr;have w1:wpAny M X.A (leaving X.env (.ref e)) (fun _ s'=>∃ h'',s'={ s with heap:=h'' }/\Inv X pins σ H { s with heap:=h'' }/\Air X pins H h'' (.ref C) e) (fun _ _=>False) s:=by
  refine wpAny_leaving_firstW (base:=YK X s.heap [e]) fr fs ow.2.2 he (Yv (s:=s)) (Wd (s:=s) (by simp)) rfl rfl rfl fun h'' L=>?_
  obtain ⟨l1,l2,l3,l4⟩:=L;rw [<-ow.2.1] at l2;exact ⟨h'',rfl,Wo I1 hex (fun b hb o z=>by
   have w:=FE.mp hb;subst w;rw [he] at z;cases z;exact ⟨_,rfl⟩) l1 l4,Jk I1 ow.1 hex (by simp) l2 l3⟩
 have w2:wpAny M X.A (leaving X.env (.ref e)) (fun _ s'=>F3d od e s'.heap) (fun _ _=>False) s:=
  Fk (MU fr fs ow.2.2 he rfl rfl rfl rfl fun h2 x=>Yw (s:={ s with heap:=h2 }) x fun h3 y=>y)
 refine FV (cj_leaving.any w1 w2) (fun _ s' ⟨⟨h'',e1,J,a⟩,f⟩=>?_) fun _ _ z=>z.1.elim
 subst e1;exact q h'' J a f
theorem G8 {Q:Unit->Shared->Prop}(I:Inv X pins σ H s) (ow:ZS X) (a:Air X pins H s.heap cls e) (x:F3d od e s.heap)
  (q:∀ h'',Inv X pins σ H { s with heap:=h'' }->Air X pins H h'' cls e->F3d od e h''->Q () { s with heap:=h'' }):wpAny M X.A (leaving X.env (.ref e)) Q E s:=by
 have fs:=Xj (ex:=[]) I;have fr:=I.ok.frames;rw [ow.2.1] at fs fr;have w1:=Mt (M:=M) (E:=fun _ _=>False) (Q:=fun _ s'=>∃ h'',s'={ s with heap:=h'' }/\Inv X pins σ H { s with heap:=h'' }/\Air X pins H h'' cls e) I ow a fun h'' J a=>⟨h'',rfl,J,a⟩
 have w2:wpAny M X.A (leaving X.env (.ref e)) (fun _ s'=>F3d od e s'.heap) (fun _ _=>False) s:=
  Fk (Gu fr fs ow.2.2 x fun h2 x=>Yw (s:={ s with heap:=h2 }) x fun h3 y=>y)
 refine FV (cj_leaving.any w1 w2) (fun _ s' ⟨⟨h'',e1,J,a⟩,f⟩=>?_) fun _ _ z=>z.1.elim
 subst e1;exact q h'' J a f
end
def CXd (P:Program) (w:World):CXT:=fun outer H s E e s'=>
 ∃ ea cls od H',e=.ref ea/\s'.os=s.os/\AllBare s'.gens/\Un (frs outer) [] H H' s.heap s'.heap/\HOk P w H' s'.heap/\RF H' s'.heap s.heap cls ea/\F3d od ea s'.heap/\E cls od H'
section
variable {X:Cx} {pins:List (Addr×Obj)} {σ:St} {H:Hp} {s s':Shared} {E:XK} {e:Value}
theorem CXd.here (I:Inv X pins σ H s) (hx:X.ex=[]) (c:CXd X.prog X.w X.stack H s E e s'):∃ ea cls od H',e=.ref ea/\Inv X pins σ H' s'/\Air X pins H' s'.heap cls ea/\F3d od ea s'.heap/\E cls od H':=by
 obtain ⟨ea,cls,od,H',h1,h2,h3,h4,h5,h6,f,q⟩:=c;have c':CXr X.prog X.w X.stack H s (fun c' n' H2=>c'=cls/\H2=H'/\e=.ref ea) e s':=⟨ea,cls,H',h1,h2,h3,h4,h5,h6,rfl,rfl,h1⟩
 obtain ⟨ea',cls',H2,e1,I2,a,rfl,rfl,e2⟩:=CXr.here I hx c';rw [e1] at e2;cases e2;exact ⟨_,_,_,_,e1,I2,a,f,q⟩
end
def GD (X:Cx) (E:XK):Prop:=∀ (pins:List (Addr×Obj)) (σ:St) (H:Hp) (s:Shared) (e C t:Addr) (od:Option Addr),Inv X pins σ H s->YE X pins H e->s.heap.get? e=some (ZJ C t od)->E (.ref C) od H->X.xe (.ref e) s
section
variable {P:Program} {w:World} {K:W.Frag} {mg:Str->Option Value} {base:Heap} {N:List Str} {qual:Str} {sc:Scope} {f:Addr} {cd:Value} {A:Around} {outer:List Env} {s0:Shared} {H0:Hp} {E:XK}
theorem M8 (I:Inv (Wj (CXd P w) P w K mg base N qual sc f cd A outer s0 H0 E) pins σ H s) (a:Air (Wj (CXd P w) P w K mg base N qual sc f cd A outer s0 H0 E) pins H s.heap cls e) (x:F3d od e s.heap) (q:E cls od H):CXd P w outer H0 s0 E (.ref e) s:=by
 obtain ⟨oe,vs,T,oT,ts,a0,h1,h2,h3,h4,h6,h7,h8,h9,l1,l2⟩:=a;exact ⟨e,cls,od,H,rfl,I.os,I.bare,I.base,I.hok,⟨oe,vs,T,oT,ts,a0,h1,h2,h3,h4,h6,h7,h8,h9,⟨l1.1,l1.2.1⟩,⟨l2.1,l2.2.1⟩⟩,x,q⟩
theorem Rm {E':XK}(hE:∀ cls od H,E' cls od H->E cls od H):X5 (CXd P w) (Wj (CXd P w) P w K mg base N qual sc f cd A outer s0 H0 E) E':=by
 intro pins σ H s e s' I c;obtain ⟨ea,cls,od,H',rfl,I',a,x,q⟩:=CXd.here I rfl c;exact G8 I' Mf a x fun h'' I2 a2 x2=>M8 I2 a2 x2 (hE _ _ _ q)
theorem Uc:GD (Wj (CXd P w) P w K mg base N qual sc f cd A outer s0 H0 E) E:=fun _ _ _ _ _ _ _ _ I lo he q=>UI I Mf lo he fun _ I2 a2 x2=>M8 I2 a2 x2 q
end
def XE (e C:Addr) (od:Option Addr) (h:Heap):Prop:=∃ t,h.get? e=some (ZJ C t od)
def XD (d:Addr) (fs:List (Str×V)) (h:Heap):Prop:=∃ mA,h.Ns1 d mA/\(∀ f,RelO (fs.lookup f) (mA f))/\PySem.Within mA (fs.map (·.1))
def ExcD (e:Addr) (cls:Value) (od:Option Addr) (h:Heap):Prop:=∃ o vs,h.get? e=some o/\o.cls=cls/\o.data=.fields vs/\vs[2]?=some .none/\o.dict=od
def WM (H:Hp) (a:Addr):Hp:=fun b=>if b=a then none else H b
theorem Kr:WM H a a=none:=by unfold WM;rw [Fs rfl]
theorem Xx {b:Addr}(h:b≠a):WM H a b=H b:=by unfold WM;rw [Fl h]
theorem Gx (x:XE e C od h):ObjOk P w H h e (.ext (XE e C od)):=by
 obtain ⟨t,hx⟩:=id x;exact ⟨x,⟨_,hx⟩,fun h1 h2 ⟨t,y⟩ k=>⟨t,k _ y⟩⟩
theorem B3 {fs:List (Str×V)}(x:XD d fs h):ObjOk P w H h d (.ext (XD d fs)):=by
 obtain ⟨mA,⟨o,es,ep,e,r⟩,_⟩:=id x;exact ⟨x,⟨o,e⟩,fun h1 h2 ⟨m,⟨o,es,ep,e,r⟩,z⟩ k=>⟨m,⟨o,es,ep,k _ e,r⟩,z⟩⟩
theorem X2 {φ:Heap->Prop}(x:HOk P w H h) (e:H a=some (.ext φ)):φ h:=(show ObjOk P w H h a (.ext φ) from x a _ e).1
section
variable {X:Cx} {pins:List (Addr×Obj)} {σ:St} {H:Hp} {s:Shared} {e C d:Addr} {od:Option Addr}
theorem Inv.untrack {φ:Heap->Prop}(I:Inv X pins σ H s) (he:H e=some (.ext φ)) (h0:X.s₀.heap.get? e=none):Inv X pins σ (WM H e) s:=by
 have fr:∀ b,H b=none->WM H e b=none:=fun b z=>by
  unfold WM;split
  ·rfl
  ·exact z
 have ne:∀ b u,H b=some u->(∀ φ,u≠.ext φ)->WM H e b=some u:=fun b u z n=>by
  rw [Xx (fun q=>by subst q;rw [he] at z;cases z;exact n _ rfl)];exact z
 refine ⟨I.ok,I.os,I.bare,⟨I.base.keep,I.base.slot,fun b o q n hx=>fr _ (I.base.free b o q n hx),I.base.there,fun b xs q=>ne _ _ (I.base.tups b xs q) (fun _ z=>nomatch z),fun b o u q=>ne _ _ (I.base.frzs b o u q) (fun _ z=>nomatch z),fun b ps q=>?_⟩,I.loc,I.cell,fr _ I.free,fun x c q=>fr _ (I.freeC x c q),fun p hp=>?_,fun b u q=>?_,I.len⟩
 ·obtain ⟨m,z⟩:=I.base.tbls b ps q;exact ⟨m,ne _ _ z (fun _ z=>nomatch z)⟩
 ·obtain ⟨a1,a2,a3⟩:=I.pin p hp;exact ⟨a1,fr _ a2,a3⟩
 ·have hb:b≠e:=fun z=>by subst z;rw [Kr] at q;cases q
  rw [Xx hb] at q;exact (I.hok b u q).stay (fun _ _ _ q=>q) (fun c q=>ne _ _ q (fun _ z=>nomatch z)) fun c xs q=>ne _ _ q (fun _ z=>nomatch z)
end
def U8 (K:W.Frag) (ta tv:TE) (f:Str):TS:=fun D σ H=>tv σ H fun v H1=>ta σ H1 fun x H2=>∃ e C,x=.ref e/\H2 e=some (.ext (XE e C none))/\WV K C/\NoAttr K C f /\
 ∀ d,H2 d=none->d≠e->D.nx σ (upd (upd H2 e (.ext (XE e C (some d)))) d (.ext (XD d [(f,v)])))
section
variable {X:Cx} {o value:Expr} {ta tv:TE} {f:Str} {pos pos':Pos}
theorem KU (K:W.Frag) (hK:X.K=K) (ha:PE X o ta) (hv:PE X value tv) (hs:swapsWith value (some (.Attribute o f pos')) pos.line X.env=pure false:=by rfl):PS X (.Assign [.Attribute o f pos'] value pos) (U8 K ta tv f):=by
 subst hK;intro pins s σ H D I h;refine DA (thn (hv pins s σ H _ I h) fun u s1 ⟨y,H1,I1,ry,q⟩=>thn (ha pins s1 σ H1 _ I1 q) fun ov s2 ⟨x,H2,I2,rx,e,C,ex,he,Z,n,q2⟩=>?_) hs;subst ex;obtain rfl:ov=Value.ref e:=rx;obtain ⟨t,hx⟩:=X2 I2.hok he;have hlt:=Fy hx;refine BL I2.kIn Z hx n fun h' k1 k2 k3=>?_
 have hd:H2 s2.heap.objs.size=none:=I2.hok.fresh (Ft _);have ne:s2.heap.objs.size≠e:=(FI hlt).symm;have I3:Inv X pins σ (upd H2 e (.ext (XE e C (some s2.heap.objs.size)))) { s2 with heap:=h',toks:=s2.toks+2 }:=
  I2.write (t':=s2.toks+2) (by rw [he];exact trivial) (.inl rfl) (fun b u hb e=>k3 b u hb e) ⟨_,k1⟩ (Gx ⟨t,k1⟩)
 refine ⟨σ,_,I3.track (o:=.ext (XD s2.heap.objs.size [(f,y)])) I2.sz (by rw [Qj ne];exact hd) (Dz I2.lt) (fun y c e z=>?_) (fun p hp z=>?_) (B3 ⟨_,k2,fun g=>?_,fun g hg=>?_⟩),q2 _ hd ne⟩
 ·obtain ⟨v,q⟩:=I2.cell y c e;exact FM _ (z ▸ q.lt)
 ·exact FM _ (z ▸ Fy (I2.pin p hp).1)
 ·show RelO (List.lookup g [(f,y)]) (if g=f then some u else none);by_cases hg:g=f
  ·rw [Fs hg];have hb:(g == f)=true:=beq_iff_eq.mpr hg;simp only [List.lookup,hb];exact ry
  ·rw [Fl hg];have hb:(g == f)=false:=beq_eq_false_iff_ne.mpr hg;simp only [List.lookup,hb];exact trivial
 ·show g∈[f];have hg:(if g=f then some u else none)≠none:=hg;by_cases hh:g=f
  ·rw [hh];exact FE.mpr rfl
  ·rw [Fl hh] at hg;exact absurd rfl hg
end
def Sz (K:W.Frag) (ta:TE) (f:Str):TE:=fun σ H Q=>ta σ H fun x H1=>∃ a C d fs v,x=.ref a/\H1 a=some (.ext (ExcD a (.ref C) (some d)))/\H1 d=some (.ext (XD d fs))/\Zi K C/\WV K C/\NoAttr K C f/\fs.lookup f=some v/\Q v H1
theorem Y7 (K:W.Frag) {X:Cx}{e:Expr}{ta:TE}{f:Str}{pos:Pos}(hK:X.K=K) (he:PE X e ta) (hb:attributeBase e f X.env (eval e X.env)=eval e X.env:=by rfl):PE X (.Attribute e f pos) (Sz K ta f):=by
 subst hK;intro pins s σ H Q I h;refine GC hb (thn (he pins s σ H _ I h) fun u s1 ⟨x,H1,I1,rx,a,C,d,fs,v,ex,ea,ed,Z,Y,n,l,q⟩=>?_);subst ex;obtain rfl:u=Value.ref a:=rx;obtain ⟨o,vs,k1,k2,k3,_,k4⟩:=X2 I1.hok ea;obtain ⟨mA,m1,m2,_⟩:=X2 I1.hok ed;obtain ⟨u,hu,ru⟩:=RelO.some_of (show RelO (some v) (mA f) by rw [<-l];exact m2 f);obtain ⟨cd,hc,_,hd⟩:=Y.cd;refine BM I1.kIn Z (by unfold W.hasDictIn;rw [hc];exact hd) k1 k2 k4 (by obtain ⟨c,dd,dt,sl⟩:=o;cases k3;rfl) m1 n hu (Km ru) ⟨v,H1,I1.tok _,ru,q⟩
def WL (K:W.Frag) (C:Addr):Bool:=
 match K.lookup C with
 | some ⟨.type "type",_,.cls cd,sl⟩=>
  match cd.mro,sl.toList with
  | .ref C' :: bm,[_,_,_,_,some (.builtin n),_]=>C' == C&&n == "ValueError.__new__"&&!cd.hasDel&&W.tailIn K P1 bm
  | _,_=>false
 | _=>false
structure MkX (K:W.Frag) (C f:Addr):Prop where
 makes:WL K C=true
 init:W.findIn K (.ref C) "__init__"=some (some (.ref f))
 fn:W.isFn K (.ref f)=true
 kp:W.keepIn K (.ref C)=true
structure Ls (P:Program) (w:World) (K:W.Frag) (mg:Str->Option Value) (base:Heap) (k:Nat) (C:Addr) (ps:List Str) (sp:Sp):Prop where
 ex:∃ (f:Addr) (fd:FuncData),FnOk P w K mg base CX0 k f fd ps sp/\Binds K fd ps []/\MkX K C f
theorem Ur {q:Str}{N:Addr}{bs bm:List Value}{hdct:Bool}{sn:List Str}{sub:List Value}{ab:Bool}{col:Option Bool}{dd:Option Addr}{k0 k1 k2 k3 k5:Option Value}{newId:String}{x:Sem Value}{Q:Flow->Shared->Prop} 
  (hbase:bm.contains (.type "BaseException")=true) (hh:A.handled=none)
  (h:wpAny M A x (fun v s₁=>∃ e t od,v=.ref e/\s₁.heap.get? C=some (excClassObj nm q C N bs bm hdct sn sub ab col dd k0 k1 k2 k3 k5 newId)/\s₁.heap.get? e=some (ZJ C t od)/\E (.ref e) s₁) E s):wpAny M A (raiseStmt env (some x) none) Q E s:=by
 have hcB:(Value.ref C :: bm).contains (.type "BaseException")=true:=by rw [List.contains_cons,hbase,Bool.or_true]
 unfold raiseStmt;dsimp only;refine Fk (FV h (fun v s₁ ⟨e,t,od,ev,hC,he,hE⟩=>?_) fun _ _ z=>z);subst ev;obtain ⟨hp,g,d,tk,os⟩:=s₁;refine Fk (Fw (Fk (wpAny_holding ?_)));unfold excFromValue isExcClass isType loadHead;dsimp only;refine Fk (Fk (Fk (wpAny_loadPart_at he (Fw (wpAny_ite_false (by rfl) (Fw (wpAny_ite_false (by rfl) (Fk ?_))))))));unfold isInstance typeOf;dsimp only;refine Fk (Fk (wpAny_loadPart_at he (Fw (wpAny_isSubtype_exc hC ?_))));rw [hcB];refine wpAny_ite_true (by rfl) (Fw ?_);refine Fk (Fk (wpAny_loadPart_at he (Fw (wpAny_ite_false (by rfl) (Fk ?_)))));unfold raisedInstance typeOf;dsimp only;refine Fk (Fk (wpAny_loadPart_at he (Fw (Fk (Fk (wpAny_loadPart_at hC (Fw (wpAny_ite_true (by rfl) (Fw (Fk ?_))))))))));unfold setFlight;refine Fk (wpAny_field he rfl rfl (wpAny_ite_false (by rfl) (Fw ?_)));exact wpAny_raiseNew_none hh hE
def U3 (E:XK) (C:Addr) (sp:Sp) (t:TA):TS:=fun _ σ H=>t σ H fun vs H1=>vs.length<=sizeLine/\∀ x,H1 x=none->sp (.ref x :: vs) (upd H1 x (.ext (XE x C none))) (fun v H2=>v=.non/\∃ od,H2 x=some (.ext (XE x C od))/\E (.ref C) od (WM H2 x)) E0
section
variable {X:Cx} {E:XK} {x:Str} {C:Addr} {k:Nat} {ps:List Str} {sp:Sp} {np cpos pos:Pos} {e₀:Expr} {rest:List Expr} {t:TA}
theorem Wz (th:GD X E) (hx0:X.ex=[]) (hc:X.calm=true) (G:Ls X.prog X.w X.K X.mg X.base k C ps sp) (hr:Room (k+1) X.A) (hg:Gl X x) (hm:X.mg x=some (.ref C)) (ha:PA X (e₀ :: rest) t)
  (he:starEach (e₀ :: rest) X.env=(false,eval e₀ X.env) :: starEach rest X.env:=by rfl) (hpl:(backTo cpos (starEach rest X.env)).any (·.1)=false:=by rfl) (hd:(x == ("__debug__":Str))=false:=by decide) :
  PS X (.Raise (some (.Call (.Name x np) (e₀ :: rest) [] cpos)) none pos) (U3 E C sp t):=by
 intro pins s σ H D I h;obtain ⟨f,fd,F,b,M⟩:=G.ex;have q:=M.makes;unfold WL at q;split at q
 ·rename_i dd cdt sl ho;split at q
  ·rename_i C' bm k0 k1 k2 k3 n k5 hmr hs;simp only [Eo,beq_iff_eq,EO] at q;obtain ⟨⟨⟨rfl,rfl⟩,hdel⟩,ht⟩:=q;obtain ⟨nm,bs,mro,ns,qn,hdd,sn,sub,ab,col,del⟩:=cdt;dsimp only at hmr hdel;subst hmr hdel;have hsl:sl=#[k0,k1,k2,k3,some (.builtin "ValueError.__new__"),k5]:=by
    obtain ⟨l⟩:=sl;simp only at hs;rw [hs]
   subst hsl;have FB:=PySem.F.excBase_ValueError;have T0:OwnTail s.heap P1 bm:=W.tail_of_in I.kIn ht;rw [arm_exec_Raise];refine Fk (wpAny_standAt (Ur (nm:=nm) (q:=qn) (C:=C') (N:=ns) (bs:=bs) (bm:=bm) (hdct:=hdd) (sn:=sn) (sub:=sub) (ab:=ab) (col:=col) (dd:=dd) (k0:=k0) (k1:=k1) (k2:=k2) (k3:=k3) (k5:=k5) (newId:="ValueError.__new__") (T0.hasType FB.hasBase) (I.ok.hd hc) (Fk (FV (Q:=fun v s₁=>∃ e t od,v=.ref e/\s₁.heap.get? C'=some (excClassObj nm qn C' ns bs bm hdd sn sub ab col dd k0 k1 k2 k3 k5 "ValueError.__new__")/\s₁.heap.get? e=some (ZJ C' t od)/\X.xe (.ref e) s₁) ?_ (fun v s' h=>Fk (wpAny_standAt (Fw h))) fun _ _ z=>z))));refine E7 (X1 I hg hm ?_ hd);refine W.callWith_K (h₀:=X.base) I.ok.mod.kin M.kp (thn (ha cpos pins s σ H _ I h) fun us s1 ⟨vs,H1,I1,r,hz,q⟩=>⟨I1.kIn,?_⟩) he hpl;have T1:OwnTail s1.heap P1 bm:=W.tail_of_in I1.kIn ht;have hx1:H1 (s1.heap.objs.size+1)=none:=I1.hok.fresh (EA _);have q1:=q _ hx1;have kp:∀ b o,s1.heap.get? b=some o->(Xc s1.heap C' us).get? b=some o:=fun b o e=>FG _ (FG _ e)
   have hget:(Xc s1.heap C' us).get? (s1.heap.objs.size+1)=some (ZJ C' s1.heap.objs.size none):=by
    have z:(s1.heap.push { cls:=.type "tuple",data:=.seq us.toArray }).objs.size=s1.heap.objs.size+1:=Heap.size_push _ _;exact z ▸ FY _ rfl
   have I2:Inv X pins σ (upd H1 (s1.heap.objs.size+1) (.ext (XE (s1.heap.objs.size+1) C' none))) { s1 with heap:=Xc s1.heap C' us }:=I1.laid (t':=s1.toks) kp (EA _) (Gx ⟨_,hget⟩);have r2:Vals (V.ref (s1.heap.objs.size+1) :: vs) (Value.ref (s1.heap.objs.size+1) :: us):=.cons rfl r;have hl:(Value.ref (s1.heap.objs.size+1) :: us++[]).length=ps.length:=by
    rw [Ec];have e:=r2.length;rw [F.len _ _ _ _ q1] at e;exact e.symm
   have hb1:=b { s1 with heap:=Xc s1.heap C' us } (Value.ref (s1.heap.objs.size+1) :: us) I2.kIn hl;rw [Ec] at hb1;obtain ⟨hp1,g1,d1,t1,os1⟩:=s1;refine wpAny_call (J2 FB (by decide +kernel) FB T1 (I1.kIn _ _ ho) I1.kIn M.init (beq_iff_eq.mp M.fn) (show us.length<=sizeLine by rw [<-r.length];exact hz) ?_);refine EW (F.run _ X.stack _ _ ⟨Value.ref (hp1.objs.size+1) :: us,[]⟩ (Value.ref (hp1.objs.size+1) :: us) _ _ E0 (hr.make C' us []) (I2.env0.make C' us []) hb1 r2 q1) fun r s' hq'=>?_
   cases r with
   | error e=>exact False.elim hq'
   | ok fl=>
    cases fl with
    | ret u=>
     obtain ⟨v,H',I3,rv,ev,od,hod,q3⟩:=I2.after hq';subst ev;obtain ⟨tt,hob⟩:=X2 I3.hok hod;have new:X.s₀.heap.get? (hp1.objs.size+1)=none:=by
      cases q:X.s₀.heap.get? (hp1.objs.size+1) with
      | none=>rfl
      | some o=>
       have z1:=Fy q;have z2:X.s₀.heap.objs.size<=hp1.objs.size:=I1.sz;exact absurd (FP z1 z2) (DC.mpr (EA _))
     have I4:=I3.untrack hod new;refine ⟨rv,hp1.objs.size+1,tt,od,rfl,I3.kIn _ _ ho,hob,th pins σ _ s' _ _ tt od I4 ⟨Kr,new,fun p hp z=>?_⟩ hob q3⟩;have z3:=Fy (I1.pin p hp).1;have z4:p.1<hp1.objs.size:=z3;exact absurd z4 (DC.mpr (by rw [z];exact EA _))
    | next=>exact False.elim hq'
    | brk=>exact False.elim hq'
    | cont=>exact False.elim hq'
  ·cases q
 ·cases q
end
end L2
namespace L2
open PySem PySem.Spec PyProof.Rows PySem.W Builtin Builtin.ObjectAttr Builtin.Getset_descriptor
structure NA (P:Program) (w:World) (K:W.Frag) (mg:Str->Option Value) (base:Heap) (k:Nat) (name:Str) (ps:List Str) (sp:Sp):Prop where
 ex:∃ (f:Addr) (fd:FuncData),FnOk P w K mg base (CXd P w) k f fd ps sp/\Binds K fd ps []/\W.keepIn K (.ref f)=true/\mg name=some (.ref f)
def XPd (X:Cx) (pins:List (Addr×Obj)) (σ:St) (E:XK) (ev:Value) (s':Shared):Prop:=∃ ea cls od H',ev=.ref ea/\Inv X pins σ H' s'/\Air X pins H' s'.heap cls ea/\F3d od ea s'.heap/\E cls od H'
def PD (X:Cx) (e:Expr) (t:TX):Prop:=
 ∀ (pins:List (Addr×Obj)) (s:Shared) (σ:St) (H:Hp) (Q:VK) (E:XK),Inv X pins σ H s->t σ H Q E->wpAny (model X.prog X.w) X.A (eval e X.env) (EP X pins σ Q) (XPd X pins σ E) s
def PSD (X:Cx) (sts:List Stmt) (t:Q3->XK->St->Hp->Prop):Prop:=
 ∀ (pins:List (Addr×Obj)) (s:Shared) (σ:St) (H:Hp) (D:Q3) (E:XK),Inv X pins σ H s->t D E σ H->wpAny (model X.prog X.w) X.A (execs sts X.env) (SP X pins D) (XPd X pins σ E) s
section
variable {X:Cx} {k:Nat} {C:Addr} {m:Str} {ps:List Str} {sp:Sp} {x name:Str} {p pos apos:Pos} {o e:Expr} {es:List Expr} {t:TA} {ta:TE} {E:XK}
theorem Gc (C:NA X.prog X.w X.K X.mg X.base k name ps sp) (hr:Room k X.A) (hg:Gl X name) (hx:X5 (CXd X.prog X.w) X E) (ha:PA X (e :: es) t) (hdb:(name == ("__debug__":Str))=false:=by decide)
  (he:starEach (e :: es) X.env=(false,eval e X.env) :: starEach es X.env:=by rfl) (hpl:(backTo pos (starEach es X.env)).any (·.1)=false:=by rfl) :
  PE X (.Call (.Name name p) (e :: es) [] pos) (VE sp [] E t):=by
 obtain ⟨f,fd,F,b,kp,m⟩:=C.ex;exact Gb F hr hg m kp b .nil hx ha hdb he hpl
theorem L4 (C:NA X.prog X.w X.K X.mg X.base k name ps sp) (hr:Room k X.A) (hx0:X.ex=[]) (hg:Gl X name) (ha:PA X.nox (e :: es) t)
  (hdb:(name == ("__debug__":Str))=false:=by decide) (he:starEach (e :: es) X.env=(false,eval e X.env) :: starEach es X.env:=by rfl) (hpl:(backTo pos (starEach es X.env)).any (·.1)=false:=by rfl) :
  PD X (.Call (.Name name p) (e :: es) [] pos) (NJ sp t):=by
 obtain ⟨f,fd,F,hb,hk,hm⟩:=C.ex;intro pins s σ H Q E I h;refine E7 (X1 I hg hm ?_ hdb);refine W.callWith_K (h₀:=X.base) I.ok.mod.kin hk (FV (ha pos pins s σ H _ (I.wish _) h) (fun us s1 ⟨vs,H1,I1,r,q⟩=>⟨I1.kIn,?_⟩) fun _ _ z=>False.elim z) he hpl;have I1:=I1.unwish;have hl:(us++[]).length=ps.length:=by rw [Ec,<-r.length];exact F.len _ _ _ _ q
 have hb1:=hb s1 us I1.kIn hl;rw [Ec] at hb1;refine wpAny_call (EW (F.run X.A X.stack s1 H1 ⟨us,[]⟩ us vs Q E hr I1.env0 hb1 r q) fun r s' hq=>?_);cases r with
 | error e=>exact CXd.here I1 hx0 hq
 | ok fl=>
  cases fl with
  | ret u=>exact I1.after hq
  | next=>exact False.elim hq
  | brk=>exact False.elim hq
  | cont=>exact False.elim hq
variable {tx:TX}
theorem L5 {pos':Pos}(hN:X.N.Nodup) (hi:X.N[i]?=some y) (hx:Loc X.env.scope y) (he:PD X e tx) (hs:swapsWith e (some (.Name y pos')) pos.line X.env=pure false:=by rfl) (hf:X.fn y=true∨X.env.scope.names.lookup y=some .local:=by first | exact .inl rfl | exact .inr rfl | assumption) :
  PSD X [.Assign [.Name y pos'] e pos] (sxA i tx):=by
 intro pins s σ H D E I h;refine wpAny_execs_cons (wpAny_Assign_Name (thn (he pins s σ H _ E I h) fun v s1 ⟨x,H1,I1,r1,q1⟩=>?_) hs);exact XI I1 hN hi hx r1 (fun s2 I2=>Dd ⟨_,H1,I2,q1⟩) hf
end
section
variable {P:Program} {w:World} {K:W.Frag} {mg:Str->Option Value} {base:Heap}
theorem Fun.okD {k:Nat}{sp:Sp}(F:Fun K x qual st f fd) (S:Qn N ps (Qh st)) (len:∀ vs H Q E,sp vs H Q E->vs.length=ps.length)
  (hbody:∀ (cdv:Value) (A:Around) (outer:List Env) (s:Shared) (H:Hp) (vs:List V) (Q:VK) (E:XK),Room k (A.deeper (envOfC qual (Qh st) s.heap.objs.size f cdv))->sp vs H Q E ->
   ∃ t,PSs (Wj (CXd P w) P w K mg base N qual (Qh st) f cdv A outer s H E) (QT st) t/\t { nx:=fun _ H'=>Q .non H',rt:=Q } (start N vs) H):FnOk P w K mg base (CXd P w) (k+1) f fd ps sp:=by
 obtain ⟨oc,od,kV,doc,pm,an,cdv,ct,osl,rfl,lk,hcd⟩:=F.ex;exact MS lk hcd S len fun A outer s H vs Q E hr hsp=>hbody cdv A outer s H vs Q E hr hsp
end
abbrev Kept:=Addr->Value->Option Addr->Heap->Prop
structure JP (Ψ:Kept):Prop where
 of:∀ e cls od h,ExcD e cls od h->Ψ e cls od h
 fr:∀ e cls od (h1 h2:Heap),Ψ e cls od h1->(∀ o,h1.get? e=some o->h2.get? e=some o)->Ψ e cls od h2
abbrev KD:Kept:=ExcD
theorem UJ:JP KD:=⟨fun e cls od h z=>z,fun e cls od h1 h2 ⟨o,vs,y1,y⟩ k=>⟨o,vs,k o y1,y⟩⟩
section
variable {X:Cx} {body suite:List Stmt} {b₀:Stmt} {x n:Str} {C:Addr} {np hp pos:Pos} {tb:Q3->XK->St->Hp->Prop} {ts:Addr->TS}
theorem Vd {Q:Unit->Shared->Prop}(I:Inv X pins σ H s) (ow:ZS X) (a:Air X pins H s.heap cls ea) (f3:F3d od ea s.heap)
  (q:∀ h',Inv X pins σ H { s with heap:=h' }->Air X pins H h' cls ea->F3d od ea h'->Q () { s with heap:=h' }):wpAny M A (setFlight (.ref ea) none) Q E s:=by
 have w1:=VW (M:=M) (A:=A) (E:=fun _ _=>False) (Q:=fun _ s'=>∃ h',s'={ s with heap:=h' }/\Inv X pins σ H { s with heap:=h' }/\Air X pins H h' cls ea) I ow a fun h' J b=>⟨h',rfl,J,b⟩
 have w2:wpAny M A (setFlight (.ref ea) none) (fun _ s'=>F3d od ea s'.heap) (fun _ _=>False) s:=Yw f3 fun h2 x=>x
 refine FV (cj_setFlight.any w1 w2) (fun _ s' ⟨⟨h5,e5,J,b⟩,f5⟩=>?_) fun _ _ z=>z.1.elim
 subst e5;exact q h5 J b f5
end
theorem Jm {E:XK}{sp:Sp}{t:TA}{D:Q3}:U3 E C sp t D σ H=t σ H fun vs H1=>vs.length<=sizeLine/\∀ x,H1 x=none->sp (.ref x :: vs) (upd H1 x (.ext (XE x C none))) (fun v H2=>v=.non/\∃ od,H2 x=some (.ext (XE x C od))/\E (.ref C) od (WM H2 x)) E0:=rfl
end L2
variable {Ψ:L2.Kept}
namespace L2
open PySem PySem.Spec PyProof.Rows
def NB (K:W.Frag) (C:Addr):Bool:=match W.clsIn K C with
 | some cd=>K2 cd.mro&&cd.hasDict
 | none=>false
theorem xcls_of (sa:W.findIn K (.ref C) "__setattr__"=some (some (.builtin "object.__setattr__"))) (mO:W.mroIn K C (.type "object")=some true) (h:NB K C=true):WV K C:=by
 refine ⟨sa,mO,?_⟩;unfold NB at h;split at h
 ·rename_i cd e;rw [Eo] at h;exact ⟨cd,e,h.1,h.2⟩
 ·cases h
theorem Kj {S:Setting}{o:Obj}(l:K.lookup a=some o) {e k}:W.peek K S (Sem.load a e k:Sem α)=W.peek K S (k o):=by
 simp only [W.peek];rw [l]
end L2
namespace L2
open PySem PySem.Spec PyProof.Rows PySem.W Builtin Builtin.ObjectAttr Builtin.Getset_descriptor
def B1 (H:Hp) (ea:Addr):Prop:=∃ φ,H ea=some (.ext φ)/\∀ h,φ h->F2 ea h
theorem ME (h:H e=some (.ext (ExcD e cls od))):B1 H e:=⟨_,h,fun _ ⟨o,vs,k1,_,k2,k3,_⟩=>⟨o,vs,k1,k2,k3⟩⟩
def Lr (K:W.Frag) (ea a:Addr):It:=
 ⟨(Itl K a).go,(Itl K a).yld,fun i H=>(∃ xs,SqL K H a xs/\xs.length<=i)/\B1 H ea⟩
structure Hm (P:Program) (w:World) (K:W.Frag) (ea:Addr) (tg:Expr) (J:It) (fp:List Addr) (it:Addr) (tn:Nat->Heap->Prop):Prop where
 mem:it∈fp
 obj:∀ i h,tn i h->∀ b∈fp,∃ o,h.get? b=some o/\∀ v,o.data≠.cell v
 keep:∀ i h h',tn i h->(∀ b∈fp,∀ o,h.get? b=some o->h'.get? b=some o)->tn i h'
 item:∀ (X:Cx),X.prog=P->X.w=w->X.K=K->X.A.handled=some (.ref ea)->∀ (i:Nat) (pins:List (Addr×Obj)) (s:Shared) (σ:St) (H:Hp) (E:Value->Shared->Prop),Inv X pins σ H s->(∀ b∈fp,XC X pins H b)->tn i s.heap->J.go i H ->
  wpAny (model P w) X.A (pyNext (.ref it)) (fun r s1=>∃ u,r=some u /\
   wpAny (model P w) X.A (letOwnedTupleGo tg (.ref it) u) (fun _ s2=>∃ x H',Inv X pins σ H' s2/\RelV x u/\J.yld i H x H'/\tn (i+1) s2.heap/\∀ b∈fp,H' b=none) E s1) E s
 done:∀ (X:Cx),X.prog=P->X.w=w->X.K=K->X.A.handled=some (.ref ea)->∀ (i:Nat) (pins:List (Addr×Obj)) (s:Shared) (σ:St) (H:Hp) (E:Value->Shared->Prop),Inv X pins σ H s->(∀ b∈fp,XC X pins H b)->tn i s.heap->J.stop i H ->
  wpAny (model P w) X.A (pyNext (.ref it)) (fun r s1=>r=none/\Inv X pins σ H s1) E s
 self:∀ (A:Around) (i:Nat) (s:Shared) (Q:Value->Shared->Prop) (E:Value->Shared->Prop),tn i s.heap->Q (.ref it) s->wpAny (model P w) A (pyIter (.ref it)) Q E s
theorem Ub (a it:Addr):Hm P w K ea tg (Lr K ea a) [it] it (fun i h=>h.IsListIter it a i) where
 mem:=by simp
 obj:=fun i h st b hb=>by
  have e:b=it:=by simpa using hb
  subst e;obtain ⟨o,e,c,d⟩:=st;exact ⟨o,e,fun v z=>by rw [d] at z;cases z⟩
 keep:=fun i h h' st k=>st.at fun o e=>k it (by simp) o e
 item:=by
  intro X hP hw hK hc i pins s σ H E I hf st hg;subst hP hw hK;obtain ⟨xs,x,hq,hx⟩:=hg;obtain ⟨its,rv,p,hz⟩:=I.list hq;obtain ⟨u,hu,ru⟩:=rv.get hx;obtain ⟨f0,f1,f2,f3,f4,f5⟩:=hf it (by simp);refine wpAny_pyNext_list_item st p.isList (x:=u) (by simpa using hu) fun h' st' sb=>?_
  have I1:Inv X pins σ H { s with heap:=h' }:=I.turned (t':=s.toks) (fun b o hb e=>(sb.2 b hb).trans e) f0 f1 f3 f4 f5;obtain ⟨o,e,c,d⟩:=id st';exact ⟨u,rfl,Gi (s:={ s with heap:=h' }) e c d (by decide) ⟨x,H,I1,ru,⟨rfl,fun ys hy=>by rw [I.list_inj hy hq];exact hx⟩,st',fun b hb=>(hf b hb).1⟩⟩
 done:=by
  intro X hP hw hK hc i pins s σ H E I hf st hg;subst hP hw hK;obtain ⟨⟨xs,hq,hx⟩,φ,he,hφ⟩:=hg;have fx:F2 ea s.heap:=hφ _ (X2 I.hok he);obtain ⟨its,rv,p,hz⟩:=I.list hq;obtain ⟨f0,f1,f2,f3,f4,f5⟩:=hf it (by simp);have hl:=rv.length;exact ZM hc fx (fun z=>by rw [z,f0] at he;cases he) st p.isList (by simp;omega) fun h' eb=>⟨rfl,I.turned (t':=s.toks) (fun b o hb e=>eb b o hb e) f0 f1 f3 f4 f5⟩
 self:=fun _ _ _ _ _ st h=>wpAny_pyIter_listiter st h
def Mw (K:W.Frag) (ea:Addr) (tl:TE):TI:=fun σ H R=>tl σ H fun x H1=>∃ a,x=.ref a/\(∃ xs,SqL K H1 a xs)/\R (Lr K ea a) H1
theorem ExcD.o {e:Addr}{cls:Value}{od:Option Addr}{h:Heap}(x:ExcD e cls od h):B2 e cls h:=by
 obtain ⟨o,vs,h1,h2,h3,_⟩:=x;exact ⟨o,vs,h1,h2,h3⟩
theorem Na (Z:Zi K C):W.KitX K (.ref e) (.ref C) (ExcD e (.ref C) od) where
 ty:=fun M h X p=>(Yh Z).ty M h X p.o
 it:=fun _ _ X p=>(Yh (e:=e) Z).it _ _ X p.o
 ne:=fun h tp dd its n sl X htp=>(Yh (e:=e) Z).ne h tp dd its n sl X htp
 ca:=fun X p k=>(Yh Z).ca X p.o k
def N1 (K:W.Frag):List V->Hp->VK->Prop:=fun xs H Q=>∃ e c C od b u,xs=[.ref e,c]/\RelV c u/\(∀ u',RelV c u'->u'=u)/\H e=some (.ext (ExcD e (.ref C) od))/\Zi K C/\W.kitOne K (.ref C) u=some b/\Q (.bl b) H
theorem Xw (K:W.Frag) {X:Cx}(hK:X.K=K):ZT X (.builtin "isinstance") (N1 K):=by
 subst hK;intro pins s σ H xs us Q I r h;obtain ⟨e,c,C,od,b,u,rfl,rc,uq,he,Z,k,q⟩:=h;obtain ⟨u1,u2,rfl,r1,r2⟩:=Ke r;obtain rfl:=uq _ r2;obtain rfl:=r1.ref_of;exact W.kia_one (Na Z) I.kIn (X2 I.hok he) k (fun z=>nomatch z) fun tk=>⟨.bl b,H,I.tok tk,rfl,q⟩
theorem XG {C':Addr}{b:Bool}(he:H e=some (.ext (ExcD e (.ref C) od))) (Z:Zi K C) (k:W.kitOne K (.ref C) (.ref C')=some b) (q:Q (.bl b) H):N1 K [.ref e,.ref C'] H Q:=
 ⟨e,.ref C',C,od,b,.ref C',rfl,rfl,fun _ h=>h,he,Z,k,q⟩
theorem RW {b:Bool}(he:H e=some (.ext (ExcD e (.ref C) od))) (Z:Zi K C) (k:W.kitOne K (.ref C) (.type T)=some b) (q:Q (.bl b) H):N1 K [.ref e,.ty T] H Q:=
 ⟨e,.ty T,C,od,b,.type T,rfl,rfl,fun _ h=>h,he,Z,k,q⟩
section
variable {X:Cx} {body suite suite2:List Stmt} {b₀ c₀:Stmt} {x y n:Str} {C C2:Addr} {np hp np2 hp2 pos:Pos} {tb:Q3->XK->St->Hp->Prop} {ts ts2:Addr->TS}
theorem BS {hs:List ExceptHandler}{Q:Flow->Shared->Prop}(I:Inv X pins σ H s) (ow:ZS X) (a:Air X pins H s.heap cls ea) (f3:F3d od ea s.heap)
  (h:∀ h6,Inv X pins σ H { s with heap:=h6 }->Air X pins H h6 cls ea->F3d od ea h6->wpAny (model X.prog X.w) X.A (handleBy (.ref ea) X.env hs) Q X.xe { s with heap:=h6 }) :
  wpAny (model X.prog X.w) X.A (noteFrame (.ref ea) X.env) (fun _ s₂=>wpAny (model X.prog X.w) X.A (setFlight (.ref ea) none) (fun _ s₃=>wpAny (model X.prog X.w) X.A (handleBy (.ref ea) X.env hs) Q X.xe s₃) X.xe s₂) X.xe s:=by
 obtain ⟨T,a0,hex,hexf,tr⟩:=a.two;have fs:=Xj (ex:=[ea,T]) I;have fr:=I.ok.frames;rw [ow.2.1] at fs fr;have w1:=wpAny_looks_onW (M:=model X.prog X.w) (A:=X.A) (E:=fun _ _=>False) (s:=s) (base:=YK X s.heap [ea,T]) (Q:=fun _ s'=>∃ h4,s'={ s with heap:=h4 }/\(YK X s.heap [ea,T]).HeldW (X.env :: X.outer) ea cls a0 X.env.locals h4/\s.heap.UpToSlots h4) fr ow.2.2 ⟨Yv,Wd (by simp),fs,tr⟩ fun h4 hh4 up4=>⟨h4,rfl,hh4,up4⟩
 have w2:wpAny (model X.prog X.w) X.A (noteFrame (.ref ea) X.env) (fun _ s'=>F3d od ea s'.heap) (fun _ _=>False) s:=Gu fr fs ow.2.2 f3 fun h2 x=>x
 refine FV (cj_noteFrame.any w1 w2) (fun _ s' ⟨⟨h4,e4,hh4,up4⟩,f4⟩=>?_) fun _ _ z=>z.1.elim
 subst e4;have v1:=wpAny_landsW (M:=model X.prog X.w) (A:=X.A) (E:=fun _ _=>False) (s:={ s with heap:=h4 }) (base:=YK X s.heap [ea,T]) (Q:=fun _ s'=>∃ h5,s'={ s with heap:=h5 }/\(YK X s.heap [ea,T]).FlyingW (X.env :: X.outer) ea cls a0 h5/\h4.UpToSlots h5) hh4 fun h5 fl5 up5=>⟨h5,rfl,fl5,up5⟩
 have v2:wpAny (model X.prog X.w) X.A (setFlight (.ref ea) none) (fun _ s'=>F3d od ea s'.heap) (fun _ _=>False) { s with heap:=h4 }:=Yw (s:={ s with heap:=h4 }) f4 fun h2 x=>x
 refine FV (cj_setFlight.any v1 v2) (fun _ s' ⟨⟨h5,e5,fl5,up5⟩,f5⟩=>?_) fun _ _ z=>z.1.elim
 subst e5;have I5:Inv X pins σ H { s with heap:=h5 }:=Wo I hex hexf fl5.1 (up4.trans up5);have l5:=fl5.2.2.1;rw [<-ow.2.1] at l5;have a5:Air X pins H h5 cls ea:=Jk I ow.1 hex (by simp) l5 fl5.2.2.2;exact h h5 I5 a5 f5
theorem MF {name:Option Str}{rest:List ExceptHandler}{b:Bool}{Q:Flow->Shared->Prop}(I5:Inv X pins σ H s) (hg:Gl X x) (hm:X.mg x=some (.ref C)) (a5:Air X pins H s.heap cls ea) (hmatch:W.exmOne X.K cls (.ref C)=some b)
  (h1:b=true->codeAny (model X.prog X.w) (X.A.mark (some (.ref ea))) (.handlers (.ref ea) [.ExceptHandler none name (b₀ :: suite) hp] X.env) (fun r s₂=>match r with
     | .ok f=>(match name with
      | none=>Q f s₂
      | some n=>wpAny (model X.prog X.w) X.A (do bindName X.env n .none;unbindBehindTheSuite X.env n hp) (fun _ s₃=>Q f s₃) X.xe s₂)
     | .error x=>cameBackBy (model X.prog X.w) X.A X.env X.xe x s₂) s)
  (h2:b=false->wpAny (model X.prog X.w) X.A (handleBy (.ref ea) X.env rest) Q X.xe s) (hd:(x == ("__debug__":Str))=false:=by decide) :
  wpAny (model X.prog X.w) X.A (handleBy (.ref ea) X.env (.ExceptHandler (some (.Name x np)) name (b₀ :: suite) hp :: rest)) Q X.xe s:=by
 refine wpAny_handleBy_cons (codeAny_handlers_test (X1 (X:=X.hand ea) (I5.hand ea) hg hm ?_ hd)) (by intro q;cases q);obtain ⟨oe,vs,T5,oT,tts,a05,e1,e2,_⟩:=id a5;have LT:W.Looks (model X.prog X.w) s.heap (typeOf (.ref ea)) cls:=e2.1 ▸ (W.Looks.ld e1).andThen .now;refine W.exm_one I5.kIn LT hmatch _ _ _ _ (fun _ _ z=>z) ?_;cases b with
 | true=>exact h1 rfl
 | false=>exact h2 rfl
theorem Ue (hΨ:JP Ψ) (ow:ZS X) (hN:X.N.Nodup) (hi:X.N[i]?=some n) (hl:X.env.kindOf n=some .local) (hs:∀ e,PSs (X.hand e) (b₀ :: suite) (ts e)) {pins:List (Addr×Obj)}{σ:St}{H:Hp}{s:Shared}{cls:Value}{od:Option Addr}{ea:Addr}{D:Q3}(I:Inv X pins σ H s) (a:Air X pins H s.heap cls ea) (f3:F3d od ea s.heap)
  (q:∀ e,H e=none->ts e { nx:=fun σ' H'=>D.nx (σ'.set i none) H',rt:=D.rt,bk:=fun σ' H'=>D.bk (σ'.set i none) H',ct:=fun σ' H'=>D.ct (σ'.set i none) H' } (σ.set i (some (.ref e))) (upd H e (.ext (Ψ e cls od)))) :
  codeAny (model X.prog X.w) (X.A.mark (some (.ref ea))) (.handlers (.ref ea) [.ExceptHandler none (some n) (b₀ :: suite) hp] X.env) (fun r s₂=>match r with
     | .ok f=>wpAny (model X.prog X.w) X.A (do bindName X.env n .none;unbindBehindTheSuite X.env n hp) (fun _ s₃=>SP X pins D f s₃) X.xe s₂
     | .error x=>cameBackBy (model X.prog X.w) X.A X.env X.xe x s₂) s:=by
 refine codeAny_handlers_suite_as (Vd I ow a f3 fun h6 I6 a6 f6=>?_);obtain ⟨oe,vs,T6,oT,tts,a06,e1,e2,e3,_,_,_,_,_,l1,_⟩:=id a6;have xn:Ψ ea cls od h6:=by
  obtain ⟨o,vs',_,_,_,k1,k2,k3,_,_,_,_,_,k9⟩:=f6;rw [e1] at k1;cases k1;exact hΨ.of _ _ _ _ ⟨oe,vs',e1,e2.1,k2,k3,k9⟩
 have I7:Inv X pins σ (upd H ea (.ext (Ψ ea cls od))) { s with heap:=h6 }:=I6.trackN l1 ⟨oe,vs,e1,e3⟩ ⟨xn,⟨oe,e1⟩,hΨ.fr _ _ _⟩;refine XI (X:=X.hand ea) (v:=.ref ea) (I7.hand ea) hN hi (.inl hl) rfl (fun s8 I8=>?_) (.inr hl);refine FV (hs ea pins s8 _ _ _ I8 (q ea l1.1)) (fun f s9 z=>?_) fun _ _ z=>False.elim z
 have hcls:(X.env.scope.kind == .class||(X.env.scope.kind == .module&&X.env.locals != X.env.globals))=false:=by rw [I.ok.kind];rfl
 have gone:∀ {σ9:St} {H9:Hp} {R:Unit->Shared->Prop},Inv (X.hand ea) pins σ9 H9 s9->(∀ s',Inv X pins (σ9.set i none) H9 s'->R () s')->wpAny (model X.prog X.w) X.A (do bindName X.env n .none;unbindBehindTheSuite X.env n hp) R X.xe s9:=fun {σ9 H9 R} I9 r=>by
  obtain ⟨m,hn,_⟩:=id I9.loc;refine wpAny_nameGoes_keeps hl hn hcls fun h' v hn' hs'=>?_
  refine r _ ((I9.unhand I.ok).forget hN hi (fun m' hm'=>⟨v,?_⟩) hs');have:m=m':=by
   obtain ⟨o,es,ep,a1,a2,a3,a4⟩:=hn;obtain ⟨o',es',ep',b1,b2,b3,b4⟩:=hm';have b1':s9.heap.get? X.env.locals=some o':=b1;have a1':s9.heap.get? X.env.locals=some o:=a1;rw [a1'] at b1';cases b1';rw [a2] at b2;cases b2
   funext y;rw [<-a4,<-b4]
  subst this;exact hn'
 cases f with
 | next=>obtain ⟨σ9,H9,I9,q9⟩:=z;exact gone I9 fun s' I'=>⟨_,H9,I',q9⟩
 | brk=>obtain ⟨σ9,H9,I9,q9⟩:=z;exact gone I9 fun s' I'=>⟨_,H9,I',q9⟩
 | cont=>obtain ⟨σ9,H9,I9,q9⟩:=z;exact gone I9 fun s' I'=>⟨_,H9,I',q9⟩
 | ret u=>obtain ⟨v,σ9,H9,I9,r9,q9⟩:=z;exact gone I9 fun s' I'=>⟨v,_,H9,I',r9,q9⟩
def Wh (D:Q3) (i:Nat):Q3:={ nx:=fun σ' H'=>D.nx (σ'.set i none) H',rt:=D.rt,bk:=fun σ' H'=>D.bk (σ'.set i none) H',ct:=fun σ' H'=>D.ct (σ'.set i none) H' }
end
section
variable {prog:Program} {w:World} {A:Around} {E:Value->Shared->Prop} {s:Shared} {K:W.Frag} {C x t:Addr} {name:Str} {v:Value}
theorem MX {ns:List Str}{Q:Unit->Shared->Prop}(X:K.In s.heap) (Z:WV K C) (hx:s.heap.get? x=some (ZJ C t (some dx))) (hn:s.heap.Ns1 dx mA) (ne:x≠dx) (hw:PySem.Within mA ns) (hsz:ns.length<=sizeLine) (ht:W.findIn K (.ref C) name=some none)
  (h:∀ h',h'.get? x=some (ZJ C t (some dx))->h'.Ns1 dx (fun y=>if y=name then some v else mA y)->Heap.SameBut dx s.heap h'->Q () { s with heap:=h',toks:=s.toks+2 }) :
  wpAny (model prog w) A (setAttr (.ref x) name v) Q E s:=by
 have SF:=F.store_object;obtain ⟨cd,hc,ho,hd⟩:=Z.cd;obtain ⟨od,hod,_⟩:=WI hn;have J:W.InstAt s.heap x (ZJ C t (some dx)) C (some od):=⟨hx,rfl,rfl,hod⟩
 refine W.set_plain X J Z.sa ?_;have L0:W.Looks (model prog w) s.heap (typeOf (.ref x)) (.ref C):=(W.Looks.ld hx).andThen .now;have sub:W.Looks (model prog w) s.heap (isInstance (.ref x) (.type "object")) true:=L0.andThen (W.looks_mroIn X Z.mO);refine codeAny_call_builtin SF.slot.plain SF.entry (W.check_slot SF.kind SF.split sub (SF.args (.ref x) (.str name s.toks) v) ?_);rw [W.osa_eq];refine Fk ?_;unfold Builtin.ObjectAttr.refuseIfOverridden;refine Fk (L0.at (Fk ?_));have hm:W.Looks (model prog w) s.heap (mroOf (.ref C)) cd.mro:=(W.looks_clsIn X hc).andThen .now;refine hm.at ?_;refine wpAny_of_eq (t:=refuseLoop (.ref x) "__setattr__" cd.mro) (Wy _ ho) ?_;refine Fk (L0.at (Fk (W.Looks.at (W.looks_findIn X ht) (Fk (Fw ?_)))));dsimp only;unfold Builtin.ObjectAttr.storeInOwnDict;refine Fk (Fw (wpAny_ite_false (by rfl) (Fk ?_)));unfold Builtin.ObjectAttr.ownDictForStores instanceDict;dsimp only;refine Fk (wpAny_loadPart_at hx ?_);dsimp only;refine Fk (W.Looks.at (W.looks_clsIn X hc) ?_);rw [hd];refine wpAny_ite_false (by rfl) (Fw ?_);dsimp only;unfold Builtin.ObjectAttr.storeInDict;refine Fk (Fw (Fk ?_));refine wpAny_nsSet1 hn fun h' hn2 hs2=>?_
 obtain ⟨oD,esD,epD,hoD,hdD,hcD⟩:=hn2.count (Within.cons name v hw);refine Fk (wpAny_lookBehind hoD (by rw [hdD];exact pastItsLine_dict (FQ hcD (by rw [En];omega))) ?_);exact Fw (h _ ((hs2.2 _ ne).trans hx) hn2 hs2)
end
def NS (K:W.Frag) (ta tv:TE) (f:Str):TS:=fun D σ H=>tv σ H fun v H1=>ta σ H1 fun x H2=>∃ e C d fs,x=.ref e/\H2 e=some (.ext (XE e C (some d)))/\H2 d=some (.ext (XD d fs))/\d≠e/\fs.length<1000/\WV K C/\NoAttr K C f /\
 D.nx σ (upd H2 d (.ext (XD d (Q5 f v fs))))
section
variable {X:Cx} {o value:Expr} {ta tv:TE} {f:Str} {pos pos':Pos}
theorem N6 (K:W.Frag) (hK:X.K=K) (ha:PE X o ta) (hv:PE X value tv) (hs:swapsWith value (some (.Attribute o f pos')) pos.line X.env=pure false:=by rfl):PS X (.Assign [.Attribute o f pos'] value pos) (NS K ta tv f):=by
 subst hK;intro pins s σ H D I h;refine DA (thn (hv pins s σ H _ I h) fun u s1 ⟨y,H1,I1,ry,q⟩=>thn (ha pins s1 σ H1 _ I1 q) fun ov s2 ⟨x,H2,I2,rx,e,C,d,fs,ex,he,hd,ne,hl,Z,n,q2⟩=>?_) hs;subst ex;obtain rfl:ov=Value.ref e:=rx;obtain ⟨t,hx⟩:=X2 I2.hok he;obtain ⟨mA,m1,m2,m3⟩:=X2 I2.hok hd;have hz:(fs.map (·.1)).length<=sizeLine:=by rw [Fo,EF];omega
 refine MX I2.kIn Z hx m1 ne.symm m3 hz n fun h' k1 k2 sb=>?_
 have hdo:∃ o,h'.get? d=some o:=let ⟨o,_,_,e',_⟩:=k2;⟨o,e'⟩;refine ⟨σ,_,I2.write (t':=s2.toks+2) (by rw [hd];exact trivial) (.inl rfl) (fun b u hb e=>(sb.2 b hb).trans e) hdo (B3 ⟨_,k2,fun g=>?_,fun g hg=>?_⟩),q2⟩
 ·show RelO ((Q5 f y fs).lookup g) (if g=f then some u else mA g);rw [Qm];by_cases q:g=f
  ·rw [Fs q,Fs q];exact ry
  ·rw [Fl q,Fl q];exact m2 g
 ·by_cases q:g=f
  ·rw [q];exact (XO f y fs).1
  ·refine (XO f y fs).2 g (m3 g fun z=>hg ?_);show (if g=f then some u else mA g)=none;rw [Fl q];exact z
end
def NL (K:W.Frag) (C C2 C3:Addr) (Ψ Ψ2 Ψ3:Kept) (i:Nat) (tb:Q3->XK->St->Hp->Prop) (ts ts2 ts3:Addr->TS):TS:=fun D σ H=>tb D (fun cls od H1=>∃ b,W.exmOne K cls (.ref C)=some b/\if b=true then ∀ e,H1 e=none->ts e (Wh D i) (σ.set i (some (.ref e))) (upd H1 e (.ext (Ψ e cls od)))
 else ∃ b2,W.exmOne K cls (.ref C2)=some b2/\if b2=true then ∀ e,H1 e=none->ts2 e (Wh D i) (σ.set i (some (.ref e))) (upd H1 e (.ext (Ψ2 e cls od)))
 else W.exmOne K cls (.ref C3)=some true/\∀ e,H1 e=none->ts3 e (Wh D i) (σ.set i (some (.ref e))) (upd H1 e (.ext (Ψ3 e cls od)))) σ H
section
variable {X:Cx} {body suite suite2 suite3:List Stmt} {b₀ c₀ d₀:Stmt} {x y z n:Str} {C C2 C3:Addr} {np hp np2 hp2 np3 hp3 pos:Pos} {tb:Q3->XK->St->Hp->Prop} {ts ts2 ts3:Addr->TS}
theorem N5 {Ψ2 Ψ3:Kept}(hΨ:JP Ψ) (hΨ2:JP Ψ2) (hΨ3:JP Ψ3) (ow:ZS X) (hg:Gl X x) (hm:X.mg x=some (.ref C)) (hg2:Gl X y) (hm2:X.mg y=some (.ref C2)) (hg3:Gl X z) (hm3:X.mg z=some (.ref C3)) (hN:X.N.Nodup) (hi:X.N[i]?=some n) (hl:X.env.kindOf n=some .local) (hb:PSD X body tb) (hs:∀ e,PSs (X.hand e) (b₀ :: suite) (ts e)) (hs2:∀ e,PSs (X.hand e) (c₀ :: suite2) (ts2 e)) (hs3:∀ e,PSs (X.hand e) (d₀ :: suite3) (ts3 e)) (hd:(x == ("__debug__":Str))=false:=by decide) (hd2:(y == ("__debug__":Str))=false:=by decide) (hd3:(z == ("__debug__":Str))=false:=by decide) :
  PS X (.Try body [.ExceptHandler (some (.Name x np)) (some n) (b₀ :: suite) hp,.ExceptHandler (some (.Name y np2)) (some n) (c₀ :: suite2) hp2,.ExceptHandler (some (.Name z np3)) (some n) (d₀ :: suite3) hp3] [] [] pos) (NL X.K C C2 C3 Ψ Ψ2 Ψ3 i tb ts ts2 ts3):=by
 intro pins s σ H D I h;refine wpAny_Try_except (FV (hb pins s σ H D _ I h) (fun f s1 q=>?_) fun ev s1 ⟨ea,cls,od,H1,hev,I1,a1,f1,b,hmatch,q⟩=>?_)
 ·cases f with
  | next=>exact Dd q
  | ret v=>exact q
  | brk=>exact q
  | cont=>exact q
 ·subst hev;refine BS I1 ow a1 f1 fun h6 I6 a6 f6=>?_
  refine MF I6 hg hm a6 hmatch (fun e=>?_) (fun e=>?_) hd
  ·subst e;rw [Fs rfl] at q;exact Ue hΨ ow hN hi hl hs I6 a6 f6 q
  ·subst e;rw [Fl (by decide)] at q;obtain ⟨b2,hm2',q⟩:=q;refine MF I6 hg2 hm2 a6 hm2' (fun e=>?_) (fun e=>?_) hd2
   ·subst e;rw [Fs rfl] at q;exact Ue hΨ2 ow hN hi hl hs2 I6 a6 f6 q
   ·subst e;rw [Fl (by decide)] at q;refine MF I6 hg3 hm3 a6 q.1 (fun _=>?_) (fun e=>by cases e) hd3;exact Ue hΨ3 ow hN hi hl hs3 I6 a6 f6 q.2
end
theorem Lw {C2 C3:Addr}{Ψ2 Ψ3:Kept}{tb:Q3->XK->St->Hp->Prop}{ts ts2 ts3:Addr->TS}{D:Q3}:NL K C C2 C3 Ψ Ψ2 Ψ3 i tb ts ts2 ts3 D σ H=tb D (fun cls od H1=>∃ b,W.exmOne K cls (.ref C)=some b/\if b=true then ∀ e,H1 e=none->ts e (Wh D i) (σ.set i (some (.ref e))) (upd H1 e (.ext (Ψ e cls od)))
 else ∃ b2,W.exmOne K cls (.ref C2)=some b2/\if b2=true then ∀ e,H1 e=none->ts2 e (Wh D i) (σ.set i (some (.ref e))) (upd H1 e (.ext (Ψ2 e cls od)))
 else W.exmOne K cls (.ref C3)=some true/\∀ e,H1 e=none->ts3 e (Wh D i) (σ.set i (some (.ref e))) (upd H1 e (.ext (Ψ3 e cls od)))) σ H:=rfl
theorem VC (a it:Addr):RE P w K ea tg (Lr K ea a) [it] it (fun i h=>h.IsListIter it a i):=
 let T:=Ub (P:=P) (w:=w) (K:=K) (ea:=ea) (tg:=tg) a it
 ⟨T.mem,T.obj,T.keep,T.item,T.done,T.self⟩
theorem SR (K:W.Frag) {X:Cx}{ea:Addr}{tg l:Expr}{tl:TE}(h:X.K=K) (hl:PE X l tl):PIH X ea tg l (Mw K ea tl):=by
 subst h;intro pins s σ H R I h;refine thn (hl pins s σ H _ I h) fun v s1 ⟨x,H1,I1,r1,q1⟩=>?_
 obtain ⟨a,e,⟨xs,hq⟩,q⟩:=q1;subst e;cases r1;obtain ⟨its,rv,p,hz⟩:=I1.list hq;refine wpAny_pyIter_list p.isList ?_;refine ⟨s1.heap.objs.size,[s1.heap.objs.size],_,_,H1,rfl,I1.kept (t':=s1.toks) fun b o e=>FG _ e,VC a _,⟨_,FY _ rfl,rfl,rfl⟩,fun b hb=>?_,q⟩;have e:b=s1.heap.objs.size:=by simpa using hb
 subst e;exact I1.fpOk (Ft _) (I1.hok.fresh (Ft _))
theorem NF:Mw K ea tl σ H R=tl σ H fun x H1=>∃ a,x=.ref a/\(∃ xs,SqL K H1 a xs)/\R (Lr K ea a) H1:=rfl
theorem PZ (Pv:Nat->List V->St->Hp->Prop) (h0:Pv 0 [] σ0 H) (hl:∀ i acc σ H,i<=xs.length->Pv i acc σ H->SqL K H a xs) (he:∀ i acc σ H,Pv i acc σ H->B1 H ea) (hn:xs.length<=1000)
  (hs:∀ i x acc σ H,xs[i]?=some x->acc.length<=i->Pv i acc σ H->g x σ H fun σ2 H2=>tt σ2 H2 fun b H3=>if b=true then te σ2 H3 fun v H4=>CN Pv xs.length i (acc++[v]) σ2 H4 else CN Pv xs.length i acc σ2 H3)
  (hd:∀ acc σ H,Pv xs.length acc σ H->∀ p,H p=none->Q (.ref p) (upd H p (.lst acc))):Kz (Lr K ea a) g tt te σ0 H Q:=by
 refine ⟨fun i m acc σ H=>m=xs.length-i/\i<=xs.length/\acc.length<=i/\Pv i acc σ H,⟨xs.length,by simp,FZ _,Ft _,h0⟩,?_⟩;rintro i m acc σ H ⟨rfl,hi,ha,p⟩;have q:=hl i acc σ H hi p;by_cases hlt:i<xs.length
 ·refine .inr ⟨⟨xs,xs[i],q,by simp [hlt]⟩,QF (by omega),fun x H' y=>?_⟩;obtain ⟨e,y⟩:=y;subst e;exact hs i x acc σ _ (y xs q) ha p
 ·have e:i=xs.length:=by omega
  subst e;exact .inl ⟨⟨⟨xs,q,Ft _⟩,he _ _ _ _ p⟩,hd acc σ H p⟩
def SE (K:W.Frag) (ea:Addr):List V->Hp->VK->Prop:=fun xs H Q=>∃ (p:Addr) (ns:List Int),xs=[.ref p]/\SqL K H p (ns.map V.int)/\B1 H ea/\Q (.int ns.sum) H
theorem Nr (K:W.Frag) {X:Cx}{ea:Addr}(hK:X.K=K) (hh:X.A.handled=some (.ref ea)):ZT X (.builtin "sum") (SE K ea):=by
 subst hK;intro pins s σ H xs us Q I r h;obtain ⟨p,ns,rfl,hq,⟨φ,he,hφ⟩,q⟩:=h;obtain ⟨u,rfl,r1⟩:=XH r;obtain rfl:=r1.ref_of;obtain ⟨its,rv,pl,hz⟩:=I.list hq;have hi:=JE rv;obtain ⟨xs,ex⟩:=hi.allInts.items;have hl:=pl.isList;rw [ex] at hl;obtain ⟨o,vs,k1,k2,k3⟩:=hφ _ (X2 I.hok he);have e:preSum (numAt xs) xs.size=ns.sum:=by
  rw [preSum_eq,EX (by simp),<-nums_intItems,<-ex,<-hi.numsOf]
 refine call_sum_walkG (iter_intList hl fun s₂ e2 st hfp hlI=>?_);subst e2;have k1':(s.heap.push { cls:=Value.type "list_iterator",data:=Data.fields #[Value.ref p,Value.int 0 0] }).get? ea=some o:=FG _ k1;have hlt:=Fy k1;refine ⟨s.heap.objs.size,[s.heap.objs.size,p,ea],[s.heap.objs.size],(intItems xs).size,_,_,numAt xs,rfl,Vy (A:=X.A.in1) hh _ p hlI (FI hlt) (intItems xs),⟨st.1,st.2,o,vs,k1',k2,k3⟩,fun b hb=>?_,fun _ _=>intItems_at,fun h' tk t' hk=>?_⟩
 ·rcases FS.mp hb with rfl | hb
  ·exact hfp _ (by simp)
  ·rcases FS.mp hb with rfl | hb
   ·exact hfp _ (by simp)
   ·rw [FE.mp hb];exact Fy k1'
 ·have hs:(intItems xs).size=xs.size:=by simp [intItems]
  rw [hs,e];exact ⟨.int ns.sum,H,I.kept (t':=tk) (old_kept hk),⟨_,rfl⟩,q⟩
end L2
namespace L2
open PySem PySem.Spec PyProof.Rows
def SG (K:W.Frag):List V->Hp->VK->Prop:=fun xs H Q=>∃ (p:Addr) (ns:List Int),xs=[.ref p]/\SqL K H p (ns.map V.int)/\0<ns.length/\∀ M∈ns,(∀ a∈ns,a<=M)->Q (.int M) H
theorem Ku (K:W.Frag) {X:Cx}(hK:X.K=K) (hc:X.calm=true):ZT X (.builtin "max") (SG K):=by
 subst hK;intro pins s σ H xs us Q I r h;obtain ⟨p,ns,rfl,hq,hn,q⟩:=h;obtain ⟨u,rfl,r1⟩:=XH r;obtain rfl:=r1.ref_of;obtain ⟨its,rv,pl,hz⟩:=I.list hq;have hi:=JE rv;obtain ⟨xs,ex⟩:=hi.allInts.items;have hl:=pl.isList;rw [ex] at hl;have en:ns=xs.toList.map (·.1):=by rw [<-nums_intItems,<-ex,<-hi.numsOf]
 have hs:0<xs.size:=by
  have e:ns.length=xs.size:=by rw [en,Fo,Array.length_toList]
  rw [<-e];exact hn
 refine max_intList (I.ok.hd hc) hl hs fun v h' tk hv kp=>?_
 obtain ⟨b1,b2⟩:=argBest_gt (numAt xs) (xs.size-1);generalize argBest (fun i j=>decide (numAt xs i > numAt xs j)) (xs.size-1)=k at *;have hk:k<xs.size:=by omega
 have ev:v=.int xs[k].1 xs[k].2:=by
  unfold intItems at hv;rw [Array.getElem?_map,Array.getElem?_eq_getElem hk] at hv;exact (FF hv).symm
 have nk:∀ j (hj:j<xs.size),numAt xs j=xs[j].1:=fun j hj=>by
  unfold numAt;rw [Array.getElem?_eq_getElem hj];rfl
 rw [ev];refine ⟨.int xs[k].1,H,I.kept (t':=tk) kp,⟨_,rfl⟩,q _ ?_ fun a ha=>?_⟩
 ·rw [en];exact FK.mpr ⟨xs[k],Array.getElem_mem_toList hk,rfl⟩
 ·rw [en] at ha;obtain ⟨e,he,rfl⟩:=FK.mp ha;obtain ⟨j,hj,rfl⟩:=List.mem_iff_getElem.mp he;have hj':j<xs.size:=by simpa using hj
  have:=b2 j (by omega);rw [nk j hj',nk k hk] at this;simpa using this
end L2
namespace L2
open PySem PyProof.Rows
def Mz (tl:TE):TI:=fun σ H R=>tl σ H fun x H1=>∃ d o kvs,x=.ref d/\H1 d=some (.frz o (.dK kvs))/\R (ItD d o kvs) H1
theorem N9 {l:Expr}(hl:PE X l tl):PI X tg l (Mz tl):=by
 intro pins s σ H R I h;refine thn (hl pins s σ H _ I h) fun v s1 ⟨x,H1,I1,r1,q1⟩=>?_
 obtain ⟨d,o,kvs,e,hd,q⟩:=q1;subst e;cases r1;obtain ⟨go,z,hs,vs,rel,dd⟩:=(show ObjOk X.prog X.w H1 s1.heap d (.frz o (.dK kvs)) from I1.hok d _ hd)
 obtain ⟨ep,hm⟩:=dd.dictAt;obtain ⟨o',es,gd,o1,o2,o3,o4,o5⟩:=id hm;rw [go] at gd;cases gd;refine wpAny_pyIter_dict hs hm ?_;have hn:H1 s1.heap.objs.size=none:=I1.hok.fresh (Ft _);refine ⟨s1.heap.objs.size,[s1.heap.objs.size],_,_,_,rfl,I1.kept (t':=s1.toks) fun b o e=>FG _ e,Kg ⟨es,o1,o2,o3,o4,o5⟩ rel,⟨_,FY _ rfl,rfl,rfl⟩,fun b hb=>?_,q⟩;have e:b=s1.heap.objs.size:=by simpa using hb
 subst e;exact I1.fpOk (Ft _) hn
theorem B5:Mz tl σ H R=tl σ H fun x H1=>∃ d o kvs,x=.ref d/\H1 d=some (.frz o (.dK kvs))/\R (ItD d o kvs) H1:=rfl
theorem Hh {o:Obj}(Pv:Nat->List V->St->Hp->Prop) (h0:Pv 0 [] σ0 H) (hl:∀ i acc σ H,i<=kvs.length->Pv i acc σ H->H d=some (.frz o (.dK kvs))) (hn:kvs.length<=1000)
  (hs:∀ i kv acc σ H,kvs[i]?=some kv->acc.length<=i->Pv i acc σ H->g (kV kv.1) σ H fun σ2 H2=>tt σ2 H2 fun b H3=>if b=true then te σ2 H3 fun v H4=>CN Pv kvs.length i (acc++[v]) σ2 H4 else CN Pv kvs.length i acc σ2 H3)
  (hd:∀ acc σ H,Pv kvs.length acc σ H->∀ p,H p=none->Q (.ref p) (upd H p (.lst acc))):Kz (ItD d o kvs) g tt te σ0 H Q:=by
 refine ⟨fun i m acc σ H=>m=kvs.length-i/\i<=kvs.length/\acc.length<=i/\Pv i acc σ H,⟨kvs.length,by simp,FZ _,Ft _,h0⟩,?_⟩;rintro i m acc σ H ⟨rfl,hi,ha,p⟩;have q:=hl i acc σ H hi p;rcases EY i kvs.length with hlt | hge
 ·refine .inr ⟨⟨q,hlt⟩,QF (by omega),?_⟩;rintro x H' ⟨rfl,kv,hk,rfl⟩;exact hs i kv acc σ _ hk ha p
 ·have e:i=kvs.length:=by omega
  subst e;exact .inl ⟨⟨q,hge⟩,hd acc σ H p⟩
end L2
namespace L2
open PySem PySem.Spec PyProof.Rows
end L2
namespace My
open PySem PyProof.Rows L2
local macro_rules | `(tactic| walk_at "r1") => `(tactic| first | dsimp only [TQ, TN, TM, TL, TK, RM, List.length_cons, List.length_nil, List.replicate, Nat.reduceSub, Nat.reduceAdd, Tc, RH, Hv, Hr, Tw, Hu, Tn, Ht, Th, Hs, RK, RJ, Tu, Ts, Tv, Tt, Tq, To, Tr, Tp, RI, Lv, Tg, Tf, Te, Td, RG, Tj, Ti, x_c, HB, Hw, Sn, Hz, T2, RP, LA, TF, RL, RY, LB, Sq, HA, TZ, Si, V8, TR, TV, R5, Sh, Ly, So, RT, TY, T3, R6, R7, HD, TC, Sb, TH, Tz, List.getElem?_cons_zero, List.getElem?_cons_succ, List.set_cons_zero, List.set_cons_succ, List.nil_append, List.cons_append, List.append_nil, if_true, if_false, reduceCtorEq, Int.reduceEq, Int.cast_ofNat_Int, Int.reduceLT, Int.reduceLE, not_true, Bool.not_true, Bool.not_false, Bool.not_eq_true'] | simp only [HC, Lx, HE, RN, TB, Sf, RX, Bool.false_eq_true, Bool.true_eq_false, not_false_eq_true, decide_eq_true_eq, decide_eq_false_iff_not, Bool.not_eq_true', if_true, if_false, not_true, reduceCtorEq, Int.reduceEq, Int.reduceLT, Int.reduceLE, Bool.not_true, Bool.not_false])
local macro_rules | `(tactic| walk_at "rd") => `(tactic| (walk_at "r1"; repeat walk_at "r1"))
local macro_rules | `(tactic| walk_at "go") => `(tactic| repeat (first | refine ZG (by assumption) rfl ?_ | refine ZZ (by assumption) rfl ?_ | refine Zj (by assumption) rfl ?_ | refine RU (by assumption) ?_ | refine ZL (by assumption) ?_ | refine Jn (TyOf.int _) (by rfl) ?_ | refine Se (by assumption) ?_ | refine Jn (TyOf.bl _) (by rfl) ?_ | walk_at "rd"))
theorem nwH {o:HO}(h:H p=none) (e:upd H p o=H1):Same H H1/\H1 p=some o:=by subst e;exact ⟨Qi h o,Qe⟩
structure Adr where
 dummy:Unit:=()
 bU:Addr
 bV:Addr
 bW:Addr
 bX:Addr
 bY:Addr
 bZ:Addr
 c4:Addr
 c6:Addr
 aD:Addr
 aB:Addr
 aA:Addr
 c7:Addr
 c8:Addr
 aE:Addr
 aR:Addr
 aL:Addr
 bK:Addr
 aZ:Addr
 bH:Addr
 bA:Addr
 bB:Addr
 bC:Addr
 bD:Addr
abbrev yK (K:W.Frag) (a b:Addr) (c:Bool):Prop:=W.kitOne K (.ref a) (.ref b)=some c
structure Tx (K:W.Frag) (mg:Str->Option Value) (t:Adr):Prop where
 gJ:mg "ValueError"=none
 cQ:mg "abs"=none
 cR:mg "all"=none
 gK:mg "any"=none
 cS:mg "bool"=none
 gL:mg "enumerate"=none
 cT:mg "int"=none
 aJ:mg "isinstance"=none
 aP:mg "len"=none
 aM:mg "list"=none
 dI:mg "max"=none
 aQ:mg "range"=none
 dJ:mg "sorted"=none
 dM:mg "str"=none
 gM:mg "sum"=none
 dN:mg "tuple"=none
 dO:mg "zip"=none
 gN:mg "HelpError"=some (.ref t.bU)
 gO:mg "NoAmount"=some (.ref t.bV)
 gP:mg "NoBend"=some (.ref t.bW)
 gQ:mg "NoPerson"=some (.ref t.bX)
 gR:mg "Unknown"=some (.ref t.bY)
 gS:mg "Twice"=some (.ref t.bZ)
 gT:mg "NoWord"=some (.ref t.c4)
 gU:mg "NoRow"=some (.ref t.c6)
 cU:mg "Tangled"=some (.ref t.aD)
 cV:mg "Jumps"=some (.ref t.aB)
 cW:mg "Widens"=some (.ref t.aA)
 gV:mg "TooMany"=some (.ref t.c7)
 gW:mg "NoNews"=some (.ref t.c8)
 gX:mg "Kind"=some (.ref t.aE)
 dP:mg "Cap"=some (.ref t.aR)
 gY:mg "Office"=some (.ref t.aL)
 gZ:mg "Base"=some (.ref t.bK)
 hJ:mg "Each"=some (.ref t.aZ)
 hU:mg "Rent"=some (.ref t.bH)
 hV:mg "From"=some (.ref t.bA)
 hX:mg "Upto"=some (.ref t.bB)
 bC:KTup K mg "NOUGHT" t.bC [.int 0,.int 1]
 bD:KTup K mg "ONE" t.bD [.int 1,.int 1]
 i7:W.exmOne K (.ref t.aD) (.ref t.aD)=some true
 i8:W.exmOne K (.ref t.aB) (.ref t.aD)=some false
 i9:W.exmOne K (.ref t.aB) (.ref t.aB)=some true
 iA:W.exmOne K (.ref t.aA) (.ref t.aD)=some false
 iB:W.exmOne K (.ref t.aA) (.ref t.aB)=some false
 iC:W.exmOne K (.ref t.aA) (.ref t.aA)=some true
 iD:yK K t.aD t.bV false
 iE:yK K t.aD t.bW false
 iF:yK K t.aD t.bX false
 iG:yK K t.aD t.bY false
 iH:yK K t.aD t.bZ false
 iI:yK K t.aD t.c4 false
 iJ:yK K t.aD t.c6 false
 iK:yK K t.aD t.aD true
 iL:yK K t.aD t.aB false
 iM:yK K t.aD t.aA false
 iN:yK K t.aD t.c7 false
 iO:yK K t.aD t.c8 false
 iP:yK K t.aD t.bU true
 iQ:yK K t.aB t.bV false
 iR:yK K t.aB t.bW false
 iS:yK K t.aB t.bX false
 iT:yK K t.aB t.bY false
 iV:yK K t.aB t.bZ false
 iW:yK K t.aB t.c4 false
 iX:yK K t.aB t.c6 false
 iY:yK K t.aB t.aD false
 iZ:yK K t.aB t.aB true
 j6:yK K t.aB t.aA false
 j7:yK K t.aB t.c7 false
 j8:yK K t.aB t.c8 false
 j9:yK K t.aB t.bU true
 jA:yK K t.aA t.bV false
 jB:yK K t.aA t.bW false
 jC:yK K t.aA t.bX false
 jD:yK K t.aA t.bY false
 jE:yK K t.aA t.bZ false
 jF:yK K t.aA t.c4 false
 jG:yK K t.aA t.c6 false
 jH:yK K t.aA t.aD false
 jI:yK K t.aA t.aB false
 jJ:yK K t.aA t.aA true
 jK:yK K t.aA t.c7 false
 jL:yK K t.aA t.c8 false
 jM:yK K t.aA t.bU true
 jN:W.kitOne K (.ref t.aD) (.type "ValueError")=some true
 jO:W.kitOne K (.ref t.aB) (.type "ValueError")=some true
 jP:W.kitOne K (.ref t.aA) (.type "ValueError")=some true
 dQ:Zi K t.aD
 dR:Zi K t.aB
 cX:Zi K t.aA
 aK:Cls K t.aE
 kN:IsC K t.aE
 c9:NoAttr K t.aE "title"
 jQ:NoAttr K t.aE "parts"
 jR:NoAttr K t.aE "terms"
 jS:NoAttr K t.aE "pays"
 cA:NoAttr K t.aE "counts"
 bM:NoAttr K t.aE "offs"
 dS:NoAttr K t.aE "limit"
 dU:NoAttr K t.aE "unit"
 jT:NoAttr K t.aE "way"
 cY:Cls K t.aR
 kO:IsC K t.aR
 jU:NoAttr K t.aR "limit"
 jV:NoAttr K t.aR "each"
 jW:NoAttr K t.aR "titles"
 aU:Cls K t.aL
 kP:IsC K t.aL
 bN:NoAttr K t.aL "kinds"
 jX:NoAttr K t.aL "caps"
 jY:Cls K t.bK
 kQ:IsC K t.bK
 jZ:NoAttr K t.bK "amount"
 cZ:Cls K t.aZ
 kR:IsC K t.aZ
 kA:NoAttr K t.aZ "amount"
 kC:NoAttr K t.aZ "low"
 kD:NoAttr K t.aZ "high"
 dW:Cls K t.bH
 kS:IsC K t.bH
 kE:NoAttr K t.bH "rate"
 kG:NoAttr K t.bH "most"
 d0:Cls K t.bA
 kT:IsC K t.bA
 kH:NoAttr K t.bA "many"
 kI:NoAttr K t.bA "low"
 kJ:NoAttr K t.bA "high"
 d9:Cls K t.bB
 kW:IsC K t.bB
 kK:NoAttr K t.bB "many"
 kL:NoAttr K t.bB "low"
 kM:NoAttr K t.bB "high"
 dA:WV K t.aD
 dB:NoAttr K t.aD "titles"
 dC:WV K t.aB
 dD:NoAttr K t.aB "titles"
 bO:WV K t.aA
 dE:NoAttr K t.aA "titles"
 dX:NoAttr K t.aA "pull"
local macro_rules | `(tactic| walk_at "sc") => `(tactic| exact ⟨rfl, rfl, rfl, by decide +kernel, rfl, by decide +kernel, by decide +kernel⟩)
theorem HF {φ}(vs:List V) (H:Hp) (Q:VK) (E:XK) (h:Rp1 φ vs H Q E):vs.length=1:=by
 obtain ⟨_,rfl,_⟩:=h;rfl
theorem SD {φ}(vs:List V) (H:Hp) (Q:VK) (E:XK) (h:Rp3 φ vs H Q E):vs.length=3:=by
 obtain ⟨_,_,_,rfl,_⟩:=h;rfl
theorem Wq {φ}(vs:List V) (H:Hp) (Q:VK) (E:XK) (h:Sp1 φ vs H Q E):vs.length=1:=by
 obtain ⟨_,rfl,_⟩:=h;rfl
theorem SB {φ}(vs:List V) (H:Hp) (Q:VK) (E:XK) (h:P9 φ vs H Q E):vs.length=10:=by
 obtain ⟨_,_,_,_,_,_,_,_,_,_,rfl,_⟩:=h;rfl
theorem ZV {φ}(vs:List V) (H:Hp) (Q:VK) (E:XK) (h:Sp2 φ vs H Q E):vs.length=2:=by
 obtain ⟨_,_,rfl,_⟩:=h;rfl
theorem VG {φ}(vs:List V) (H:Hp) (Q:VK) (E:XK) (h:Sp3 φ vs H Q E):vs.length=3:=by
 obtain ⟨_,_,_,rfl,_⟩:=h;rfl
theorem GL {φ}(vs:List V) (H:Hp) (Q:VK) (E:XK) (h:Sp4 φ vs H Q E):vs.length=4:=by
 obtain ⟨_,_,_,_,rfl,_⟩:=h;rfl
theorem Yy:Qn ["self","titles"] ["self","titles"] (Qh Zk):=by walk_at "sc"
theorem YU:Qn ["self","titles"] ["self","titles"] (Qh Zw):=by walk_at "sc"
theorem YF:Qn ["self","titles","pull"] ["self","titles","pull"] (Qh Zm):=by walk_at "sc"
theorem sc_common_divisor:Qn ["one","other","rest"] ["one","other"] (Qh Zv):=by walk_at "sc"
theorem sc_fraction:Qn ["top","bottom","divisor"] ["top","bottom"] (Qh XW):=by walk_at "sc"
theorem LO:Qn ["one","other"] ["one","other"] (Qh KI):=by walk_at "sc"
theorem sc_total_of:Qn ["ones","total","one"] ["ones"] (Qh XS):=by walk_at "sc"
theorem NQ:Qn ["one","other"] ["one","other"] (Qh W7):=by walk_at "sc"
theorem NR:Qn ["one","other"] ["one","other"] (Qh Jd):=by walk_at "sc"
theorem Uk:Qn ["one","other"] ["one","other"] (Qh Yu):=by walk_at "sc"
theorem sc_steps_from:Qn ["neighbours","starts","steps","start","waiting","name","neighbour"] ["neighbours","starts"] (Qh Z5):=by walk_at "sc"
theorem JT:Qn ["kind","title"] ["kind","title"] (Qh Z8):=by walk_at "sc"
theorem sc_leans:Qn ["office","leaning","kind"] ["office"] (Qh W9):=by walk_at "sc"
theorem sc_leads_to:Qn ["office","title","leaning"] ["office","title"] (Qh XT):=by walk_at "sc"
theorem sc_knots:Qn ["office","leads","title","found","knot"] ["office"] (Qh Jc):=by walk_at "sc"
theorem YT:Qn ["leaning","title","knot"] ["leaning","title","knot"] (Qh Zu):=by walk_at "sc"
theorem sc_is_free:Qn ["knot","leaning","placed","reckoned"] ["knot","leaning","placed"] (Qh Yt):=by walk_at "sc"
theorem sc_ring_from:Qn ["first","leaning","knot","titles","title"] ["first","leaning","knot"] (Qh Xo):=by walk_at "sc"
theorem sc_pull_of:Qn ["office","titles","pull","at","title","kind","counted"] ["office","titles"] (Qh Yl):=by walk_at "sc"
theorem sc_check_ring:Qn ["office","titles","pull","ring"] ["office","titles","pull"] (Qh Z9):=by walk_at "sc"
theorem sc_block_of:Qn ["office","knot","leaning","most","titles","pull"] ["office","knot","leaning"] (Qh XX):=by walk_at "sc"
theorem sc_order:Qn ["office","leaning","waiting","placed","blocks","knot"] ["office"] (Qh W8):=by walk_at "sc"
theorem Ui:Qn ["block"] ["block"] (Qh Ym):=by walk_at "sc"
theorem Wt:Qn ["self","title","parts","terms","pays","counts","offs","limit","unit","way"] ["self","title","parts","terms","pays","counts","offs","limit","unit","way"] (Qh QI):=by walk_at "sc"
theorem sc_Kind_greatest_rate:Qn ["self","most","off"] ["self"] (Qh Q6):=by walk_at "sc"
theorem W1:Qn ["self","limit","each","titles"] ["self","limit","each","titles"] (Qh ZO):=by walk_at "sc"
theorem YG:Qn ["self","kinds","caps"] ["self","kinds","caps"] (Qh Zn):=by walk_at "sc"
theorem sc_Office_kind:Qn ["self","title","one"] ["self","title"] (Qh ZY):=by walk_at "sc"
theorem W0:Qn ["self"] ["self"] (Qh ZN):=by walk_at "sc"
theorem Ww:Qn ["self","amount"] ["self","amount"] (Qh ZE):=by walk_at "sc"
theorem Wv:Qn ["self","amount","low","high"] ["self","amount","low","high"] (Qh ZD):=by walk_at "sc"
theorem Ws:Qn ["self","rate","most"] ["self","rate","most"] (Qh ZA):=by walk_at "sc"
theorem Wu:Qn ["self","many","low","high"] ["self","many","low","high"] (Qh ZC):=by walk_at "sc"
theorem Wr:Qn ["self","many","low","high"] ["self","many","low","high"] (Qh Zz):=by walk_at "sc"
theorem KH:Qn ["_law_script","_law_k"] ["_law_script","_law_k"] (Qh Xs):=by walk_at "sc"
theorem sc_l_divisor:Qn ["_law_one","_law_other"] ["_law_one","_law_other"] (Qh Xr):=by walk_at "sc"
theorem sc_l_low:Qn ["_law_top","_law_bottom","_law_by"] ["_law_top","_law_bottom"] (Qh Ja):=by walk_at "sc"
theorem sc_l_names:Qn ["_law_cell","_law_letters","_law_size","_law_at","_law_word","_law_names_here","_law_k","_law_name","_law_j","_law_step"] ["_law_cell"] (Qh Yq):=by walk_at "sc"
theorem GM:Qn ["_law_cell","_law_calm"] ["_law_cell","_law_calm"] (Qh YW):=by walk_at "sc"
theorem sc_l_offs:Qn ["_law_cell","_law_calm","_law_offs_here","_law_limit","_law_k"] ["_law_cell","_law_calm"] (Qh YY):=by walk_at "sc"
theorem sc_l_segments:Qn ["_law_script","_law_many","_law_ranked","_law_found","_law_cell","_law_size"] ["_law_script","_law_many"] (Qh Z6):=by walk_at "sc"
theorem sc_l_earlier:Qn ["_law_script","_law_k","_law_earlier_here","_law_names_here","_law_counts","_law_j","_law_number"] ["_law_script","_law_k","_law_earlier_here","_law_names_here"] (Qh Xq):=by walk_at "sc"
theorem GN:Qn ["_law_cell"] ["_law_cell"] (Qh Y2):=by walk_at "sc"
theorem sc_l_free:Qn ["_law_script","_law_many","_law_names_here","_law_rows","_law_k","_law_counts","_law_cell","_law_t","_law_j","_law_limit","_law_unit"] ["_law_script","_law_many","_law_names_here"] (Qh Y3):=by walk_at "sc"
theorem sc_l_planted:Qn ["_law_script","_law_many","_law_names_here","_law_calm","_law_rows","_law_earlier_here","_law_ring","_law_part","_law_at","_law_k","_law_counts","_law_beyond","_law_place","_law_limit","_law_unit"] ["_law_script","_law_many","_law_names_here","_law_calm"] (Qh Xp):=by walk_at "sc"
theorem sc_l_kind:Qn ["_law_row","_law_number","_law_parts","_law_terms","_law_pays","_law_way"] ["_law_row","_law_number"] (Qh Y0):=by walk_at "sc"
theorem sc_l_office:Qn ["_law_rows","_law_cell","_law_by","_law_kinds","_law_k","_law_titles","_law_caps"] ["_law_rows","_law_cell"] (Qh XU):=by walk_at "sc"
theorem sc_l_reach:Qn ["_law_rows","_law_title","_law_counted","_law_row","_law_known","_law_k","_law_other","_law_beyond"] ["_law_rows","_law_title"] (Qh Yp):=by walk_at "sc"
theorem Uj:Qn ["_law_one","_law_other"] ["_law_one","_law_other"] (Qh Yn):=by walk_at "sc"
theorem sc_l_greatest:Qn ["_law_offs_here","_law_most","_law_limit","_law_rate_here"] ["_law_offs_here"] (Qh Z7):=by walk_at "sc"
theorem sc_l_pull:Qn ["_law_table","_law_ring","_law_pull_here","_law_title","_law_beyond","_law_row","_law_share"] ["_law_table","_law_ring"] (Qh YX):=by walk_at "sc"
theorem sc_l_shape:Qn ["_law_block_here","_law_pull_here"] ["_law_block_here"] (Qh Yo):=by walk_at "sc"
theorem sc_l_just:Qn ["_law_e","_law_flags"] ["_law_e"] (Qh Y1):=by walk_at "sc"
theorem sc_l_told:Qn ["_law_office_here","_law_found","_law_e"] ["_law_office_here"] (Qh YV):=by walk_at "sc"
theorem sc_l_knots:Qn ["_law_rows","_law_titles","_law_reach_here","_law_title","_law_parts","_law_knot"] ["_law_rows"] (Qh Yr):=by walk_at "sc"
theorem sc_l_next:Qn ["_law_parts","_law_table","_law_placed","_law_knot","_law_free_here","_law_title","_law_other","_law_rate_here"] ["_law_parts","_law_table","_law_placed"] (Qh YZ):=by walk_at "sc"
theorem sc_l_block:Qn ["_law_knot","_law_table","_law_within","_law_title","_law_most","_law_ring","_law_k","_law_pull_here"] ["_law_knot","_law_table"] (Qh Ys):=by walk_at "sc"
theorem sc_l_due:Qn ["_law_rows","_law_table","_law_parts","_law_placed","_law_blocks","_law_turn","_law_knot","_law_told_here"] ["_law_rows","_law_table"] (Qh Jb):=by walk_at "sc"
theorem sc_law:Qn ["_law_script","_law_cell","_law_many","_law_names_here","_law_rows","_law_table","_law_row","_law_office_here","_law_due_here","_law_told_here","_law_kind_here","_law_block_here","_law_tight"] ["_law_script"] (Qh Jr):=by walk_at "sc"
section
variable {P:Program} {w:World} {K:W.Frag} {mg:Str->Option Value} {base:Heap} {t:Adr}
seal PSs PS PE PA PI
local macro_rules | `(tactic| walk_at "dg") => `(tactic| ((try simp only [M4, d_ni', M6, M3, M5, M7, M1]); walk_at "go"))
theorem Zg (f:Str) (v:V):∀ fs:List (Str×V),(Q5 f v fs).length<=fs.length+1
 | []=>Ft _
 | (g,x) :: r=>by
  unfold Q5;split
  ·simp
  ·have:=Zg f v r;simp;omega
structure Rw where
 nm:Str
 cs:List (Str×Rat)
 os:List (Int×Rat)
 lm:Option Int
 un:Option Int
variable {rs:List Rw}
def oV:Option Int->V
 | none=>.non
 | some i=>.int i
def Cp (K:W.Frag) (H:Hp) (c:Str×Rat) (v:V):Prop:=∃ p z,v=.ref p/\SqT K H p [.str c.1,z]/\Fq K H c.2 z
theorem Cp.same {c:Str×Rat}(h:Cp K H c v) (g:Same H H'):Cp K H' c v:=by
 obtain ⟨p,z,e,h1,h2⟩:=h;exact ⟨p,z,e,g.sqT h1,h2.same g⟩
def Cl (K:W.Frag) (H:Hp) (cs:List (Str×Rat)) (l:Addr):Prop:=∃ vs,H l=some (.lst vs)/\All2 (Cp K H) cs vs
theorem Cl.same (h:Cl K H cs l) (g:Same H H'):Cl K H' cs l:=by
 obtain ⟨vs,h1,h2⟩:=h;exact ⟨vs,g _ _ h1,h2.imp fun _ _ z=>z.same g⟩
def Ol (K:W.Frag) (H:Hp) (os:List (Int×Rat)) (l:Addr):Prop:=∃ vs,H l=some (.lst vs)/\All2 (Fp K H) os vs
theorem Ol.same (h:Ol K H os l) (g:Same H H'):Ol K H' os l:=by
 obtain ⟨vs,h1,h2⟩:=h;exact ⟨vs,g _ _ h1,h2.imp fun _ _ z=>z.same g⟩
def Rr (K:W.Frag) (H:Hp) (r:Rw) (v:V):Prop:=∃ p lc lo,v=.ref p/\SqT K H p [.str r.nm,.ref lc,.ref lo,oV r.lm,oV r.un]/\Cl K H r.cs lc/\Ol K H r.os lo
theorem Rr.same {r:Rw}(h:Rr K H r v) (g:Same H H'):Rr K H' r v:=by
 obtain ⟨p,lc,lo,e,h1,h2,h3⟩:=h;exact ⟨p,lc,lo,e,g.sqT h1,h2.same g,h3.same g⟩
def Kn (K:W.Frag) (C:Addr) (H:Hp) (r:Rw) (v:V):Prop:=∃ p dx fs lc lo,v=.ref p/\H p=some (.ins C dx fs)/\fs.lookup (Str.ofString "title")=some (.str r.nm)/\fs.lookup (Str.ofString "counts")=some (.ref lc)/\fs.lookup (Str.ofString "offs")=some (.ref lo)/\fs.lookup (Str.ofString "limit")=some (oV r.lm)/\(fs.lookup (Str.ofString "unit")=some (oV r.un)/\fs.lookup (Str.ofString "greatest_rate")=none)/\Cl K H r.cs lc/\Ol K H r.os lo
theorem Kn.same {r:Rw}(h:Kn K C H r v) (g:Same H H'):Kn K C H' r v:=by
 obtain ⟨p,dx,fs,lc,lo,e,h1,h2,h3,h4,h5,h6,h7,h8⟩:=h;exact ⟨p,dx,fs,lc,lo,e,g _ _ h1,h2,h3,h4,h5,h6,h7.same g,h8.same g⟩
def Of (K:W.Frag) (t:Adr) (H:Hp) (rs:List Rw) (p:Addr):Prop:=∃ dx fs lk vs,H p=some (.ins t.aL dx fs)/\fs.lookup (Str.ofString "kinds")=some (.ref lk)/\H lk=some (.lst vs)/\All2 (Kn K t.aE H) rs vs/\(fs.lookup (Str.ofString "named")=none/\fs.lookup (Str.ofString "kind")=none)
theorem Of.same {t:Adr}(h:Of K t H rs p) (g:Same H H'):Of K t H' rs p:=by
 obtain ⟨dx,fs,lk,vs,h1,h2,h3,h4,h5⟩:=h;exact ⟨dx,fs,lk,vs,g _ _ h1,h2,g _ _ h3,h4.imp fun _ _ z=>z.same g,h5⟩
def Oth (p:Addr) (H H':Hp):Prop:=∀ c u,c≠p->H c=some u->H' c=some u
theorem Oth.refl (p:Addr) (H:Hp):Oth p H H:=fun _ _ _ h=>h
theorem Oth.put {o:HO}(h:Oth p H H'):Oth p H (upd H' p o):=fun c u e k=>by rw [Qj e];exact h c u e k
theorem Oth.new {o:HO}(h:Oth p H H') (hl:H' l=none):Oth p H (upd H' l o):=fun c u e k=>(Qi hl o) _ _ (h c u e k)
inductive φone (C:Addr) (x y:V) (H:Hp) (Q:VK):Prop
 | mk (p dx:Addr) (h1:x=.ref p) (h2:H p=some (.ins C dx [])) (h3:∀ H',Oth p H H'->Q .non H'):φone C x y H Q
inductive φtwo (C:Addr) (x y z:V) (H:Hp) (Q:VK):Prop
 | mk (p dx:Addr) (h1:x=.ref p) (h2:H p=some (.ins C dx [])) (h3:∀ H',Oth p H H'->Q .non H'):φtwo C x y z H Q
inductive φthree (C:Addr) (x y z u:V) (H:Hp) (Q:VK):Prop
 | mk (p dx:Addr) (h1:x=.ref p) (h2:H p=some (.ins C dx [])) (h3:∀ H',Oth p H H'->Q .non H'):φthree C x y z u H Q
inductive φcapI (K:W.Frag) (C:Addr) (x y z u:V) (H:Hp) (Q:VK):Prop
 | mk (p dx l:Addr) (vs:List V) (h1:x=.ref p) (h2:H p=some (.ins C dx [])) (h4:u=.ref l) (h5:H l=some (.lst vs)) (h3:∀ H',Oth p H H'->Q .non H'):φcapI K C x y z u H Q
inductive φoffI (K:W.Frag) (C:Addr) (x y z:V) (H:Hp) (Q:VK):Prop
 | mk (p dx l l2:Addr) (vs us:List V) (h1:x=.ref p) (h2:H p=some (.ins C dx [])) (h4:y=.ref l) (h5:H l=some (.lst vs)) (h6:z=.ref l2) (h7:H l2=some (.lst us))
   (h3:∀ H' fs lk,Oth p H H'->H' p=some (.ins C dx fs)->fs.lookup (Str.ofString "kinds")=some (.ref lk)->H' lk=some (.lst vs)->lk≠p->(fs.lookup (Str.ofString "named")=none/\fs.lookup (Str.ofString "kind")=none)->Q .non H'):φoffI K C x y z H Q
inductive φkindI (K:W.Frag) (C:Addr) (x nm pa te py co of li un wa:V) (H:Hp) (Q:VK):Prop
 | mk (p dx l1 l2 l3 l4 l5:Addr) (v1 v2 v3 v4 v5:List V) (h1:x=.ref p) (h2:H p=some (.ins C dx [])) (e1:pa=.ref l1) (k1:H l1=some (.lst v1)) (e2:te=.ref l2) (k2:H l2=some (.lst v2)) (e3:py=.ref l3) (k3:H l3=some (.lst v3)) (e4:co=.ref l4) (k4:H l4=some (.lst v4)) (e5:of=.ref l5) (k5:H l5=some (.lst v5))
   (h3:∀ H' fs lc lo,Oth p H H'->H' p=some (.ins C dx fs)->fs.lookup (Str.ofString "title")=some nm->fs.lookup (Str.ofString "counts")=some (.ref lc)->fs.lookup (Str.ofString "offs")=some (.ref lo)->fs.lookup (Str.ofString "limit")=some li->(fs.lookup (Str.ofString "unit")=some un/\fs.lookup (Str.ofString "greatest_rate")=none)->H' lc=some (.lst v4)->lc≠p->H' lo=some (.lst v5)->lo≠p->H lc=none->H lo=none->Q .non H'):φkindI K C x nm pa te py co of li un wa H Q
inductive φnamed (K:W.Frag) (t:Adr) (x:V) (H:Hp) (Q:VK):Prop
 | mk (p:Addr) (rs:List Rw) (h1:x=.ref p) (h2:Of K t H rs p) (h3:rs.length<=60) (h4:∀ q H',Same H H'->H q=none->H' q=some (.lst ((rs.map (·.nm)).map V.str))->Q (.ref q) H'):φnamed K t x H Q
def YQ (H':Hp) (rs:List Rw) (kvs:List (Key×V)):Prop:=kvs.length=rs.length/\∀ (i:Nat) r,rs[i]?=some r->∃ l,kvs[i]?=some (Sum.inr r.nm,.ref l)/\H' l=some (.lst (r.cs.map fun c=>V.str c.1))
inductive φleans (K:W.Frag) (t:Adr) (x:V) (H:Hp) (Q:VK):Prop
 | mk (p:Addr) (rs:List Rw) (h1:x=.ref p) (h2:Of K t H rs p) (h3:(rs.map (·.nm)).Nodup) (h4:rs.length<=60) (h5:∀ r∈rs,r.cs.length<=60)
   (h6:∀ d kvs H',H d=none->Same H H'->H' d=some (.dK kvs)->YQ H' rs kvs->(∀ kv∈kvs,∃ l,kv.2=.ref l/\H l=none)->Q (.ref d) H'):φleans K t x H Q
theorem Xl {fs:List (Str×V)}{f:Str}(h:fs.length<=n):(Q5 f v fs).length<=n+1:=FQ (Zg _ _ _) (Nat.succ_le_succ h)
theorem WG (T:Tx K mg t) (F:Fun K "__init__" "Base.__init__" ZE f fd):FnOk P w K mg base CX0 1 f fd ["self","amount"] (Sp2 (φone t.bK)):=by
 refine F.ok Ww ZV (fun cdv A outer s H vs Q E hr h=>?_);obtain ⟨_,_,rfl,p,dx,rfl,hp,q⟩:=h;refine ⟨_,((Qf (QM K rfl (pu 0) (pu 1)))),?_⟩;walk_at "go";exact X8 hp T.jY T.jZ (by decide) (q _ (Oth.refl p H).put)
theorem WB (T:Tx K mg t) (F:Fun K "__init__" "Rent.__init__" ZA f fd):FnOk P w K mg base CX0 1 f fd ["self","rate","most"] (Sp3 (φtwo t.bH)):=by
 refine F.ok Ws VG (fun cdv A outer s H vs Q E hr h=>?_);obtain ⟨_,_,_,rfl,p,dx,rfl,hp,q⟩:=h;refine ⟨_,((Qc (QM K rfl (pu 0) (pu 1))
   (Qf (QM K rfl (pu 0) (pu 2))))),?_⟩
 walk_at "go";refine X8 hp T.dW T.kE (by decide) ?_;walk_at "go";exact X8 Qe T.dW T.kG (Ep (Zg _ _ _) (by decide)) (q _ (Oth.refl p H).put.put)
theorem WE (T:Tx K mg t) (F:Fun K "__init__" "Each.__init__" ZD f fd):FnOk P w K mg base CX0 1 f fd ["self","amount","low","high"] (Sp4 (φthree t.aZ)):=by
 refine F.ok Wv GL (fun cdv A outer s H vs Q E hr h=>?_);obtain ⟨_,_,_,_,rfl,p,dx,rfl,hp,q⟩:=h;refine ⟨_,((Qc (QM K rfl (pu 0) (pu 1))
   (Qc (QM K rfl (pu 0) (pu 2))
   (Qf (QM K rfl (pu 0) (pu 3)))))),?_⟩
 walk_at "go";refine X8 hp T.cZ T.kA (by decide) ?_;walk_at "go";refine X8 Qe T.cZ T.kC (Ep (Zg _ _ _) (by decide)) ?_;walk_at "go";exact X8 Qe T.cZ T.kD (Ep (Xl (Zg _ _ _)) (by decide)) (q _ (Oth.refl p H).put.put.put)
theorem WD (T:Tx K mg t) (F:Fun K "__init__" "From.__init__" ZC f fd):FnOk P w K mg base CX0 1 f fd ["self","many","low","high"] (Sp4 (φthree t.bA)):=by
 refine F.ok Wu GL (fun cdv A outer s H vs Q E hr h=>?_);obtain ⟨_,_,_,_,rfl,p,dx,rfl,hp,q⟩:=h;refine ⟨_,((Qc (QM K rfl (pu 0) (pu 1))
   (Qc (QM K rfl (pu 0) (pu 2))
   (Qf (QM K rfl (pu 0) (pu 3)))))),?_⟩
 walk_at "go";refine X8 hp T.d0 T.kH (by decide) ?_;walk_at "go";refine X8 Qe T.d0 T.kI (Ep (Zg _ _ _) (by decide)) ?_;walk_at "go";exact X8 Qe T.d0 T.kJ (Ep (Xl (Zg _ _ _)) (by decide)) (q _ (Oth.refl p H).put.put.put)
theorem WA (T:Tx K mg t) (F:Fun K "__init__" "Upto.__init__" Zz f fd):FnOk P w K mg base CX0 1 f fd ["self","many","low","high"] (Sp4 (φthree t.bB)):=by
 refine F.ok Wr GL (fun cdv A outer s H vs Q E hr h=>?_);obtain ⟨_,_,_,_,rfl,p,dx,rfl,hp,q⟩:=h;refine ⟨_,((Qc (QM K rfl (pu 0) (pu 1))
   (Qc (QM K rfl (pu 0) (pu 2))
   (Qf (QM K rfl (pu 0) (pu 3)))))),?_⟩
 walk_at "go";refine X8 hp T.d9 T.kK (by decide) ?_;walk_at "go";refine X8 Qe T.d9 T.kL (Ep (Zg _ _ _) (by decide)) ?_;walk_at "go";exact X8 Qe T.d9 T.kM (Ep (Xl (Zg _ _ _)) (by decide)) (q _ (Oth.refl p H).put.put.put)
theorem Z2 (h:H p=some (.lst ys)) (q:∀ l,H l=none->Q (.ref l) (upd H l (.lst ys))):KQ K [.ref p] H Q:=⟨p,ys,rfl,.inl (SqL.of h),q⟩
theorem Vb {fs:List (Str×V)}(h:H p=some (.ins C dx fs)) (k:H l=some (.lst vs)):l≠p:=fun e=>by rw [e,h] at k;cases k
theorem QD {o:HO}(h:H p=some o) (k:H l=none):l≠p:=fun e=>by rw [e,h] at k;cases k
theorem W3 (T:Tx K mg t) (F:Fun K "__init__" "Cap.__init__" ZO f fd):FnOk P w K mg base CX0 1 f fd ["self","limit","each","titles"] (Sp4 (φcapI K t.aR)):=by
 refine F.ok W1 GL (fun cdv A outer s H vs Q E hr h=>?_);obtain ⟨_,_,_,_,rfl,p,dx,l,vs,rfl,hp,rfl,kl,q⟩:=h;refine ⟨_,((Qc (QM K rfl (pu 0) (pu 1))
   (Qc (QM K rfl (pu 0) (pu 2))
   (Qf (QM K rfl (pu 0) (QJ (Zf K rfl) (by rfl) T.aM Eg (Qa (pu 3) Qd))))))),?_⟩
 have lp:=Vb hp kl;walk_at "go";refine X8 hp T.cY T.jU (by decide) ?_;walk_at "go";refine X8 Qe T.cY T.jV (Ep (Zg _ _ _) (by decide)) ?_;walk_at "go";walk_at "dg";refine Z2 (by rw [Qj lp,Qj lp];exact kl) fun l' hl'=>?_
 have h1:=(Oth.refl p H).put (o:=.ins t.aR dx (Q5 (Str.ofString "limit") _ [])) |>.put (o:=.ins t.aR dx _) |>.new (o:=.lst vs) hl'
 have np:=QD Qe hl';refine ⟨p,t.aR,dx,_,rfl,by rw [Qj np.symm];exact Qe,T.cY,T.jW,Ep (Xl (Zg _ _ _)) (by decide),q _ h1.put⟩
theorem YJ (T:Tx K mg t) (F:Fun K "__init__" "Office.__init__" Zn f fd):FnOk P w K mg base CX0 1 f fd ["self","kinds","caps"] (Sp3 (φoffI K t.aL)):=by
 refine F.ok YG VG (fun cdv A outer s H vs Q E hr h=>?_);obtain ⟨_,_,_,rfl,p,dx,l,l2,vs,us,rfl,hp,rfl,kl,rfl,kl2,q⟩:=h;refine ⟨_,((Qc (QM K rfl (pu 0) (QJ (Zf K rfl) (by rfl) T.aM Eg (Qa (pu 1) Qd)))
   (Qf (QM K rfl (pu 0) (QJ (Zf K rfl) (by rfl) T.aM Eg (Qa (pu 2) Qd)))))),?_⟩
 have lp:=Vb hp kl;have lp2:=Vb hp kl2;walk_at "go";walk_at "dg";refine Z2 kl fun l' hl'=>?_
 have h1:=(Oth.refl p H).new (o:=.lst vs) hl';have np:=QD hp hl';refine ⟨p,t.aL,dx,_,rfl,by rw [Qj np.symm];exact hp,T.aU,T.bN,by decide,?_⟩;have h2:=h1.put (o:=.ins t.aL dx (Q5 (Str.ofString "kinds") (.ref l') []));have k2:(upd (upd H l' (.lst vs)) p (.ins t.aL dx (Q5 (Str.ofString "kinds") (.ref l') []))) p=some (.ins t.aL dx (Q5 (Str.ofString "kinds") (.ref l') [])):=Qe;have k3:(upd (upd H l' (.lst vs)) p (.ins t.aL dx (Q5 (Str.ofString "kinds") (.ref l') []))) l'=some (.lst vs):=by rw [Qj np];exact Qe
 generalize upd (upd H l' (.lst vs)) p (.ins t.aL dx (Q5 (Str.ofString "kinds") (.ref l') []))=H2 at *;walk_at "dg";refine Z2 (h2 _ _ lp2 kl2) fun l3 hl3=>?_
 have np3:=QD k2 hl3;have np4:=QD k3 hl3;refine ⟨p,t.aL,dx,_,rfl,by rw [Qj np3.symm];exact k2,T.aU,T.jX,Ep (Zg _ _ _) (by decide),?_⟩;refine q _ _ l' (h2.new (o:=.lst us) hl3).put Qe ?_ (by rw [Qj np,Qj np4.symm];exact k3) np ?_
 ·rw [Qm,Fl (by decide +kernel),Qm,Fs rfl]
 ·exact ⟨by rw [Qm,Fl (by decide +kernel),Qm,Fl (by decide +kernel)];rfl,by rw [Qm,Fl (by decide +kernel),Qm,Fl (by decide +kernel)];rfl⟩
theorem Z3 (hk:kvs.map (·.1)=nms.map Sum.inr) {z:Str}(hz:z ∉ nms):Zd kvs (Sum.inr z:Key)=none:=by
 cases q:Zd kvs (Sum.inr z:Key) with
 | none=>rfl
 | some v=>
  have:=U1 q;rw [hk] at this;obtain ⟨y,hy,e⟩:=FK.mp this;cases e;exact absurd hy hz
theorem Xv {f:α->β}{l:List α}(nd:(l.map f).Nodup) {i:Nat}{x:α}(h:l[i]?=some x):f x ∉ (l.take i).map f:=by
 intro hm;obtain ⟨y,hy,e⟩:=FK.mp hm;obtain ⟨j,hj,ey⟩:=List.mem_iff_getElem.mp hy;rw [FX] at hj;have hi:=Qw h;have ex:l[i]'hi=x:=FF ((Fu hi).symm.trans h);rw [List.getElem_take] at ey;have:j=i:=(List.getElem_inj (h₀:=by rw [Fo];omega) (h₁:=by rw [Fo];exact hi) nd).mp (by rw [Di,Di,ey,ex,e]);omega
theorem V2 {H0:Hp}{f:Str}{fs:List (Str×V)}(ot:Oth p H0 H) (hp:H p=some (.ins C dx fs)) (hp0:H0 p=some (.ins C dx [])) (kl:H0 l=some (.lst vs)) {Q:Hp->Prop}(c:Cls K C) (n:NoAttr K C f) (hl:fs.length<1000)
  (q:∀ l' H',H0 l'=none->Oth p H0 H'->Oth p H H'->H' p=some (.ins C dx (Q5 f (.ref l') fs))->H' l'=some (.lst vs)->l'≠p->Q H') :
  KQ K [.ref l] H fun x H1=>∃ a C' dx' fs',V.ref p=.ref a/\H1 a=some (.ins C' dx' fs')/\Cls K C'/\NoAttr K C' f/\fs'.length<1000/\Q (upd H1 a (.ins C' dx' (Q5 f x fs'))):=by
 refine Z2 (ot _ _ (Vb hp0 kl) kl) fun l' hl'=>?_
 have np:=QD hp hl';exact ⟨p,C,dx,fs,rfl,by rw [Qj np.symm];exact hp,c,n,hl,q l' _ (by cases e:H0 l' with | none=>rfl | some u=>rw [ot _ _ np e] at hl';cases hl') (ot.new hl').put ((Oth.refl p H).new hl').put Qe (by rw [Qj np];exact Qe) np⟩
def kF (xtitle xparts xterms xpays xcounts xoffs xlimit xunit xway:V):List (Str×V):=Q5 (Str.ofString "way") xway (Q5 (Str.ofString "unit") xunit (Q5 (Str.ofString "limit") xlimit (Q5 (Str.ofString "offs") xoffs (Q5 (Str.ofString "counts") xcounts (Q5 (Str.ofString "pays") xpays (Q5 (Str.ofString "terms") xterms (Q5 (Str.ofString "parts") xparts (Q5 (Str.ofString "title") xtitle []))))))))
theorem HR (xtitle xparts xterms xpays xcounts xoffs xlimit xunit xway:V):(kF xtitle xparts xterms xpays xcounts xoffs xlimit xunit xway).lookup (Str.ofString "title")=some xtitle/\(kF xtitle xparts xterms xpays xcounts xoffs xlimit xunit xway).lookup (Str.ofString "counts")=some xcounts/\(kF xtitle xparts xterms xpays xcounts xoffs xlimit xunit xway).lookup (Str.ofString "offs")=some xoffs/\(kF xtitle xparts xterms xpays xcounts xoffs xlimit xunit xway).lookup (Str.ofString "limit")=some xlimit/\((kF xtitle xparts xterms xpays xcounts xoffs xlimit xunit xway).lookup (Str.ofString "unit")=some xunit/\(kF xtitle xparts xterms xpays xcounts xoffs xlimit xunit xway).lookup (Str.ofString "greatest_rate")=none):=by
 unfold kF;refine ⟨?_,?_,?_,?_,?_⟩
 ·rw [Qm,Fl (by decide +kernel),Qm,Fl (by decide +kernel),Qm,Fl (by decide +kernel),Qm,Fl (by decide +kernel),Qm,Fl (by decide +kernel),Qm,Fl (by decide +kernel),Qm,Fl (by decide +kernel),Qm,Fl (by decide +kernel),Qm,Fs rfl]
 ·rw [Qm,Fl (by decide +kernel),Qm,Fl (by decide +kernel),Qm,Fl (by decide +kernel),Qm,Fl (by decide +kernel),Qm,Fs rfl]
 ·rw [Qm,Fl (by decide +kernel),Qm,Fl (by decide +kernel),Qm,Fl (by decide +kernel),Qm,Fs rfl]
 ·rw [Qm,Fl (by decide +kernel),Qm,Fl (by decide +kernel),Qm,Fs rfl]
 ·exact ⟨by rw [Qm,Fl (by decide +kernel),Qm,Fs rfl],by rw [Qm,Fl (by decide +kernel),Qm,Fl (by decide +kernel),Qm,Fl (by decide +kernel),Qm,Fl (by decide +kernel),Qm,Fl (by decide +kernel),Qm,Fl (by decide +kernel),Qm,Fl (by decide +kernel),Qm,Fl (by decide +kernel),Qm,Fl (by decide +kernel)];rfl⟩
theorem WC (T:Tx K mg t) (F:FunD K "__init__" "Kind.__init__" QI f fd):FnOk P w K mg base CX0 1 f fd ["self","title","parts","terms","pays","counts","offs","limit","unit","way"] (P9 (φkindI K t.aE)):=by
 refine F.ok Wt SB (fun cdv A outer s H vs Q E hr h=>?_);obtain ⟨_,nm,_,_,_,_,_,li,un,wa,rfl,p,dx,l1,l2,l3,l4,l5,v1,v2,v3,v4,v5,rfl,hp,rfl,k1,rfl,k2,rfl,k3,rfl,k4,rfl,k5,q⟩:=h;refine ⟨_,((Qc (QM K rfl (pu 0) (pu 1))
   (Qc (QM K rfl (pu 0) (QJ (Zf K rfl) (by rfl) T.aM Eg (Qa (pu 2) Qd)))
   (Qc (QM K rfl (pu 0) (QJ (Zf K rfl) (by rfl) T.aM Eg (Qa (pu 3) Qd)))
   (Qc (QM K rfl (pu 0) (QJ (Zf K rfl) (by rfl) T.aM Eg (Qa (pu 4) Qd)))
   (Qc (QM K rfl (pu 0) (QJ (Zf K rfl) (by rfl) T.aM Eg (Qa (pu 5) Qd)))
   (Qc (QM K rfl (pu 0) (QJ (Zf K rfl) (by rfl) T.aM Eg (Qa (pu 6) Qd)))
   (Qc (QM K rfl (pu 0) (pu 7))
   (Qc (QM K rfl (pu 0) (pu 8))
   (Qf (QM K rfl (pu 0) (pu 9)))))))))))),?_⟩
 walk_at "go";refine X8 hp T.aK T.c9 (by decide) ?_;have o1:=(Oth.refl p H).put (o:=.ins t.aE dx (Q5 (Str.ofString "title") nm []));have i1:(upd H p (.ins t.aE dx (Q5 (Str.ofString "title") nm []))) p=some (.ins t.aE dx (Q5 (Str.ofString "title") nm [])):=Qe;have z1:(Q5 (Str.ofString "title") nm []).length<=1:=Zg _ _ _;generalize upd H p (.ins t.aE dx (Q5 (Str.ofString "title") nm []))=H1 at *;walk_at "go";walk_at "dg";refine V2 o1 i1 hp k1 T.aK T.jQ (by omega) fun m1 H2 fr1 o2 t2 i2 j1 np1=>?_
 have z2:=Xl (f:=Str.ofString "parts") (v:=.ref m1) z1;walk_at "go";walk_at "dg";refine V2 o2 i2 hp k2 T.aK T.jR (by omega) fun m2 H3 fr2 o3 t3 i3 j2 np2=>?_
 have z3:=Xl (f:=Str.ofString "terms") (v:=.ref m2) z2;walk_at "go";walk_at "dg";refine V2 o3 i3 hp k3 T.aK T.jS (by omega) fun m3 H4 fr3 o4 t4 i4 j3 np3=>?_
 have z4:=Xl (f:=Str.ofString "pays") (v:=.ref m3) z3;walk_at "go";walk_at "dg";refine V2 o4 i4 hp k4 T.aK T.cA (by omega) fun m4 H5 fr4 o5 t5 i5 j4 np4=>?_
 have z5:=Xl (f:=Str.ofString "counts") (v:=.ref m4) z4;walk_at "go";walk_at "dg";refine V2 o5 i5 hp k5 T.aK T.bM (by omega) fun m5 H6 fr5 o6 t6 i6 j5 np5=>?_
 have z6:=Xl (f:=Str.ofString "offs") (v:=.ref m5) z5;walk_at "go";refine X8 i6 T.aK T.dS (by omega) ?_;have z7:=Xl (f:=Str.ofString "limit") (v:=li) z6;walk_at "go";refine X8 Qe T.aK T.dU (by omega) ?_;have z8:=Xl (f:=Str.ofString "unit") (v:=un) z7;walk_at "go";refine X8 Qe T.aK T.jT (by omega) ?_;obtain ⟨e1,e2,e3,e4,e5⟩:=HR nm (.ref m1) (.ref m2) (.ref m3) (.ref m4) (.ref m5) li un wa;exact q _ _ m4 m5 o6.put.put.put Qe e1 e2 e3 e4 e5 (by rw [Qj np4,Qj np4,Qj np4];exact t6 _ _ np4 j4) np4 (by rw [Qj np5,Qj np5,Qj np5];exact j5) np5 fr4 fr5
theorem Mj (T:Tx K mg t) (F:Fun K "leans" "leans" W9 f fd):FnOk P w K mg base CX0 1 f fd ["office"] (Sp1 (φleans K t)):=by
 refine F.ok sc_leans Wq (fun cdv A outer s H vs Q E hr h=>?_);obtain ⟨_,rfl,p,rs,rfl,⟨dx,fs,lk,vs,hp,hf,hk,hA,_⟩,nd,rl,cl,q⟩:=h;have hvl:=hA.1;refine ⟨_,((Qc (Qk (i:=1) sc_leans.nd rfl (Or.inl rfl) Z0)
   (Qc (QG FL rfl (piK K rfl (Ze K rfl (pu 0))) (Ql (i:=2) sc_leans.nd rfl (Or.inl rfl))
   (Qf (Xb (Q9 hr) (pu 1) (Ze K rfl (pu 2)) (XM (N:=["title","rate"]) (caps:=[none,none]) rfl ZR (piK K rfl (Ze K rfl (pu 2))) (fun _ _ _ _=>pgK (n:=2) K rfl rfl (QA (Ql (i:=0) (show (["title","rate"]:List Str).Nodup by decide +kernel) rfl (Or.inl rfl) (.inr rfl)) (QA (Ql (i:=1) (show (["title","rate"]:List Str).Nodup by decide +kernel) rfl (Or.inl rfl) (.inr rfl)) Q7))) (fun _ _ _ _=>QW) (fun _ _ _ _=>(pu 0))) rfl)))
   (Qf (Qr (pu 1)))))),?_⟩
 walk_at "go";walk_at "dg";intro d hd;generalize e_g1:upd H d _=H1 at *;obtain ⟨g1,k1⟩:=nwH hd e_g1;refine ⟨p,_,dx,fs,_,rfl,g1 _ _ hp,T.aU,T.bN,hf,lk,rfl,⟨_,SqL.of (g1 _ _ hk)⟩,?_⟩;refine Xn (xs:=vs) (fun i σ' H'=>∃ (kvs:List (Key×V)) (x2:Option V),σ'=[some (.ref p),some (.ref d),x2]/\Same H H'/\H' d=some (.dK kvs)/\YQ H' (rs.take i) kvs/\∀ kv∈kvs,∃ l,kv.2=.ref l/\H l=none) ⟨[],none,rfl,g1,k1,⟨rfl,fun i r h=>by simp at h⟩,fun kv h=>nomatch h⟩ (fun i σ' H' _ h=>by obtain ⟨_,_,_,g,_⟩:=h;exact SqL.of (g _ _ hk)) ?_ ?_
 ·rintro i v _ H2 hv ⟨kvs,x2,rfl,g2,k2,⟨kl,ko⟩,kn⟩;obtain ⟨r,hr,kp,kdx,kfs,lc,lo,rfl,h1,h2,h3,h4,h5,h6,⟨cv,kc,hC⟩,h8⟩:=hA.getV hv;have hi:=Qw hv;have g2':=g2;walk_at "go";walk_at "dg";simp only [QU];walk_at "dg";have hcl:cv.length<=60:=by rw [<-hC.1];exact cl r (FD hr)
  refine YR (g2 _ _ h1) T.aK T.cA h3 ?_;refine ⟨lc,rfl,⟨_,SqL.of (g2 _ _ kc)⟩,Zy (xs:=cv) (fun j acc σ' H'=>∃ x0 x1:Option V,σ'=[x0,x1]/\H'=H2/\acc=(r.cs.take j).map fun c=>V.str c.1) ⟨none,none,rfl,rfl,rfl⟩ (fun j acc σ' H' _ h=>by obtain ⟨_,_,_,rfl,_⟩:=h;exact SqL.of (g2 _ _ kc)) (by omega) ?_ ?_⟩
  ·rintro j u acc _ H3 hu hacc ⟨x0,x1,rfl,e3,rfl⟩;rw [e3];obtain ⟨c,hc,pc,z,rfl,hT,hz⟩:=hC.getV hu;refine ZG (g2.sqT hT) rfl ?_;walk_at "go";simp only [ZK];walk_at "go";refine CN.mk (Qw hu) (by simp;omega) ⟨_,_,rfl,rfl,?_⟩;rw [FA,hc,Fz];rfl
  ·rintro acc _ H3 ⟨x0,x1,rfl,e3,rfl⟩ l hl;rw [e3] at hl ⊢;rw [<-hC.1,FC];generalize e_g3:upd H2 l _=H4 at *;obtain ⟨g3,k3⟩:=nwH hl e_g3;have keys:kvs.map (·.1)=((rs.take i).map (·.nm)).map Sum.inr:=by
    apply EE;intro n;rw [Fx,Fx,Fx];cases e:(rs.take i)[n]? with
    | some r'=>obtain ⟨l',h',_⟩:=ko n r' e;rw [h'];rfl
    | none=>
     have:kvs[n]?=none:=by rw [Dv] at e ⊢;omega
     rw [this];rfl
   have nin:r.nm ∉ (rs.take i).map (·.nm):=Xv nd hr;refine ⟨kp,_,kdx,kfs,_,rfl,g3 _ _ (g2 _ _ h1),T.aK,T.c9,h2,d,_,rfl,DPut.k (k:=Sum.inr r.nm) (g3 _ _ k2) (by rw [kl];unfold sizeLine;have:=List.length_take_le i rs;omega),?_⟩;rw [Xg _ (Z3 keys nin)];have ld:l≠d:=fun e=>by rw [e,k2] at hl;cases hl
   refine ⟨_,_,rfl,QB (g2.trans g3) hd,Qe,⟨?_,?_⟩,?_⟩
   ·rw [Fv,kl,FA,hr,Fv];rfl
   ·intro n r' hn;rw [FA,hr] at hn;rcases EY n (rs.take i).length with c | c
    ·rw [Ei c] at hn;obtain ⟨l',h',h''⟩:=ko n r' hn;refine ⟨l',by rw [Ei (by omega)];exact h',?_⟩;have:l'≠d:=fun e=>by rw [e,k2] at h'';cases h''
     rw [Qj this];exact g3 _ _ h''
    ·have hn':n=(rs.take i).length:=by
      have:=Qw hn;rw [Fv] at this;simp at this;simp at c;simp;omega
     subst hn';rw [Ed (Ft _),Er] at hn;cases hn;refine ⟨l,by rw [<-kl,Ed (Ft _),Er];rfl,by rw [Qj ld];exact k3⟩
   ·intro kv hkv;rcases FR.mp hkv with h | h
    ·exact kn kv h
    ·rw [FE.mp h];exact ⟨l,rfl,g2.free hl⟩
 ·rintro _ H2 ⟨kvs,x2,rfl,g2,k2,ko,kn⟩;walk_at "go";rw [<-hvl,FC] at ko;exact q d kvs H2 hd g2 k2 ko kn
theorem W2 (T:Tx K mg t) (F:Fun K "named" "Office.named" ZN f fd):FnOk P w K mg base CX0 1 f fd ["self"] (Sp1 (φnamed K t)):=by
 refine F.ok W0 Wq (fun cdv A outer s H vs Q E hr h=>?_);obtain ⟨_,rfl,p,rs,rfl,⟨dx,fs,lk,vs,hp,hf,hk,hA,_⟩,hn,q⟩:=h;have hvl:=hA.1;refine ⟨_,((Qf (Qr (Q8 (N:=["one"]) (caps:=[none]) rfl ZR (piK K rfl (Ze K rfl (pu 0))) (fun _ _ _ _=>Ql (i:=0) (show (["one"]:List Str).Nodup by decide +kernel) rfl (Or.inl rfl) (.inr rfl)) (fun _ _ _ _=>QW) (fun _ _ _ _=>(Ze K rfl (pu 0))))))),?_⟩;walk_at "go";simp only [QU];walk_at "go";refine YR hp T.aU T.bN hf ⟨lk,rfl,⟨_,SqL.of hk⟩,?_⟩;refine Zy (xs:=vs) (fun i acc σ' H'=>∃ x0:Option V,σ'=[x0]/\H'=H/\acc=(rs.take i).map fun r=>V.str r.nm) ⟨none,rfl,rfl,rfl⟩ (fun i acc σ' H' _ h=>by obtain ⟨_,_,rfl,_⟩:=h;exact SqL.of hk) (by omega) ?_ ?_
 ·rintro i v acc _ H2 hv hacc ⟨x0,rfl,e2,rfl⟩;rw [e2];obtain ⟨r,hr',kp,kdx,kfs,lc,lo,rfl,h1,h2,_⟩:=hA.getV hv;simp only [ZK];walk_at "go";refine YR h1 T.aK T.c9 h2 ?_;refine CN.mk (Qw hv) (by rw [Fv,FH];omega) ⟨_,rfl,rfl,?_⟩;rw [FA,hr',Fz];rfl
 ·rintro acc _ H2 ⟨x0,rfl,e2,rfl⟩ l hl;rw [e2] at hl ⊢;rw [<-hvl,FC];exact q _ _ (Qi hl _) hl (by rw [El];exact Qe)
inductive Rc (nb:Str->List Str) (S:List Str):Str->Prop
 | start {x:Str} (h:x∈S):Rc nb S x
 | step {x y:Str} (h:Rc nb S x) (a:y∈nb x):Rc nb S y
theorem ZI:∀ {l m:List Str},l.Nodup->(∀ z∈l,z∈m)->l.length<=m.length
 | [],_,_,_=>FZ _
 | x :: l,m,nd,h=>by
  have hx:=h x Ea;have nd':=EB.mp nd;have:=ZI (m:=m.erase x) nd'.2 fun z hz=>(List.mem_erase_of_ne (fun e=>nd'.1 (by rw [<-e];exact hz))).mpr (h z (F9 _ hz))
  rw [List.length_erase_of_mem hx] at this;have:=List.length_pos_of_mem hx;simp only [En];omega
structure SfC (nb:Str->List Str) (S nms:List Str) (st:List (Str×Option Str)) (ws:List Str):Prop where
 nd:(st.map (·.1)).Nodup
 rc:∀ x∈st.map (·.1),Rc nb S x
 ks:∀ x∈st.map (·.1),x∈nms
 wk:∀ x∈ws,x∈st.map (·.1)
 ss:∀ x∈S,x∈st.map (·.1)
theorem SfC.le {nb:Str->List Str}{st:List (Str×Option Str)}{ws:List Str}(h:SfC nb S nms st ws):st.length<=nms.length:=by
 have:=ZI h.nd h.ks;rwa [Fo] at this
inductive φsf (K:W.Frag) (x y:V) (H:Hp) (Q:VK):Prop
 | mk (n b:Addr) (S nms:List Str) (nb:Str->List Str) (h1:x=.ref n) (h2:y=.ref b) (h3:H b=some (.lst (S.map V.str))) (h4:Nb H n nms nb) (h5:∀ s∈S,s∈nms) (h6:nms.length<=60) (h7:S.length<=60) (h8:∀ z∈nms,(∀ y∈nb z,y∈nms)/\(nb z).length<=60)
   (h9:∀ p (st:List (Str×Option Str)) H',H p=none->Same H H'->H' p=some (.dK (st.map stE))->(st.map (·.1)).Nodup->(∀ x,x∈st.map (·.1)↔Rc nb S x)->st.length<=nms.length->Q (.ref p) H'):φsf K x y H Q
def SfA (H:Hp) (n b p:Addr) (S:List Str) (i:Nat) (σ':L2.St) (H':Hp):Prop:=∃ (x3:Option V) (ks:List Str),σ'=[some (.ref n),some (.ref b),some (.ref p),x3,none,none,none]/\Same H H'/\H' p=some (.dK ((ks.map fun k=>(k,(none:Option Str))).map stE))/\ks.Nodup/\(∀ x∈ks,x∈S)/\∀ x∈S.take i,x∈ks
theorem GT {ks:List Str}{s:Str}(h:s∈ks):X9 ((ks.map fun k=>(k,(none:Option Str))).map stE) (Sum.inr s) (vO none)=(ks.map fun k=>(k,(none:Option Str))).map stE:=by
 unfold X9;rw [Fs (List.any_eq_true.mpr ⟨stE (s,none),List.mem_map_of_mem (FK.mpr ⟨s,h,rfl⟩),by simp [stE]⟩)];rw [El,El,El];refine List.map_congr_left fun k _=>?_
 show (if (stE (k,none)).1=Sum.inr s then ((stE (k,none)).1,vO none) else stE (k,none))=stE (k,none);split <;> rfl
def SfW (H:Hp) (n b p q:Addr) (S nms:List Str) (nb:Str->List Str) (m:Nat) (σ':L2.St) (H':Hp):Prop:=∃ (st:List (Str×Option Str)) (ws:List Str) (x3 x5 x6:Option V),σ'=[some (.ref n),some (.ref b),some (.ref p),x3,some (.ref q),x5,x6]/\Same H H'/\H' p=some (.dK (st.map stE))/\H' q=some (.lst (ws.map V.str)) /\
 SfC nb S nms st ws/\(∀ x∈st.map (·.1),x ∉ ws->∀ y,y∈nb x->y∈st.map (·.1))/\m=2*(nms.length-st.length)+ws.length/\m<=2*nms.length+S.length
def SfF (H:Hp) (n b p q:Addr) (S nms:List Str) (nb:Str->List Str) (m:Nat) (x:Str) (i:Nat) (σ':L2.St) (H':Hp):Prop:=∃ (st:List (Str×Option Str)) (ws:List Str) (x3 x6:Option V),σ'=[some (.ref n),some (.ref b),some (.ref p),x3,some (.ref q),some (.str x),x6]/\Same H H'/\H' p=some (.dK (st.map stE))/\H' q=some (.lst (ws.map V.str)) /\
 SfC nb S nms st ws/\(∀ z∈st.map (·.1),z≠x->z ∉ ws->∀ y,y∈nb z->y∈st.map (·.1))/\x∈st.map (·.1)/\(∀ y∈(nb x).take i,y∈st.map (·.1))/\2*(nms.length-st.length)+ws.length+1<=m
theorem JV (T:Tx K mg t) (F:Fun K "steps_from" "steps_from" Z5 f fd):FnOk P w K mg base CX0 1 f fd ["neighbours","starts"] (Sp2 (φsf K)):=by
 refine F.ok sc_steps_from ZV (fun cdv A outer s H vs Q E hr h=>?_);obtain ⟨_,_,rfl,n,b,S,nms,nb,rfl,rfl,hb,hN,hS,hn,hsl,hin,q⟩:=h;refine ⟨_,((Qc (Qk (i:=2) sc_steps_from.nd rfl (Or.inl rfl) Z0)
   (Qc (QG FL rfl (piK K rfl (pu 1)) (Ql (i:=3) sc_steps_from.nd rfl (Or.inl rfl))
   (Qf (Xb (Q9 hr) (pu 2) (pu 3) Zh rfl)))
   (Qc (Qk (i:=4) sc_steps_from.nd rfl (Or.inl rfl) (QJ (Zf K rfl) (by rfl) T.aM Eg (Qa (pu 1) Qd)))
   (Qc (XJ FL (ZQ (pu 4) (fun _=>rfl)) (Qc (Qk (i:=5) sc_steps_from.nd rfl (Or.inl rfl) (Bb K rfl F3 PySem.F.slot_list_pop PySem.F.type_list_pop PF (pu 4)))
   (Qf (QG FL rfl (piK K rfl (Q4 (Q9 hr) (pu 0) (pu 5) (fun _ _=>rfl))) (Ql (i:=6) sc_steps_from.nd rfl (Or.inl rfl))
   (Qf (QL (N4 (Kk (Q9 hr) (pu 6) (pu 2))) (Qc (Xb (Q9 hr) (pu 2) (pu 6) (pu 5) rfl)
   (Qf (QS (Zb K rfl F3 F7 F8 QO (pu 4) (Qa (pu 6) Qd))))) Qx))))))
   (Qf (Qr (pu 2)))))))),?_⟩
 generalize hR:ZH (Z4 _ (Zt 4)) _=R;walk_at "go";walk_at "dg";intro p hp0;refine ⟨b,rfl,⟨_,SqL.of ((Qi hp0 _) _ _ hb)⟩,Xn (xs:=S.map V.str) (SfA H n b p S) ⟨none,[],rfl,Qi hp0 _,Qe,Dw,(fun x h=>nomatch h),fun x h=>by simp at h⟩ (fun i σ' H' _ h=>by obtain ⟨_,_,_,g,_⟩:=h;exact SqL.of (g _ _ hb)) ?_ ?_⟩
 ·rintro i v _ H' hv ⟨x3,ks,rfl,g,hk,knd,kin,kal⟩;rw [Fx] at hv;obtain ⟨s,hs,rfl⟩:=FO.mp hv;have sS:=FD hs;have kl:=ZI knd kin;walk_at "go";walk_at "dg";refine ⟨p,_,rfl,DPut.k (k:=Sum.inr s) hk (by rw [Fo,Fo];unfold sizeLine;omega),?_⟩;by_cases c:s∈ks
  ·refine ⟨_,ks,rfl,QB g hp0,?_,knd,kin,fun x hx=>?_⟩
   ·rw [show (V.non)=vO none from rfl,GT c];exact Qe
   ·rw [FA,hs] at hx;rcases FR.mp hx with h | h
    ·exact kal x h
    ·rw [show x=s by simpa using h];exact c
  ·refine ⟨_,ks++[s],rfl,QB g hp0,?_,?_,fun x hx=>?_,fun x hx=>?_⟩
   ·rw [show (V.non)=vO none from rfl,NP (by rw [El];simpa using c)];rw [Fz (f:=fun k=>(k,(none:Option Str)))];exact Qe
   ·refine ER.mpr ⟨knd,Dx _ _,fun a ha b hb e=>?_⟩;rw [show b=s from FE.mp hb] at e;exact c (e ▸ ha)
   ·rcases FR.mp hx with h | h
    ·exact kin x h
    ·rw [FE.mp h];exact sS
   ·rw [FA,hs] at hx;rcases FR.mp hx with h | h
    ·exact Ez _ (kal x h)
    ·rw [show x=s by simpa using h];exact F4 _ (FE.mpr rfl)
 ·rintro _ H1 ⟨x3,ks,rfl,g1,hk1,knd,kin,kal⟩;rw [Fo,FC] at kal;subst hR;walk_at "go";refine Z2 (g1 _ _ hb) fun w0 hw0=>?_
  have w0n:H w0=none:=g1.free hw0;have km0:(ks.map fun k=>(k,(none:Option Str))).map (·.1)=ks:=by rw [El];exact Es _
  have hk2:(upd H1 w0 (.lst (S.map V.str))) p=some (.dK ((ks.map fun k=>(k,(none:Option Str))).map stE)):=by rw [Qj (Zc hk1 hw0)];exact hk1
  have hw2:(upd H1 w0 (.lst (S.map V.str))) w0=some (.lst (S.map V.str)):=Qe;have g2:=g1.trans (Qi hw0 (.lst (S.map V.str)));generalize upd H1 w0 (.lst (S.map V.str))=H2 at *;have C2:SfC nb S nms (ks.map fun k=>(k,(none:Option Str))) S:=by
   refine ⟨?_,?_,?_,?_,?_⟩
   ·rw [km0];exact knd
   ·rw [km0];exact fun x hx=>.start (kin x hx)
   ·rw [km0];exact fun x hx=>hS x (kin x hx)
   ·rw [km0];exact kal
   ·rw [km0];exact kal
  refine ⟨SfW H n b p w0 S nms nb,⟨_,_,S,x3,none,none,rfl,g2,hk2,hw2,C2,fun x hx hw=>?_,rfl,by omega⟩,?_⟩
  ·rw [km0] at hx;exact absurd (kin x hx) hw
  rintro m _ H3 ⟨st,ws,x3,x5,x6,rfl,g3,k3,w3,C3,cl3,rfl,hm⟩;walk_at "go";walk_at "dg";refine ⟨!(ws.map V.str).isEmpty,.inl ⟨_,SqL.of w3,rfl⟩,?_⟩;rcases List.eq_nil_or_concat ws with rfl | ⟨ws0,x,rfl⟩
  ·rw [Fl (by simp)];walk_at "go";refine q p st H3 hp0 g3 k3 C3.nd (fun x=>⟨C3.rc x,fun h=>?_⟩) C3.le
   induction h with
   | start h=>exact C3.ss _ h
   | step _ a ih=>exact cl3 _ ih (fun z=>nomatch z) _ a
  ·rw [Fs (by simp)];refine ⟨_,fun _ _ z=>z,?_⟩;walk_at "go";have dl:((ws0.concat x).map V.str).dropLast=ws0.map V.str:=by simp
   refine ⟨.inl ⟨rfl,_,SqL.of w3⟩,w0,_,.str x,rfl,rfl,w3,by simp,?_⟩;rw [dl];have g4:Same H (upd H3 w0 (.lst (ws0.map V.str))):=QB g3 w0n;have k4:(upd H3 w0 (.lst (ws0.map V.str))) p=some (.dK (st.map stE)):=by rw [Qj (VQ k3 w3 (fun z=>nomatch z))];exact k3
   have w4:(upd H3 w0 (.lst (ws0.map V.str))) w0=some (.lst (ws0.map V.str)):=Qe;generalize upd H3 w0 (.lst (ws0.map V.str))=H4 at *;have xk:x∈st.map (·.1):=C3.wk x (by simp);obtain ⟨kvN,hn0,vN⟩:=id hN;obtain ⟨an,en,kn⟩:=vN x (C3.ks x xk);have ln:=(hin x (C3.ks x xk)).2;refine ⟨n,.ref an,rfl,by have:=DGet.k (k:=Sum.inr x) (g4 _ _ hn0);rw [en] at this;exact this,an,rfl,⟨_,SqL.of (g4 _ _ kn)⟩,Xn (xs:=(nb x).map V.str) (SfF H n b p w0 S nms nb (2*(nms.length-st.length)+(ws0.concat x).length) x) ⟨st,ws0,x3,x6,rfl,g4,k4,w4,⟨C3.nd,C3.rc,C3.ks,fun y hy=>C3.wk y (by simp [hy]),C3.ss⟩,fun z hz hzx hzw=>cl3 z hz (by simp [hzw,hzx]),xk,fun y hy=>by simp at hy,by simp;omega⟩ ?_ ?_ ?_⟩
   ·rintro i σ' H' _ ⟨_,_,_,_,_,g,_⟩;exact SqL.of (g _ _ kn)
   ·rintro i v _ H5 hv ⟨st',ws',x3',x6',rfl,g5,k5,w5,C5,cl5,xk5,nb5,hm5⟩;rw [Fx] at hv;obtain ⟨y,hy,rfl⟩:=FO.mp hv;have ya:y∈nb x:=FD hy;have tk:(nb x).take (i+1)=(nb x).take i++[y]:=by rw [FA,hy];rfl
    have hle:=C5.le;walk_at "go";walk_at "dg";refine ⟨p,_,rfl,DGet.k (k:=Sum.inr y) k5,?_⟩;rw [GK];by_cases c:y∈st'.map (·.1)
    ·rw [EC c,Fl (by decide)];refine ⟨st',ws',_,_,rfl,g5,k5,w5,C5,cl5,xk5,fun z hz=>?_,hm5⟩;rw [tk] at hz;rcases FR.mp hz with h | h
     ·exact nb5 z h
     ·rw [FE.mp h];exact c
    ·rw [F6 c,Fs (by decide)];walk_at "dg";have wl:ws'.length<=500:=by
      have:(ws0.concat x).length=ws0.length+1:=by simp
      omega
     refine ⟨p,_,rfl,DPut.k (k:=Sum.inr y) k5 (by rw [Fo];unfold sizeLine;omega),?_⟩;rw [show (V.str x)=vO (some x) from rfl,NP c];have km:∀ z,z∈(st'++[(y,some x)]).map (·.1)↔z∈st'.map (·.1)∨z=y:=fun z=>by simp
     have g6:Same H (upd H5 p (.dK ((st'++[(y,some x)]).map stE))):=QB g5 hp0;have w6:(upd H5 p (.dK ((st'++[(y,some x)]).map stE))) w0=some (.lst (ws'.map V.str)):=by rw [Qj (VQ w5 k5 (fun z=>nomatch z))];exact w5
     have k6:(upd H5 p (.dK ((st'++[(y,some x)]).map stE))) p=some (.dK ((st'++[(y,some x)]).map stE)):=Qe;generalize upd H5 p (.dK ((st'++[(y,some x)]).map stE))=H6 at *;refine ⟨.inl ⟨rfl,_,SqL.of w6⟩,QV w6 (QF (by rw [Fo];omega)) ?_⟩;have C6:SfC nb S nms (st'++[(y,some x)]) (ws'++[y]):=by
      refine ⟨?_,fun z hz=>?_,fun z hz=>?_,fun z hz=>?_,fun z hz=>(km z).mpr (.inl (C5.ss z hz))⟩
      ·rw [Fz];refine ER.mpr ⟨C5.nd,Dx _ _,fun a ha b hb e=>?_⟩;rw [show b=y from FE.mp hb] at e;exact c (e ▸ ha)
      ·rcases (km z).mp hz with h | h
       ·exact C5.rc z h
       ·rw [h];exact .step (C5.rc x xk5) ya
      ·rcases (km z).mp hz with h | h
       ·exact C5.ks z h
       ·rw [h];exact (hin x (C5.ks x xk5)).1 y ya
      ·rcases FR.mp hz with h | h
       ·exact (km z).mpr (.inl (C5.wk z h))
       ·exact (km z).mpr (.inr (FE.mp h))
     have hle6:=C6.le;rw [Fv,FH] at hle6;refine ⟨st'++[(y,some x)],ws'++[y],_,_,rfl,QB g6 w0n,by rw [Qj (VQ k6 w6 (fun z=>nomatch z))];exact k6,by rw [Qe,Fz];rfl,C6,fun z hz hzx hzw u hu=>?_,(km x).mpr (.inl xk5),fun z hz=>?_,by rw [Fv,Fv,FH,FH];omega⟩
     ·have hzw':z ∉ ws':=fun h=>hzw (Ez _ h)
      have hzy:z≠y:=fun h=>hzw (by rw [h];simp)
      rcases (km z).mp hz with h | h
      ·exact (km u).mpr (.inl (cl5 z h hzx hzw' u hu))
      ·exact absurd h hzy
     ·rw [tk] at hz;rcases FR.mp hz with h | h
      ·exact (km z).mpr (.inl (nb5 z h))
      ·exact (km z).mpr (.inr (FE.mp h))
   ·rintro _ H5 ⟨st',ws',x3',x6',rfl,g5,k5,w5,C5,cl5,xk5,nb5,hm5⟩;rw [Fo,FC] at nb5;refine ⟨2*(nms.length-st'.length)+ws'.length,by omega,st',ws',_,_,_,rfl,g5,k5,w5,C5,fun z hz hzw u hu=>?_,rfl,by omega⟩;by_cases c:z=x
    ·subst c;exact nb5 u hu
    ·exact cl5 z hz c hzw u hu
theorem YS (hk:kvs.map (·.1)=nms.map Sum.inr) (nd:nms.Nodup) {i:Nat}{z:Str}{v:V}(h:kvs[i]?=some (Sum.inr z,v)):Zd kvs (Sum.inr z:Key)=some v:=by
 induction kvs generalizing nms i with
 | nil=>simp at h
 | cons kv rest ih=>
  cases nms with
  | nil=>simp at hk
  | cons n ns=>
   rw [F5,F5] at hk;injection hk with e1 e2
   rw [EB] at nd;obtain ⟨k0,v0⟩:=kv;have e1:k0=Sum.inr n:=e1;cases i with
   | zero=>rw [DF] at h;cases h;unfold Zd;simp
   | succ j=>
    rw [E5] at h;have hz:z∈ns:=by
     have hm:(Sum.inr z:Key)∈rest.map (·.1):=FK.mpr ⟨_,FD h,rfl⟩;rw [e2] at hm;obtain ⟨y,hy,e⟩:=FK.mp hm;cases e;exact hy
    have ne:¬ k0=(Sum.inr z:Key):=fun e=>by
     rw [e1] at e;cases e;exact nd.1 hz
    have:=ih e2 nd.2 h;unfold Zd at this ⊢;rw [List.find?_cons_of_neg (by simpa using ne)];exact this
def nbR (rs:List Rw) (x:Str):List Str:=((rs.find? fun r=>decide (r.nm=x)).map fun r=>r.cs.map (·.1)).getD []
theorem Vc:∀ {rs:List Rw}{i:Nat}{r:Rw},(rs.map (·.nm)).Nodup->rs[i]?=some r->nbR rs r.nm=r.cs.map (·.1)
 | [],_,_,_,h=>by simp at h
 | r0 :: rs,0,r,_,h=>by
  cases h;unfold nbR;rw [List.find?_cons_of_pos (by simp)];rfl
 | r0 :: rs,i+1,r,nd,h=>by
  rw [F5,EB] at nd;rw [E5] at h;have ne:¬ r0.nm=r.nm:=fun e=>nd.1 (by rw [e];exact List.mem_map_of_mem (FD h))
  have ih:=Vc nd.2 h;unfold nbR at *;rw [List.find?_cons_of_neg (by simpa using ne)];exact ih
theorem WJ (h:YQ H rs kvs):kvs.map (·.1)=(rs.map (·.nm)).map Sum.inr:=by
 obtain ⟨kl,ko⟩:=h;apply EE;intro n;rw [Fx,Fx,Fx];cases e:rs[n]? with
 | some r'=>obtain ⟨l',h',_⟩:=ko n r' e;rw [h'];rfl
 | none=>
  have:kvs[n]?=none:=by rw [Dv] at e ⊢;omega
  rw [this];rfl
theorem Jf (hd:H d=some (.dK kvs)) (h:YQ H rs kvs) (nd:(rs.map (·.nm)).Nodup):Nb H d (rs.map (·.nm)) (nbR rs):=⟨kvs,hd,fun z hz=>by
 obtain ⟨r,hr,e⟩:=FK.mp hz;obtain ⟨i,hi⟩:=Ee hr;obtain ⟨l,h1,h2⟩:=h.2 i r hi;subst e;refine ⟨l,YS (WJ h) nd h1,?_⟩;rw [Vc nd hi,El];exact h2⟩
structure Rows (rs:List Rw):Prop where
 nd:(rs.map (·.nm)).Nodup
 le:rs.length<=8
 cl:∀ r∈rs,r.cs.length<=60
 cn:∀ r∈rs,(r.cs.map (·.1)).Nodup
 ci:∀ r∈rs,∀ c∈r.cs,c.1∈rs.map (·.nm)
theorem Rows.nb (h:Rows rs):∀ z∈rs.map (·.nm),(∀ y∈nbR rs z,y∈rs.map (·.nm))/\(nbR rs z).length<=60/\(nbR rs z).Nodup:=fun z hz=>by
 obtain ⟨r,hr,e⟩:=FK.mp hz;obtain ⟨i,hi⟩:=Ee hr;subst e;rw [Vc h.nd hi];refine ⟨fun y hy=>?_,by rw [Fo];exact h.cl r hr,h.cn r hr⟩;obtain ⟨c,hc,e⟩:=FK.mp hy;rw [<-e];exact h.ci r hr c hc
inductive φlead (K:W.Frag) (t:Adr) (x y:V) (H:Hp) (Q:VK):Prop
 | mk (p:Addr) (rs:List Rw) (z:Str) (h1:x=.ref p) (h2:Of K t H rs p) (h3:Rows rs) (h4:y=.str z)
   (h7:z∈rs.map (·.nm)) (h8:∀ l (ss:List Str) H',H l=none->Same H H'->H' l=some (.lst (ss.map V.str))->ss.Nodup->sortedS ss=true->(∀ x,x∈ss↔Rc (nbR rs) (nbR rs z) x)->Q (.ref l) H'):φlead K t x y H Q
theorem VM (T:Tx K mg t) (F:Fun K "leads_to" "leads_to" XT f fd) (dY:Cal P w K mg base 1 "steps_from" ["neighbours","starts"] (Sp2M (φsf K))) (bP:Cal P w K mg base 1 "leans" ["office"] (Sp1M (φleans K t))):FnOk P w K mg base CX0 2 f fd ["office","title"] (Sp2 (φlead K t)):=by
 refine F.ok sc_leads_to ZV (fun cdv A outer s H vs Q E hr h=>?_);obtain ⟨_,_,rfl,p,rs,z,rfl,hO,hRs,rfl,hz,q⟩:=h;have hle:=hRs.le;refine ⟨_,((Qc (Qk (i:=2) sc_leads_to.nd rfl (Or.inl rfl) (Qs bP (hrm hr) rfl (Qa (pu 0) Qd)))
   (Qc (QL (N4 (Kk (Q9 hr) (pu 1) (pu 2))) (Qf Js) Qx)
   (Qf (Qr (Qo (Vt rfl) (by rfl) T.dJ boot_sorted (Qa (Qs dY (hrm hr) rfl (Qa (pu 2) (Qa (Q4 (Q9 hr) (pu 2) (pu 1) (fun _ _=>rfl)) Qd))) Qd))))))),?_⟩
 walk_at "go";refine ⟨p,rs,rfl,hO,hRs.nd,by omega,hRs.cl,fun d kvs H1 hd g1 kd lo _=>?_⟩;have keys:=WJ lo;have hNb:=Jf kd lo hRs.nd;walk_at "dg";refine ⟨d,_,rfl,DGet.k (k:=Sum.inr z) kd,?_⟩;obtain ⟨kv0,e0,hv⟩:=hNb;rw [kd] at e0;cases e0;obtain ⟨l,hl,kl⟩:=hv z hz;rw [Fl (by rw [hl];exact fun e=>Bool.noConfusion e)];obtain ⟨n1,n2,n3⟩:=hRs.nb z hz;refine ⟨d,.ref l,rfl,by have:=DGet.k (k:=Sum.inr z) kd;rw [hl] at this;exact this,?_⟩;refine ⟨d,l,nbR rs z,rs.map (·.nm),nbR rs,rfl,rfl,kl,Jf kd lo hRs.nd,n1,by rw [Fo];omega,n2,fun y hy=>⟨(hRs.nb y hy).1,(hRs.nb y hy).2.1⟩,fun p2 st H2 f2 g2 k2 snd srec sle=>?_⟩;rw [Fo] at sle;refine ⟨p2,_,st.map (·.1),rfl,.inl k2,W6 st,by rw [Fo];omega,fun l3 ss hl3 pm sr=>?_⟩;exact q l3 ss _ ((g1.trans g2).free hl3) ((g1.trans g2).trans (Qi hl3 _)) Qe (pm.nodup_iff.mpr snd) sr fun x=>by rw [pm.mem_iff];exact srec x
def cl (ns:List Int) (k:Int):Int:=ns.getD k.toNat 0
def φcell (K:W.Frag):V->V->Hp->VK->Prop:=fun x y H Q=>∃ (a:Addr) (ns:List Int) (k:Int),x=.ref a/\y=.int k/\SqL K H a (ns.map V.int)/\0<=k/\Q (.int (cl ns k)) H
inductive φgcdA (x:V) (y:V) (H:Hp) (Q:VK):Prop
 | mk (a b:Int) (h1:x=.int a) (h2:y=.int b) (h3:Q (.int (Int.gcd a b)) H):φgcdA x y H Q
inductive φlow (x:V) (y:V) (H:Hp) (Q:VK):Prop
 | mk (t b:Int) (h1:x=.int t) (h2:y=.int b) (h3:0<b) (h4:Bd 9000 b) (h5:∀ p,H p=none->Q (.ref p) (upd H p (.tup [.int (fnum t b),.int (fden t b)]))):φlow x y H Q
inductive φrate (K:W.Frag) (x:V) (y:V) (H:Hp) (Q:VK):Prop
 | mk (c:Int) (b:Bool) (h1:x=.int c) (h2:y=.bl b) (hc:Bd 1100000 c) (h3:∀ z q H',Same H H'->Fq K H' q z->0<=q->RB 14 q->Q z H'):φrate K x y H Q
inductive φoffs (K:W.Frag) (x:V) (y:V) (H:Hp) (Q:VK):Prop
 | mk (c:Int) (b:Bool) (h1:x=.int c) (h2:y=.bl b) (hc:Bd 1099000 c) (h3:∀ l os H',H l=none->Same H H'->Ol K H' os l->Wc (-1) os=true->(∀ p∈os,Bd 36 p.1/\0<=p.2/\RB 14 p.2)->os.length<=6->Q (.ref l) H'):φoffs K x y H Q
inductive φjump (K:W.Frag) (x:V) (H:Hp) (Q:VK):Prop
 | mk (c:Int) (h1:x=.int c) (hc:Bd 1099000 c) (h3:∀ p lm un H',Same H H'->SqT K H' p [oV lm,oV un]->(∀ i,lm=some i->0<=i/\i<=10 ^ 9)->(∀ i,un=some i->1<=i/\i<=10 ^ 9)->Q (.ref p) H'):φjump K x H Q
theorem bdU {i:Int}(h:Bd 1100000 i):Bd 4000000 i:=h.mono (by decide)
theorem kU {i:Int}(h:i.natAbs<2 ^ 40):Bd 4000000 i:=(show Bd 40 i from h).mono (by decide)
theorem Va (T:Tx K mg t) (F:Fun K "_law_cell_at" "_law_cell_at" Xs f fd):FnOk P w K mg base CX0 1 f fd ["_law_script","_law_k"] (Sp2 (φcell K)):=by
 refine F.ok KH ZV (fun cdv A outer s H vs Q E hr h=>?_);obtain ⟨_,_,rfl,a,ns,k,rfl,rfl,hS,hk,q⟩:=h;refine ⟨_,((Qc (QL (Qq Jv (pu 1) (Qo (YA K rfl) (by rfl) T.aP Eh (Qa (pu 0) Qd)) (Qu _)) (Qf (Qr (Qp (ixK K rfl) (pu 0) (pu 1) (fun _ _=>rfl)))) Qx)
   (Qf (Qr Qb)))),?_⟩
 walk_at "go";rw [Fo];refine QK (fun c=>?_) (fun c=>?_)
 ·obtain ⟨n,rfl⟩:=EI hk;have hn:n<ns.length:=by omega
  refine Zj hS (v:=.int (ns.getD n 0)) ?_ ?_
  ·refine QP ?_;rw [Fx,Fu hn,Ef,Fu hn];rfl
  ·exact q
 ·have e:ns.getD k.toNat 0=0:=by
   rw [Ef,Ej (by omega)];rfl
  unfold cl at q;rw [e] at q;exact q
theorem K9 (T:Tx K mg t) (F:Fun K "_law_divisor" "_law_divisor" Xr f fd):FnOk P w K mg base CX0 1 f fd ["_law_one","_law_other"] (Sp2 φgcdA):=by
 refine F.ok sc_l_divisor ZV (fun cdv A outer s H vs Q E hr h=>?_);obtain ⟨_,_,rfl,a,b,rfl,rfl,q⟩:=h;refine ⟨_,((Qc (XJ FL (Qq (neM K rfl hr.units) (pu 1) Qb (Qu _)) (Qf (Ph (i:=0) (j:=1) rfl sc_l_divisor.nd rfl rfl (by decide) rfl rfl (Qa (pu 1) (Qa (Qg Mg (pu 0) (pu 1)) Qd)) rfl)))
   (Qf (Qr (Qo JL (by rfl) T.cQ boot_abs (Qa (pu 0) Qd)))))),?_⟩
 walk_at "rd";refine ⟨fun m σ' H'=>∃ (a' b':Int),σ'=[some (.int a'),some (.int b')]/\H'=H/\b'.natAbs=m/\Int.gcd a' b'=Int.gcd a b,⟨_,a,b,rfl,rfl,rfl,rfl⟩,?_⟩;rintro m _ _ ⟨a',b',rfl,rfl,rfl,hg⟩;walk_at "rd";by_cases hz:b'=0
 ·subst hz;rw [Fl (by simp)];walk_at "go";have e:(if a'<0 then -a' else a')=(Int.gcd a b:Int):=by
   rw [<-hg,Int.gcd_zero_right];split <;> omega
  rw [e];exact q
 ·rw [Fs (by simp [hz])];refine ⟨fun σ' H'=>∃ m',m'<b'.natAbs/\∃ (a'' b'':Int),σ'=[some (.int a''),some (.int b'')]/\H'=_/\b''.natAbs=m'/\Int.gcd a'' b''=Int.gcd a b,fun _ _ h=>h,?_⟩;refine ⟨hz,(a'.fmod b').natAbs,BF hz,b',a'.fmod b',rfl,rfl,rfl,by rw [MM];exact hg⟩
theorem Ml (T:Tx K mg t) (F:Fun K "_law_low" "_law_low" Ja f fd) (dZ:Cal P w K mg base 1 "_law_divisor" ["_law_one","_law_other"] (Sp2M φgcdA)):FnOk P w K mg base CX0 2 f fd ["_law_top","_law_bottom"] (Sp2 φlow):=by
 refine F.ok sc_l_low ZV (fun cdv A outer s H vs Q E hr h=>?_);obtain ⟨_,_,rfl,t,b,rfl,rfl,hb,hs,q⟩:=h;refine ⟨_,((Qc (Qk (i:=2) sc_l_low.nd rfl (Or.inl rfl) (Qs dZ (hrm hr) rfl (Qa (pu 0) (Qa (pu 1) Qd))))
   (Qf (Qr (QE (Qa (Qg Qz (pu 0) (pu 2)) (Qa (Qg Qz (pu 1) (pu 2)) Qd))))))),?_⟩
 walk_at "go";refine ⟨_,_,rfl,rfl,?_⟩;walk_at "go";have hg:=Vk (t:=t) (b:=b) (by omega);have hl:=MO (t:=t) (b:=b) (by omega);have key:CDivB (fsg t b):=⟨hg,hs.le hl⟩
 have e:(Int.gcd t b:Int)=fsg t b:=by unfold fsg;rw [Fl (by omega)]
 rw [e];exact ⟨key,key,by decide,q⟩
theorem BD {z:Addr}{t:Int}(hb:b≠0):Fq K (upd H z (.tup [.int (fnum t b),.int (fden t b)])) (Rat.divInt t b) (.ref z):=by
 obtain ⟨e1,e2⟩:=Up (t:=t) hb;refine ⟨z,rfl,?_⟩;rw [e1,e2];exact SqT.of Qe
theorem GX (T:Tx K mg t) (F:Fun K "_law_rate" "_law_rate" YW f fd) (bL:Cal P w K mg base 2 "_law_low" ["_law_top","_law_bottom"] (Sp2M φlow)):FnOk P w K mg base CX0 3 f fd ["_law_cell","_law_calm"] (Sp2 (φrate K)):=by
 refine F.ok GM ZV (fun cdv A outer s H vs Q E hr h=>?_);obtain ⟨_,_,rfl,c,b,rfl,rfl,hc,q⟩:=h;refine ⟨_,((Qc (QL (PW.pt (Xf (Qq (eqM K rfl hr.units) (Qg Qt (pu 0) Qb) Qb (Qu _)) (ZP (ZW (ZQ (pu 1) (fun _=>rfl)))))) (Qf (Qr (QE (Qa Qb (Qa Qb Qd))))) Qx)
   (Qc (QL (PW.pt (Xf (Qq (eqM K rfl hr.units) (Qg Qt (pu 0) Qb) Qb (Qu _)) (ZP (ZW (ZQ (pu 1) (fun _=>rfl)))))) (Qf (Qr (Qs bL (hrm hr) rfl (Qa (Qg Qt (Qg Qy (pu 0) Qb) Qb) (Qa (Qg Qv Qb (Qg Qt (Qg Qy (pu 0) Qb) Qb)) Qd))))) Qx)
   (Qf (Qr (Qs bL (hrm hr) rfl (Qa (Qg Qt (Qg Qt (Qg Qy (pu 0) Qb) Qb) Qb) (Qa Qb Qd)))))))),?_⟩
 have low:∀ (tp bt:Int),0<=tp->tp<10000->0<bt->bt<10000->φlow (.int tp) (.int bt) H Q:=fun tp bt a1 a2 a3 a4=>by
  have b1:Bd 14 tp:=by unfold Bd;omega
  have b2:Bd 14 bt:=by unfold Bd;omega
  refine ⟨tp,bt,rfl,rfl,a3,b2.mono (by decide),fun p hp=>q _ _ _ (Qi hp _) (BD (by omega)) ?_ (RB.of (by omega) b1 b2)⟩;exact Rat.divInt_nonneg a1 (by omega)
 have m1:CMulU c 48271:=⟨bdU hc,kU (by decide)⟩
 have m2:CMulU c 16807:=⟨bdU hc,kU (by decide)⟩
 have a1:=FU (c*48271) (show (10000:Int)≠0 by decide);have a2:=FW (c*48271) (show 0<(10000:Int) by decide);have a3:=FU (c*16807) (show (9999:Int)≠0 by decide);have a4:=FW (c*16807) (show 0<(9999:Int) by decide);have a5:=FU (c*48271 % 1000003) (show (100:Int)≠0 by decide);have a6:=FW (c*48271 % 1000003) (show 0<(100:Int) by decide);have last:CMulU c 48271/\True/\True/\φlow (V.int (c*48271 % 1000003 % 100)) (V.int 100) H Q:=⟨m1,trivial,trivial,low _ _ a5 (by omega) (by decide) (by decide)⟩
 have mid:True/\if c % 4=1 then ∃ k,P8 K (V.bl b) H k/\if k=false then CMulU c 48271/\True/\CMulU c 16807/\True/\φlow (V.int (c*48271 % 10000)) (V.int (1+c*16807 % 9999)) H Q else CMulU c 48271/\True/\True/\φlow (V.int (c*48271 % 1000003 % 100)) (V.int 100) H Q
   else CMulU c 48271/\True/\True/\φlow (V.int (c*48271 % 1000003 % 100)) (V.int 100) H Q:=
  ⟨trivial,QK (fun _=>⟨b,rfl,QK (fun _=>⟨m1,trivial,m2,trivial,low _ _ a1 a2 (by omega) (by omega)⟩) (fun _=>last)⟩) (fun _=>last)⟩
 walk_at "go";refine ⟨trivial,QK (fun _=>⟨b,rfl,QK (fun _=>⟨by decide,fun p hp=>?_⟩) (fun _=>mid)⟩) (fun _=>mid)⟩;exact q _ _ _ (Qi hp _) (Fq.int (i:=1) (SqT.of Qe)) (by decide) (RB.int (show Bd 14 1 by unfold Bd;decide) (by decide))
theorem G3 (T:Tx K mg t) (F:Fun K "_law_jump" "_law_jump" Y2 f fd):FnOk P w K mg base CX0 1 f fd ["_law_cell"] (Sp1 (φjump K)):=by
 refine F.ok GN Wq (fun cdv A outer s H vs Q E hr h=>?_);obtain ⟨_,rfl,c,rfl,hc,q⟩:=h;refine ⟨_,((Qc (QL (Qq (eqM K rfl hr.units) (Qg Qt (pu 0) Qb) Qb (Qu _)) (Qf (Qr (QE (Qa (Qg Qt (Qg Qz (pu 0) Qb) (Qg Qv (Qg KZ Qb Qb) Qb)) (Qa Zh Qd))))) Qx)
   (Qc (QL (Qq (eqM K rfl hr.units) (Qg Qt (pu 0) Qb) Qb (Qu _)) (Qf (Qr (QE (Qa Zh (Qa (Qg Qv Qb (Qg Qt (Qg Qy (Qg Qz (pu 0) Qb) Qb) (Qg KZ Qb Qb))) Qd))))) Qx)
   (Qc (QL (Qq (eqM K rfl hr.units) (Qg Qt (pu 0) Qb) Qb (Qu _)) (Qf (Qr (QE (Qa (Qg Qt (Qg Qz (pu 0) Qb) Qb) (Qa (Qg Qv Qb (Qg Qt (Qg Qz (pu 0) Qb) Qb)) Qd))))) Qx)
   (Qf (Qr (QE (Qa Zh (Qa Zh Qd))))))))),?_⟩
 have d8:CDivB 8:=CDivB.small (by decide) (by decide);have f8:Bd 1099000 (c.fdiv 8):=hc.fdiv;have a1:=FU (c.fdiv 8) (show (1000000001:Int)≠0 by decide);have a2:=FW (c.fdiv 8) (show 0<(1000000001:Int) by decide);have a3:=FU (c.fdiv 8*48271) (show (1000000000:Int)≠0 by decide);have a4:=FW (c.fdiv 8*48271) (show 0<(1000000000:Int) by decide);have a5:=FU (c.fdiv 8) (show (40:Int)≠0 by decide);have a6:=FW (c.fdiv 8) (show 0<(40:Int) by decide);have nn:∀ i:Int,(none:Option Int)=some i->False:=fun i h=>nomatch h
 walk_at "go";have e9:(10:Int) ^ Int.toNat 9=1000000000:=by decide
 rw [e9];have cp:Lu 10 9:=by unfold Lu;decide
 have mu:CMulU (c.fdiv 8) 48271:=⟨f8.mono (by decide),kU (by decide)⟩
 have one:∀ (i:Int) (P:Prop),(0<=i/\i<=10 ^ 9)->∀ j,some i=some j->0<=j/\j<=10 ^ 9:=fun i _ h j e=>by cases e;exact h
 have un1:∀ (i:Int),(1<=i/\i<=10 ^ 9)->∀ j,some i=some j->1<=j/\j<=10 ^ 9:=fun i h j e=>by cases e;exact h
 refine ⟨trivial,QK (fun _=>⟨d8,cp,by decide,by decide,fun p hp=>?_⟩) (fun _=>⟨trivial,QK (fun _=>⟨d8,mu,cp,by decide,by decide,fun p hp=>?_⟩) (fun _=>⟨trivial,QK (fun _=>⟨d8,trivial,d8,trivial,by decide,fun p hp=>?_⟩) (fun _=>⟨by decide,fun p hp=>?_⟩)⟩)⟩)⟩
 ·exact q p (some _) none _ (Qi hp _) (SqT.of Qe) (one _ True ⟨a1,by omega⟩) (fun i h=>(nn i h).elim)
 ·exact q p none (some _) _ (Qi hp _) (SqT.of Qe) (fun i h=>(nn i h).elim) (un1 _ ⟨by omega,by omega⟩)
 ·exact q p (some _) (some _) _ (Qi hp _) (SqT.of Qe) (one _ True ⟨a5,by omega⟩) (un1 _ ⟨by omega,by omega⟩)
 ·exact q p none none _ (Qi hp _) (SqT.of Qe) (fun i h=>(nn i h).elim) (fun i h=>(nn i h).elim)
def OfI (K:W.Frag) (c:Int) (b:Bool) (p:Addr) (H:Hp) (i:Nat) (σ':L2.St) (H':Hp):Prop:=∃ (os:List (Int×Rat)) (ws:List V) (lm:Int) (x4:Option V),σ'=[some (.int c),some (.bl b),some (.ref p),some (.int lm),x4]/\Same H H'/\H' p=some (.lst ws)/\All2 (Fp K H') os ws/\Wc (-1) os=true/\(∀ q∈os,Bd 36 q.1/\0<=q.2/\RB 14 q.2)/\os.length=i/\(∀ q,os[os.length-1]?=some q->q.1<lm)/\0<=lm/\lm<=2+(i:Int)*10 ^ 8
theorem GZ (T:Tx K mg t) (F:Fun K "_law_offs" "_law_offs" YY f fd) (aS:Cal P w K mg base 3 "_law_rate" ["_law_cell","_law_calm"] (Sp2M (φrate K))):FnOk P w K mg base CX0 4 f fd ["_law_cell","_law_calm"] (Sp2 (φoffs K)):=by
 refine F.ok sc_l_offs ZV (fun cdv A outer s H vs Q E hr h=>?_);obtain ⟨_,_,rfl,c,b,rfl,rfl,hc,q⟩:=h;refine ⟨_,((Qc (Qk (i:=2) sc_l_offs.nd rfl (Or.inl rfl) (QC Qd))
   (Qc (Qk (i:=3) sc_l_offs.nd rfl (Or.inl rfl) (Qg Qt (Qg Qz (pu 0) Qb) Qb))
   (Qc (QG FL rfl (QQ rfl T.aQ (Qa (Qg Qt (pu 0) Qb) Qd)) (Ql (i:=4) sc_l_offs.nd rfl (Or.inl rfl))
   (Qc (QS (Zb K rfl F3 F7 F8 QO (pu 2) (Qa (QE (Qa (pu 3) (Qa (Qs aS (hrm hr) rfl (Qa (Qg Qv (Qg Qz (pu 0) Qb) (Qg Qy (Qg Qy (pu 4) (pu 4)) Qb)) (Qa (pu 1) Qd))) Qd))) Qd)))
   (Qf (Qk (i:=3) sc_l_offs.nd rfl (Or.inl rfl) (Qg Qv (Qg Qv (pu 3) Qb) (Qg Qt (Qg Qy (Qg Qv (Qg Qz (pu 0) Qb) (Qg Qy (pu 4) (pu 4))) Qb) (Qg KZ Qb Qb)))))))
   (Qf (Qr (pu 2))))))),?_⟩
 have d7:CDivB 7:=CDivB.small (by decide) (by decide);have d21:CDivB 21:=CDivB.small (by decide) (by decide);have f21:Bd 1099000 (c.fdiv 21):=hc.fdiv;have a1:=FU (c.fdiv 7) (show (3:Int)≠0 by decide);have a2:=FW (c.fdiv 7) (show 0<(3:Int) by decide);have a3:=FU c (show (7:Int)≠0 by decide);have a4:=FW c (show 0<(7:Int) by decide);walk_at "go";refine ⟨by decide,fun p hp=>?_⟩;generalize e_g1:upd H p _=H1 at *;obtain ⟨g1,k1⟩:=nwH hp e_g1;generalize c % 7=mm at *;refine ⟨d7,trivial,trivial,by omega,by omega,J0 (OfI K c b p H) ⟨[],[],_,none,rfl,g1,k1,All2.nil,rfl,(fun q h=>nomatch h),rfl,(fun q h=>by simp at h),a1,by omega⟩ ?_ ?_⟩
 ·rintro i _ H2 hi ⟨os,ws,lm,x4,rfl,g2,k2,hA,hlim,hsz,hl,hlast,l0,l1⟩;rw [Ew];walk_at "go";have hi6:i<7:=by omega
  have ii:((i:Int)*i).natAbs<64:=by
   have e:((i:Int)*i).natAbs=i*i:=by rw [EH];rfl
   have:i*i<=7*7:=Nat.mul_le_mul (by omega) (by omega);omega
  have iU:CMulU (i:Int) i:=⟨kU (by omega),kU (by omega)⟩
  have i5:CMulU ((i:Int)*i) 5:=⟨kU (by omega),kU (by decide)⟩
  generalize (i:Int)*i=sq at *;have c1:Bd 1100000 (c.fdiv 21+sq*5):=(f21.add (show Bd 20 (sq*5) by unfold Bd;omega)).mono (by decide);have c2:CMulU (c.fdiv 21+sq) 69621:=⟨(f21.add (show Bd 20 sq by unfold Bd;omega)).mono (by decide),kU (by decide)⟩
  have b1:=FU ((c.fdiv 21+sq)*69621) (show (100000000:Int)≠0 by decide);have b2:=FW ((c.fdiv 21+sq)*69621) (show 0<(100000000:Int) by decide);have e8:(10:Int) ^ Int.toNat 8=100000000:=by decide
  rw [e8];refine ⟨.inl ⟨rfl,_,SqL.of k2⟩,d21,iU,i5,_,b,rfl,rfl,c1,fun z r H3 g3 f3 r0 rb=>⟨by decide,fun p4 hp4=>?_⟩⟩;generalize e_g4:upd H3 p4 _=H4 at *;obtain ⟨g4,k_g4⟩:=nwH hp4 e_g4;have k4:=g4 _ _ (g3 _ _ k2);have w4:Fp K H4 (lm,r) (.ref p4):=⟨p4,_,rfl,SqT.of k_g4,f3.same g4⟩
  have a4':All2 (Fp K H4) os ws:=hA.imp fun _ _ y=>(y.same g3).same g4
  refine QV k4 (QF (by rw [<-hA.1];omega)) ?_;refine ⟨d21,iU,c2,by unfold Lu;decide,by decide,os++[(lm,r)],_,_,_,rfl,QB (g2.trans (g3.trans g4)) hp,Qe,(a4'.imp fun _ _ y=>y.grow (Xk k4)).snoc (w4.grow (Xk k4)),Jz hlim (fun _=>by show -1<lm;omega) hlast,(fun q hq=>?_),by rw [Fv,FH,hl],(fun q hq=>?_),by omega,by omega⟩
  ·rcases FR.mp hq with hq | hq
   ·exact hsz q hq
   ·rw [FE.mp hq];exact ⟨by show Bd 36 lm;unfold Bd;omega,r0,rb⟩
  ·rw [Fv,FH,Nat.add_sub_cancel,Ed (Ft _),Er] at hq;cases hq;show lm<_;omega
 ·rintro _ H2 ⟨os,ws,lm,x4,rfl,g2,k2,hA,hlim,hsz,hl,hlast,l0,l1⟩;walk_at "go";exact q p os H2 hp g2 ⟨ws,k2,hA⟩ hlim hsz (by omega)
def abc:Str:=Str.ofString "abcdefghijklmnopqrstuvwxyz"
theorem BX:abc.length=26:=by decide
theorem P6:abc.length<=1000:=by rw [BX];decide
theorem P7:∀ n<26,abc.cps.toList[n]?=some (97+n):=by decide +kernel
theorem TU {i:Int}(h0:0<=i) (h1:i<26) (q:∀ y:Str,y.length=1->y.cps[0]?=some (97+i.toNat)->Q (.str y) H):rIx K (.str abc) (.int i) H Q:=by
 obtain ⟨n,rfl⟩:=EI h0;exact .inr (.inr ⟨abc,n,97+n,rfl,rfl,KA P6,QP (P7 n (by omega)),q _ rfl rfl⟩)
theorem LL (a b:Str):(a++b).length=a.length+b.length:=by
 show (a.cps++b.cps).size=_;rw [Array.size_append];rfl
theorem Hl {a b:Str}(h:n<a.length):(a++b).cps[n]?=a.cps[n]?:=by
 show (a.cps++b.cps)[n]?=_;rw [Array.getElem?_append_left h]
theorem Hk {a b:Str}:(a++b).cps[a.length]?=b.cps[0]?:=by
 show (a.cps++b.cps)[a.cps.size]?=_;rw [Array.getElem?_append_right (Ft _),Er]
def NmAt (pre:Bool) (sz at':Nat) (w:Int) (n:Nat) (z:Str):Prop:=z.length<=8/\1<=z.length/\if pre=true then z.length=n+1 else z.cps[at']?=some (97+((w+n) % 26).toNat)
theorem NmAt.ne {pre:Bool}{sz at' n m:Nat}{w:Int}{y z:Str}(h:NmAt pre sz at' w n y) (h':NmAt pre sz at' w m z) (hn:n<8) (hm:m<8) (ne:n≠m):y≠z:=fun e=>by
 subst e;obtain ⟨_,_,h⟩:=h;obtain ⟨_,_,h'⟩:=h';cases pre with
 | true=>rw [Fs rfl] at h h';omega
 | false=>
  rw [Fl (by decide)] at h h';rw [h] at h';have:=FF h';omega
inductive φnames (K:W.Frag) (x:V) (H:Hp) (Q:VK):Prop
 | mk (c:Int) (h1:x=.int c) (hc:Bd 1048576 c) (h2:∀ l (nms:List Str) H',H l=none->Same H H'->H' l=some (.lst (nms.map V.str))->nms.length=8->nms.Nodup->(∀ z∈nms,z.length<=8/\1<=z.length)->Q (.ref l) H'):φnames K x H Q
theorem Mr {zs:List Str}{pre:Bool}{sz at':Nat}{w:Int}(h:∀ (n:Nat) z,zs[n]?=some z->NmAt pre sz at' w n z) (hl:zs.length=8) {f:Nat->Nat}(hf:∀ i,f i<8) (inj:∀ i j,i<8->j<8->f i=f j->i=j) {nms:List Str}(hn:nms.length=8) (e:∀ (i:Nat) z,nms[i]?=some z->zs[f i]?=some z):nms.Nodup:=by
 refine List.pairwise_iff_getElem.mpr fun i j hi hj hij he=>?_
 exact (h _ _ (e i _ (Fu hi))).ne (h _ _ (e j _ (Fu hj))) (hf i) (hf j) (fun z=>by have:=inj i j (by omega) (by omega) z;omega) he
def WdI (c:Int) (H:Hp) (i:Nat) (acc:List V) (σ':L2.St) (H':Hp):Prop:=∃ (x0:Option V) (wd:List Int),σ'=[x0,some (.int c)]/\H'=H/\acc=wd.map V.int/\wd.length=i/\∀ d∈wd,0<=d/\d<26
def NaI (c sz at':Int) (wd:List Int) (pw p:Addr) (pre:Bool) (H:Hp) (i:Nat) (σ':L2.St) (H':Hp):Prop:=∃ (zs:List Str) (x6 x7 x8:Option V),σ'=[some (.int c),some (.str abc),some (.int sz),some (.int at'),some (.ref pw),some (.ref p),x6,x7,x8,none]/\Same H H'/\H' p=some (.lst (zs.map V.str))/\H' pw=some (.lst (wd.map V.int))/\zs.length=i/\∀ (n:Nat) z,zs[n]?=some z->NmAt pre sz.toNat at'.toNat (wd.getD at'.toNat 0) n z
theorem Uy (T:Tx K mg t) (F:Fun K "_law_names" "_law_names" Yq f fd):FnOk P w K mg base CX0 1 f fd ["_law_cell"] (Sp1 (φnames K)):=by
 refine F.ok sc_l_names Wq (fun cdv A outer s H vs Q E hr h=>?_);obtain ⟨_,rfl,c,rfl,hc,q⟩:=h;refine ⟨_,((Qc (Qk (i:=1) sc_l_names.nd rfl (Or.inr rfl) QR)
   (Qc (Qk (i:=2) sc_l_names.nd rfl (Or.inl rfl) (Qg Qv Qb (Qg Qt (pu 0) Qb)))
   (Qc (Qk (i:=3) sc_l_names.nd rfl (Or.inl rfl) (Qg Qt (Qg Qz (pu 0) Qb) (pu 2)))
   (Qc (Qk (i:=4) sc_l_names.nd rfl (Or.inr rfl) (Q8 (N:=["_law_j","_law_cell"]) (caps:=[none,some 0]) rfl ZR (QQ rfl T.aQ (Qa Qb Qd)) (fun _ _ _ _=>Ql (i:=0) (show (["_law_j","_law_cell"]:List Str).Nodup by decide +kernel) rfl (Or.inl rfl) (.inr rfl)) (fun _ _ _ _=>QW) (fun _ _ _ _=>(Qg Qt (Qg Qv (Qg Qt (Qg Qy (Qg Qy (Qg Qz (pu 1) Qb) (Qg Qv (pu 0) Qb)) Qb) Qb) (Qg Qy (pu 0) (pu 0))) Qb))))
   (Qc (Qk (i:=5) sc_l_names.nd rfl (Or.inr rfl) (QC Qd))
   (Qc (QG FL rfl (QQ rfl T.aQ (Qa Qb Qd)) (Ql (i:=6) sc_l_names.nd rfl (Or.inl rfl))
   (Qc (Qk (i:=7) sc_l_names.nd rfl (Or.inl rfl) QR)
   (Qc (QG FL rfl (QQ rfl T.aQ (Qa (pu 2) Qd)) (Ql (i:=8) sc_l_names.nd rfl (Or.inl rfl))
   (Qf (Qk (i:=7) sc_l_names.nd rfl (Or.inl rfl) (Qg Qv (pu 7) (Qp (ixK K rfl) (pu 1) (Qg Qt (Qg Qv (Qp (ixK K rfl) (pu 4) (pu 8) (fun _ _=>rfl)) (Qg Qy (pu 6) (QJ WO (by rfl) T.cT boot_int (Qa (Zl (eqM K rfl hr.units) (pu 8) (pu 3) (Qu _)) Qd)))) Qb) (fun _ _=>rfl))))))
   (Qc (QL (Qq (eqM K rfl hr.units) (Qg Qt (Qg Qz (pu 0) Qb) Qb) Qb (Qu _)) (Qf (Qk (i:=7) sc_l_names.nd rfl (Or.inl rfl) (Zb K rfl PySem.F.plainAttrs_str PySem.F.slot_str_join PySem.F.type_str_join (Bo K rfl) QR (Qa (Q8 (N:=["_law_j","_law_letters","_law_word"]) (caps:=[none,some 1,some 4]) rfl ZR (QQ rfl T.aQ (Qa (Qg Qv (pu 6) Qb) Qd)) (fun _ _ _ _=>Ql (i:=0) (show (["_law_j","_law_letters","_law_word"]:List Str).Nodup by decide +kernel) rfl (Or.inl rfl) (.inr rfl)) (fun _ _ _ _=>QW) (fun _ _ _ _=>(Qp (ixK K rfl) (pu 1) (Qp (ixK K rfl) (pu 2) (pu 0) (fun _ _=>rfl)) (fun _ _=>rfl)))) Qd)))) Qx)
   (Qf (QS (Zb K rfl F3 F7 F8 QO (pu 5) (Qa (pu 7) Qd))))))))
   (Qc (Qk (i:=9) sc_l_names.nd rfl (Or.inr rfl) (Qp (ixK K rfl) (QC (Qa Qb (Qa Qb (Qa Qb (Qa Qb Qd))))) (Qg Qt (Qg Qz (pu 0) Qb) Qb) (fun _ _=>rfl)))
   (Qf (Qr (Q8 (N:=["_law_k","_law_names_here","_law_step","_law_cell"]) (caps:=[none,some 5,some 9,some 0]) rfl ZR (QQ rfl T.aQ (Qa Qb Qd)) (fun _ _ _ _=>Ql (i:=0) (show (["_law_k","_law_names_here","_law_step","_law_cell"]:List Str).Nodup by decide +kernel) rfl (Or.inl rfl) (.inr rfl)) (fun _ _ _ _=>QW) (fun _ _ _ _=>(Qp (ixK K rfl) (pu 1) (Qg Qt (Qg Qv (Qg Qy (pu 0) (pu 2)) (Qg Qz (pu 3) Qb)) Qb) (fun _ _=>rfl)))))))))))))),?_⟩
 have d8:CDivB 8:=CDivB.small (by decide) (by decide);have d64:CDivB 64:=CDivB.small (by decide) (by decide);have f64:Bd 1048576 (c.fdiv 64):=hc.fdiv;have s0:=FU c (show (8:Int)≠0 by decide);have s1:=FW c (show 0<(8:Int) by decide);generalize hR:ZH (Z4 _ (Zt 5)) _=R;walk_at "go";refine ⟨trivial,d8,by omega,?_⟩;obtain ⟨sz,hsz,sz0,sz1⟩:∃ sz,1+c % 8=sz/\1<=sz/\sz<=8:=⟨_,rfl,by omega,by omega⟩
 rw [hsz];have t0:=FU (c.fdiv 8) (show sz≠0 by omega);have t1:=FW (c.fdiv 8) (show 0<sz by omega);generalize c.fdiv 8 % sz=at' at *;clear hsz s0 s1;simp only [QU];walk_at "go";refine ⟨by decide,by decide,V3 (WdI c H) ⟨none,[],rfl,rfl,rfl,rfl,fun d h=>nomatch h⟩ (by decide) ?_ ?_⟩
 ·rintro i acc _ H1 hi hacc ⟨x0,wd,rfl,e1,rfl,wl,wb⟩;rw [e1];have hi8:i<8:=hi;simp only [ZK];walk_at "go";have e0:(0:Int)+i=i:=Ew _;rw [e0];refine ⟨d64,⟨f64.mono (by decide),kU (by omega)⟩,⟨(f64.mul (show Bd 20 ((i:Int)+1) by unfold Bd;omega)).mono (by decide),kU (by decide)⟩,trivial,⟨kU (by omega),kU (by omega)⟩,trivial,?_⟩;generalize c.fdiv 64*((i:Int)+1)*48271 % 1009+(i:Int)*i=u;refine CN.mk hi (by rw [Fv,FH,Fo];omega) ⟨_,wd++[u % 26],rfl,rfl,by rw [Fz];rfl,by rw [Fv,wl];rfl,fun d hd=>?_⟩;rcases FR.mp hd with h | h
  ·exact wb d h
  ·rw [FE.mp h];exact ⟨FU u (by decide),FW u (by decide)⟩
 rintro acc _ H1 ⟨x0,wd,rfl,e1,rfl,wl,wb⟩ pw hpw;rw [e1] at hpw ⊢;have wl8:wd.length=8:=wl;generalize e_g2:upd H pw _=H2 at *;obtain ⟨g2,k2⟩:=nwH hpw e_g2;have wat:∀ j:Nat,j<8->(wd.map V.int)[j]?=some (.int (wd.getD j 0))/\0<=wd.getD j 0/\wd.getD j 0<26:=fun j hj=>by
  have e:wd[j]?=some (wd.getD j 0):=by rw [Ef,Fu (by omega)];rfl
  exact ⟨by rw [Fx,e];rfl,wb _ (FD e)⟩
 subst hR;generalize hR2:ZH (Z4 _ (Zt 9)) _=R2;walk_at "go";refine ⟨by decide,fun p hp=>?_⟩;generalize e_g3:upd H2 p _=H3 at *;obtain ⟨g3,k3⟩:=nwH hp e_g3;have g03:=g2.trans g3;obtain ⟨pre,hpre⟩:∃ b:Bool,(c.fdiv 64 % 3=1↔b=true):=⟨decide (c.fdiv 64 % 3=1),by simp⟩
 refine ⟨by decide,by decide,J0 (NaI c sz at' wd pw p pre H) ⟨[],none,none,none,rfl,g03,k3,g3 _ _ k2,rfl,fun n z h=>by simp at h⟩ ?_ ?_⟩
 ·rintro i _ H4 hi ⟨zs,x6,x7,x8,rfl,g4,k4,w4,zl,za⟩;have hi8:i<8:=hi;generalize hR3:ZH (Ud _ _ _) _=R3;walk_at "go";have e0:(0:Int)+i=i:=Ew _;rw [e0];refine ⟨by omega,by omega,J0 (fun j σ' H'=>∃ (z:Str) (y8:Option V),σ'=[some (.int c),some (.str abc),some (.int sz),some (.int at'),some (.ref pw),some (.ref p),some (.int i),some (.str z),y8,none]/\H'=H4/\z.length=j/\(at'.toNat<j->z.cps[at'.toNat]?=some (97+((wd.getD at'.toNat 0+i) % 26).toNat))) ⟨Str.ofString "",x8,rfl,rfl,rfl,fun h=>absurd h (by omega)⟩ ?_ ?_⟩
  ·rintro j _ H5 hj ⟨z,y8,rfl,e5,zlen,zat⟩;rw [e5];have hj8:j<8:=by omega
   have e0:(0:Int)+j=j:=Ew _;rw [e0];obtain ⟨wv,w0,w1⟩:=wat j hj8;walk_at "go";refine Zj (SqL.of w4) (QP wv) (.inr ⟨_,rfl,?_⟩);have fin:∀ u:Int,((j:Int)=at'->u=wd.getD j 0+i)->sAdd (V.int (wd.getD j 0)) (V.int (u-wd.getD j 0)) H4 fun x H1=>
       sI (fun x j=>0<j) (fun i j=>V.int (i % j)) x (V.int 26) H1 fun y H2=>
        rIx K (V.str abc) y H2 fun y H2=>
         sAdd (V.str z) y H2 fun x H1=>
          ∃ (z:Str) (y8:Option V),
           [some (V.int c),some (V.str abc),some (V.int sz),some (V.int at'),some (V.ref pw),some (V.ref p),some (V.int i),some x,some (V.int j),none] =
             [some (V.int c),some (V.str abc),some (V.int sz),some (V.int at'),some (V.ref pw),some (V.ref p),some (V.int i),some (V.str z),y8,none] /\
            H1=H4/\z.length=j+1/\(at'.toNat<j+1->z.cps[at'.toNat]?=some (97+((wd.getD at'.toNat 0+i) % 26).toNat)):=fun u hu=>by
    walk_at "go";rw [show wd.getD j 0+(u-wd.getD j 0)=u by omega];refine ⟨by decide,TU (FU u (by decide)) (FW u (by decide)) fun y hy yc=>?_⟩;walk_at "go";refine ⟨KA (by omega),z++y,_,rfl,(by first | rfl | trivial),by rw [LL];omega,fun hlt=>?_⟩;by_cases c1:(j:Int)=at'
    ·have e:at'.toNat=z.length:=by omega
     rw [e,Hk,yc,hu c1];have:z.length=j:=zlen;rw [this]
    ·rw [Hl (by omega)];exact zat (by omega)
   by_cases c1:(j:Int)=at'
   ·rw [Fs (EC c1)];refine ⟨⟨kU (by omega),kU (by decide)⟩,?_⟩;have:=fin (wd.getD j 0+i) (fun _=>rfl);rw [show wd.getD j 0+(i:Int)-wd.getD j 0=(i:Int)*1 by omega] at this;exact this
   ·rw [Fl (by simpa using c1)];refine ⟨⟨kU (by omega),kU (by decide)⟩,?_⟩;have:=fin (wd.getD j 0) (fun h=>absurd h c1);rw [show wd.getD j 0-wd.getD j 0=(i:Int)*0 by omega] at this;exact this
  ·rintro _ H5 ⟨z,y8,rfl,e5,zlen,zat⟩;rw [e5];have szn:((sz.toNat:Nat):Int)=sz:=by omega
   show R3 _ _ _;generalize hR4:Jo _=R4 at hR3;have key:∀ (D:Q3) (z:Str) (y8:Option V) (H6:Hp),D.nx=NaI c sz at' wd pw p pre H (i+1)->Same H4 H6->NmAt pre sz.toNat at'.toNat (wd.getD at'.toNat 0) i z->R4 D [some (V.int c),some (V.str abc),some (V.int sz),some (V.int at'),some (V.ref pw),some (V.ref p),some (V.int i),some (V.str z),y8,none] H6:=by
    intro D z y8 H6 hD g6 hz;subst hR4;have k6:=g6 _ _ k4;have pn:pw≠p:=fun e=>by rw [<-e,k2] at hp;cases hp
    walk_at "go";refine ⟨.inl ⟨rfl,_,SqL.of k6⟩,QV k6 (QF (by rw [Fo];omega)) ?_⟩;rw [hD];refine ⟨zs++[z],_,_,_,rfl,QB (g4.trans g6) (g2.free hp),by rw [Qe,Fz];rfl,by rw [Qj pn];exact g6 _ _ w4,by rw [Fv,zl];rfl,fun n y hn=>?_⟩;rcases Yc hn with ⟨h1,_⟩ | ⟨h1,rfl⟩
    ·exact za n y h1
    ·rw [h1,zl];exact hz
   subst hR3;walk_at "go";refine ⟨d64,by decide,QK (fun c2=>?_) (fun c2=>?_)⟩
   ·simp only [QU];walk_at "go";refine ⟨(by first | exact rfl | exact ⟨_,rfl⟩ | trivial),by omega,by omega,V3 (fun j acc σ' H'=>∃ (x0:Option V) (ys:List Str),σ'=[x0,some (.str abc),some (.ref pw)]/\H'=H4/\acc=ys.map V.str/\ys.length=j/\∀ y∈ys,y.length=1) ⟨none,[],rfl,rfl,rfl,rfl,fun y h=>nomatch h⟩ (by omega) ?_ ?_⟩
    ·rintro j acc _ H5 hj hacc ⟨x0,ys,rfl,e6,rfl,yl,y1⟩;rw [e6];have e0:(0:Int)+j=j:=Ew _;rw [e0];obtain ⟨wv,w0,w1⟩:=wat j (by omega);simp only [ZK];walk_at "go";refine Zj (SqL.of w4) (QP wv) (TU w0 w1 fun y hy yc=>?_);refine CN.mk hj (by rw [Fv,FH,Fo];omega) ⟨_,ys++[y],rfl,rfl,by rw [Fz];rfl,by rw [Fv,yl];rfl,fun u hu=>?_⟩;rcases FR.mp hu with h | h
     ·exact y1 u h
     ·rw [FE.mp h];exact hy
    ·rintro acc _ H5 ⟨x0,ys,rfl,e6,rfl,yl,y1⟩ pj hpj;rw [e6] at hpj ⊢;have jl:=W.KT.join_ones ys y1;have yl':ys.length=i+1:=by omega
     refine ⟨_,pj,ys,rfl,rfl,SqL.of Qe,?_,?_⟩
     ·have e:(ys.map (·.length)).sum<=ys.length:=by
       clear yl yl' jl hpj
       induction ys with
       | nil=>exact Ft _
       | cons y t ih=>rw [F5,List.sum_cons,En,y1 y Ea];have:=ih (fun u hu=>y1 u (F9 _ hu));omega
      have e2:(Str.ofString "").length=0:=rfl;rw [e2];omega
     ·refine key _ _ y8 _ rfl (Qi hpj _) ⟨by rw [jl];omega,by rw [jl];omega,?_⟩;rw [hpre.mp c2,Fs rfl,jl];exact yl'
   ·refine key _ z y8 H4 rfl (Same.refl _) ⟨by omega,by omega,?_⟩;have:pre=false:=by cases pre with | true=>exact absurd (hpre.mpr rfl) c2 | false=>rfl
    rw [this,Fl (by decide)];exact zat (by omega)
 ·rintro _ H4 ⟨zs,x6,x7,x8,rfl,g4,k4,w4,zl,za⟩;show R2 _ _ _;subst hR2;walk_at "go";refine ⟨by decide,fun p5 hp5=>⟨CDivB.small (by decide) (by decide),trivial,?_⟩⟩;generalize e_g5:upd H4 p5 _=H5 at *;obtain ⟨g5,k5⟩:=nwH hp5 e_g5;have f0:=FU (c.fdiv 192) (show (4:Int)≠0 by decide);have f1:=FW (c.fdiv 192) (show 0<(4:Int) by decide);obtain ⟨v,hv,hv'⟩:∃ v:Int,atI [V.int 1,V.int 3,V.int 5,V.int 7] (c.fdiv 192 % 4)=some (.int v)/\(v=1∨v=3∨v=5∨v=7):=by
   rcases (show c.fdiv 192 % 4=0∨c.fdiv 192 % 4=1∨c.fdiv 192 % 4=2∨c.fdiv 192 % 4=3 by omega) with e | e | e | e <;> rw [e]
   ·exact ⟨1,rfl,by decide⟩
   ·exact ⟨3,rfl,by decide⟩
   ·exact ⟨5,rfl,by decide⟩
   ·exact ⟨7,rfl,by decide⟩
  have zl8:zs.length=8:=zl;refine Zj (SqL.of k5) hv ?_;simp only [QU];walk_at "go";generalize hsh:c.fdiv 768=sh;refine ⟨by decide,by decide,V3 (fun j acc σ' H'=>∃ (x0:Option V) (ys:List Str),σ'=[x0,some (.ref p),some (.int v),some (.int c)]/\H'=H5/\acc=ys.map V.str/\ys.length=j/\∀ (n:Nat) y,ys[n]?=some y->zs[(((n:Int)*v+sh) % 8).toNat]?=some y) ⟨none,[],rfl,rfl,rfl,rfl,fun n y h=>by simp at h⟩ (by decide) ?_ ?_⟩
  ·rintro j acc _ H6 hj hacc ⟨x0,ys,rfl,e6,rfl,yl,ya⟩;rw [e6];have hj8:j<8:=hj;have e0:(0:Int)+j=j:=Ew _;rw [e0];simp only [ZK];walk_at "go";rw [hsh];refine ⟨⟨kU (by omega),kU (by omega)⟩,CDivB.small (by decide) (by decide),by decide,?_⟩;have u0:=FU ((j:Int)*v+sh) (show (8:Int)≠0 by decide);have u1:=FW ((j:Int)*v+sh) (show 0<(8:Int) by decide);have hz:zs[(((j:Int)*v+sh) % 8).toNat]?=some (zs.getD (((j:Int)*v+sh) % 8).toNat (Str.ofString "")):=by
    rw [Ef,Fu (by omega)];rfl
   refine Zj (v:=.str (zs.getD (((j:Int)*v+sh) % 8).toNat (Str.ofString ""))) (SqL.of (g5 _ _ k4)) ?_ ?_
   ·have:=QP (xs:=zs.map V.str) (j:=(((j:Int)*v+sh) % 8).toNat) (v:=.str (zs.getD (((j:Int)*v+sh) % 8).toNat (Str.ofString ""))) (by rw [Fx,hz];rfl);rwa [Int.toNat_of_nonneg u0] at this
   ·refine CN.mk hj (by rw [Fv,FH,Fo];omega) ⟨_,ys++[zs.getD (((j:Int)*v+sh) % 8).toNat (Str.ofString "")],rfl,rfl,by rw [Fz];rfl,by rw [Fv,yl];rfl,fun n y hn=>?_⟩;rcases Yc hn with ⟨h1,_⟩ | ⟨h1,rfl⟩
    ·exact ya n y h1
    ·rw [h1,yl];exact hz
  ·rintro acc _ H6 ⟨x0,ys,rfl,e6,rfl,yl,ya⟩ pl hpl;rw [e6] at hpl ⊢;have yl8:ys.length=8:=yl;refine q pl ys _ ((g4.trans g5).free hpl) ((g4.trans g5).trans (Qi hpl _)) Qe yl8 ?_ (fun y hy=>?_)
   ·refine Mr za zl8 (f:=fun n=>(((n:Int)*v+sh) % 8).toNat) (fun n=>by have:=FU ((n:Int)*v+sh) (show (8:Int)≠0 by decide);have:=FW ((n:Int)*v+sh) (show 0<(8:Int) by decide);show (((n:Int)*v+sh) % 8).toNat<8;omega) (fun a b ha hb he=>?_) yl8 ya;have he:(((a:Int)*v+sh) % 8).toNat=(((b:Int)*v+sh) % 8).toNat:=he;rcases hv' with rfl | rfl | rfl | rfl <;> omega
   ·obtain ⟨n,hn⟩:=Ee hy;have:=za _ _ (ya n y hn);exact ⟨this.1,this.2.1⟩
def Sg (K:W.Frag) (H:Hp) (s:Bool×List Int) (v:V):Prop:=∃ p lp,v=.ref p/\SqT K H p [.bl s.1,.ref lp]/\H lp=some (.lst (s.2.map V.int))
inductive φseg (K:W.Frag) (x:V) (y:V) (H:Hp) (Q:VK):Prop
 | mk (a:Addr) (ns:List Int) (m:Nat) (h1:x=.ref a) (h2:y=.int m) (h3:SqL K H a (ns.map V.int)) (h4:Ka ns) (h5:m<=8)
   (h6:∀ l segs vs H',H l=none->Same H H'->H' l=some (.lst vs)->All2 (Sg K H') segs vs->(segs.map (·.2)).flatten.Perm ((List.range m).map fun (i:Nat)=>(i:Int))->Q (.ref l) H'):φseg K x y H Q
theorem X4 (h:Ka ns) (k:Int):Bd 1048576 (cl ns k):=by
 unfold cl;rw [Ef];cases q:ns[k.toNat]? with
 | none=>exact Nat.two_pow_pos _
 | some i=>exact h i (FD q)
theorem BW {R:α->V->Prop}(p:ws.Perm vs):∀ {rs:List α},All2 R rs vs->∃ rs':List α,rs'.Perm rs/\All2 R rs' ws:=by
 have cons:∀ {r:α} {v:V} {rs:List α} {vs:List V},R r v->All2 R rs vs->All2 R (r :: rs) (v :: vs):=fun {r v rs vs} hr h=>by
  refine ⟨by simp [h.1],fun i q u a b=>?_⟩;cases i with
  | zero=>simp at a b;subst a;subst b;exact hr
  | succ i=>simp at a b;exact h.2 i q u a b
 have inv:∀ {rs:List α} {v:V} {vs:List V},All2 R rs (v :: vs)->∃ r rs',rs=r :: rs'/\R r v/\All2 R rs' vs:=fun {rs v vs} h=>by
  obtain ⟨h1,h2⟩:=h;cases rs with
  | nil=>simp at h1
  | cons r rs'=>exact ⟨r,rs',rfl,h2 0 r v rfl rfl,by simpa using h1,fun i q u a b=>h2 (i+1) q u (by simpa using a) (by simpa using b)⟩
 induction p with
 | nil=>intro rs h;exact ⟨rs,.refl _,h⟩
 | cons x p ih=>
  intro rs h;obtain ⟨r,rs',rfl,hr,h'⟩:=inv h;obtain ⟨rs2,p2,h2⟩:=ih h';exact ⟨r :: rs2,p2.cons r,cons hr h2⟩
 | swap x y l=>
  intro rs h;obtain ⟨r,rs',rfl,hr,h'⟩:=inv h;obtain ⟨r2,rs2,rfl,hr2,h2⟩:=inv h';exact ⟨r2 :: r :: rs2,.swap _ _ _,cons hr2 (cons hr h2)⟩
 | trans p q ih1 ih2=>
  intro rs h;obtain ⟨rs1,p1,h1⟩:=ih2 h;obtain ⟨rs2,p2,h2⟩:=ih1 h1;exact ⟨rs2,p2.trans p1,h2⟩
theorem VI {l:List Int}(h:SqL K H a (l.map V.int)):Rep K H (.lst (l.map D.int)) (.ref a):=by
 refine .lst h (by simp) fun i d x h1 h2=>?_
 rw [Fx] at h1 h2;obtain ⟨z,hz,rfl⟩:=FO.mp h1;rw [hz] at h2;cases h2;exact .int _
theorem BO {l:List Int}:DB 30 (.lst (l.map D.int)):=.lst fun d hd=>by
 obtain ⟨z,_,rfl⟩:=FK.mp hd;exact .int _
theorem Bu {l m:List Int}:l=m↔(D.lst (l.map D.int)=.lst (m.map D.int)):=⟨fun e=>by rw [e],fun e=>by
 injection e with e
 exact List.map_inj_right (fun a b h=>by injection h) |>.mp e⟩
theorem Vo {j:Nat}:YN xs (some (j:Int)) none=xs.drop j:=by
 unfold YN;rw [HT.sIx_nat,HT.sIx_none];by_cases h:j<=xs.length
 ·rw [Nat.min_eq_left h];exact EX (by rw [Et];exact Ft _)
 ·rw [Nat.min_eq_right (by omega),List.drop_eq_nil_of_le (Ft _),List.drop_eq_nil_of_le (by omega)];simp
theorem UR {j:Nat}:YN xs none (some (j:Int))=xs.take j:=by
 unfold YN;rw [HT.sIx_nat,HT.sIx_none];show (xs.drop 0).take (min j xs.length-0)=_;rw [List.drop_zero,Nat.sub_zero];by_cases h:j<=xs.length
 ·rw [Nat.min_eq_left h]
 ·rw [Nat.min_eq_right (by omega),EX (Ft _),EX (by omega)]
def SgW (K:W.Frag) (a:Addr) (m:Nat) (pf:Addr) (H:Hp) (rk:List Int) (n:Nat) (σ':L2.St) (H':Hp):Prop:=∃ (segs:List (Bool×List Int)) (vs:List V) (rk':List Int) (lr:Addr) (x4 x5:Option V),σ'=[some (.ref a),some (.int m),some (.ref lr),some (.ref pf),x4,x5]/\Same H H'/\H' lr=some (.lst (rk'.map V.int))/\lr≠pf/\H' pf=some (.lst vs)/\All2 (fun (s:Bool×List Int) v=>∃ p lp,v=V.ref p/\H' p=some (.tup [.bl s.1,.ref lp])/\H' lp=some (.lst (s.2.map V.int))/\lp≠pf/\p≠pf) segs vs/\((segs.map (·.2)).flatten++rk').Perm rk/\rk'.length=n/\segs.length+n<=8
theorem JW (T:Tx K mg t) (F:Fun K "_law_segments" "_law_segments" Z6 f fd) (aI:Cal P w K mg base 1 "_law_cell_at" ["_law_script","_law_k"] (Sp2M (φcell K))):FnOk P w K mg base CX0 2 f fd ["_law_script","_law_many"] (Sp2 (φseg K)):=by
 refine F.ok sc_l_segments ZV (fun cdv A outer s H vs Q E hr h=>?_);obtain ⟨_,_,rfl,a,ns,m,rfl,rfl,hS,hB,hm,q⟩:=h;refine ⟨_,((Qc (Qk (i:=2) sc_l_segments.nd rfl (Or.inl rfl) (Qo (Vs K rfl) (by rfl) T.dJ boot_sorted (Qa (Q8 (N:=["_law_k","_law_script"]) (caps:=[none,some 0]) rfl ZR (QQ rfl T.aQ (Qa (pu 1) Qd)) (fun _ _ _ _=>Ql (i:=0) (show (["_law_k","_law_script"]:List Str).Nodup by decide +kernel) rfl (Or.inl rfl) (.inr rfl)) (fun _ _ _ _=>QW) (fun _ _ _ _=>(QE (Qa (Qg Qt (Qg Qy (Qg Qv (Qs aI (hrm hr) rfl (Qa (pu 1) (Qa (Qg Qv Qb (Qg Qy Qb (pu 0))) Qd))) (Qg Qy (pu 0) (pu 0))) Qb) Qb) (Qa (pu 0) Qd))))) Qd)))
   (Qc (VJ (i:=2) sc_l_segments.nd rfl (Or.inl rfl) (N:=["_law_rank","_law_k"]) (caps:=[none,none]) rfl ZR (piK K rfl (pu 2)) (fun _ _ _ _=>pgK (n:=2) K rfl rfl (QA (Ql (i:=0) (show (["_law_rank","_law_k"]:List Str).Nodup by decide +kernel) rfl (Or.inl rfl) (.inr rfl)) (QA (Ql (i:=1) (show (["_law_rank","_law_k"]:List Str).Nodup by decide +kernel) rfl (Or.inl rfl) (.inr rfl)) Q7))) (fun _ _ _ _=>QW) (fun _ _ _ _=>(pu 1)))
   (Qc (Qk (i:=3) sc_l_segments.nd rfl (Or.inl rfl) (QC Qd))
   (Qc (XJ FL (Qq (neM K rfl hr.units) (pu 2) (QC Qd) (Qu _)) (Qc (Qk (i:=4) sc_l_segments.nd rfl (Or.inl rfl) (Qs aI (hrm hr) rfl (Qa (pu 0) (Qa (Qg Qv Qb (Qg Qy Qb (Qp (ixK K rfl) (pu 2) Qb (fun _ _=>rfl)))) Qd))))
   (Qc (Qk (i:=5) sc_l_segments.nd rfl (Or.inl rfl) Qb)
   (Qc (QL (Qq (eqM K rfl hr.units) (Qg Qt (pu 4) Qb) Qb (Qu _)) (Qf (Qk (i:=5) sc_l_segments.nd rfl (Or.inl rfl) (Qg Qv Qb (Qg Qt (Qg Qz (pu 4) Qb) Qb)))) Qx)
   (Qc (QS (Zb K rfl F3 F7 F8 QO (pu 3) (Qa (QE (Qa (Zl (eqM K rfl hr.units) (Qg Qt (pu 4) Qb) Qb (Qu _)) (Qa (Xh (slK K rfl) (pu 2) XZ (XY (pu 5))) Qd))) Qd)))
   (Qf (Qk (i:=2) sc_l_segments.nd rfl (Or.inl rfl) (Xh (slK K rfl) (pu 2) (XY (pu 5)) XZ))))))))
   (Qf (Qr (pu 3)))))))),?_⟩
 generalize hR:ZH (Z4 _ (Zt 3)) _=R;walk_at "go";simp only [QU];walk_at "go";refine ⟨by omega,by omega,V3 (fun i acc σ' H'=>∃ (x0:Option V) (ks:List (Int×Nat)),σ'=[x0,some (.ref a)]/\Same H H'/\All2 (fun (k:Int×Nat) v=>∃ p,v=.ref p/\SqT K H' p [.int k.1,.int k.2]) ks acc/\ks.map (·.2)=List.range i) ⟨none,[],rfl,Same.refl _,All2.nil,rfl⟩ (by omega) ?_ ?_⟩
 ·rintro i acc _ H1 hi hacc ⟨x0,ks,rfl,g1,hA,hk⟩;have e0:(0:Int)+i=i:=Ew _;rw [e0];have hi8:i<8:=by omega
  simp only [ZK];walk_at "go";refine ⟨⟨kU (by decide),kU (by omega)⟩,a,ns,_,rfl,rfl,g1.seq hS,by omega,⟨kU (by omega),kU (by omega)⟩,?_⟩;have ii:((i:Int)*i).natAbs<64:=by
   have e:((i:Int)*i).natAbs=i*i:=by rw [EH];rfl
   have:i*i<=7*7:=Nat.mul_le_mul (by omega) (by omega);omega
  have cb:Bd 1048577 (cl ns (2+6*(i:Int))+(i:Int)*i):=((X4 hB _).add (show Bd 20 ((i:Int)*i) by unfold Bd;omega)).mono (by decide);walk_at "go";refine ⟨⟨cb.mono (by decide),kU (by decide)⟩,by decide,by decide,fun p hp=>?_⟩;generalize (cl ns (2+6*(i:Int))+(i:Int)*i)*48271 % 1009=u;have g2:=Qi hp (.tup [.int u,.int i]);refine CN.mk hi (by rw [Fv,FH];omega) ⟨_,ks++[(u,i)],rfl,g1.trans g2,(hA.imp fun _ _ ⟨p',e,h⟩=>⟨p',e,g2.sqT h⟩).snoc ⟨p,rfl,SqT.of Qe⟩,?_⟩;rw [Fz,hk,List.range_succ];rfl
 ·rintro acc _ H1 ⟨x0,ks,rfl,g1,hA,hk⟩ l hl;have mm:((m:Int)).toNat=m:=by omega
  rw [mm] at hk;generalize e_g2:upd H1 l _=H2 at *;obtain ⟨g2,k2⟩:=nwH hl e_g2;have hA2:All2 (fun (k:Int×Nat) v=>∃ p,v=V.ref p/\SqT K H2 p [.int k.1,.int k.2]) ks acc:=hA.imp fun _ _ ⟨p',e,h⟩=>⟨p',e,g2.sqT h⟩
  have kl:ks.length=m:=by have:=congrArg List.length hk;rwa [Fo,E9] at this
  refine ⟨l,acc,[false],rfl,SqL.of k2,by rw [<-hA.1];omega,fun y hy=>?_,fun l3 zs hl3 pz=>?_⟩
  ·obtain ⟨n,hn⟩:=Ee hy;obtain ⟨k,_,p,rfl,hT⟩:=hA2.getV hn;exact ⟨p,_,rfl,hT,.cons (show GF false (V.int k.1) from ⟨_,rfl⟩) (.cons (show GF false (V.int k.2) from ⟨_,rfl⟩) .nil)⟩
  generalize e_g3:upd H2 l3 _=H3 at *;obtain ⟨g3,k3⟩:=nwH hl3 e_g3;obtain ⟨ks',kp,hA3⟩:∃ ks',ks'.Perm ks/\All2 (fun (k:Int×Nat) v=>∃ p,v=V.ref p/\SqT K H3 p [.int k.1,.int k.2]) ks' zs:=BW pz (hA2.imp fun _ _ ⟨p',e,h⟩=>⟨p',e,g3.sqT h⟩);have zl:zs.length=m:=by rw [<-hA3.1,kp.length_eq,kl]
  refine ⟨l3,rfl,⟨_,SqL.of k3⟩,Zy (xs:=zs) (fun j acc σ' H'=>∃ x0 x1:Option V,σ'=[x0,x1]/\H'=H3/\acc=(ks'.take j).map fun k=>V.int k.2) ⟨none,none,rfl,rfl,rfl⟩ (fun j acc σ' H' _ h=>by obtain ⟨_,_,_,rfl,_⟩:=h;exact SqL.of k3) (by omega) ?_ ?_⟩
  ·rintro j u acc' _ H4 hu hacc ⟨y0,y1,rfl,e4,rfl⟩;rw [e4];obtain ⟨k,hk',p,rfl,hT⟩:=hA3.getV hu;refine ZG hT rfl ?_;walk_at "go";simp only [ZK];walk_at "go";refine CN.mk (Qw hu) (by simp;omega) ⟨_,_,rfl,rfl,?_⟩;rw [FA,hk',Fz];rfl
  ·rintro acc' _ H4 ⟨y0,y1,rfl,e4,rfl⟩ l5 hl5;rw [e4] at hl5 ⊢;rw [<-hA3.1,FC];have g5:=Qi hl5 (.lst (ks'.map fun k=>V.int k.2));obtain ⟨rk,hrk⟩:∃ rk:List Int,ks'.map (fun k=>V.int (k.2:Int))=rk.map V.int/\rk.Perm ((List.range m).map fun (i:Nat)=>(i:Int)):=⟨ks'.map fun k=>(k.2:Int),by rw [El];rfl,by
    have:=(kp.map fun k=>(k.2:Int))
    have e:(ks.map fun k=>(k.2:Int))=(List.range m).map fun (i:Nat)=>(i:Int):=by rw [<-hk,El];rfl
    rwa [e] at this⟩
   have k5:(upd H3 l5 (.lst (ks'.map fun k=>V.int k.2))) l5=some (.lst (rk.map V.int)):=by rw [Qe,hrk.1]
   have rkp:=hrk.2;generalize upd H3 l5 (.lst (ks'.map fun k=>V.int k.2))=H5 at *;have g05:=g1.trans (g2.trans (g3.trans g5));clear hA hA2 hA3 kp hk kl zl k2 k3 g1 g2 g3 g5 hrk pz hl hl3 hl5;subst hR;walk_at "go";refine ⟨by decide,fun pf hpf=>?_⟩;generalize e_g6:upd H5 pf _=H6 at *;obtain ⟨g6,k6⟩:=nwH hpf e_g6;have r6:=g6 _ _ k5;have lf0:l5≠pf:=fun e=>by rw [<-e,k5] at hpf;cases hpf
   have pf0:H pf=none:=g05.free hpf;have g06:=g05.trans g6;have rl:rk.length<=8:=by rw [rkp.length_eq,Fo,E9];exact hm
   refine ⟨SgW K a m pf H rk,⟨_,[],[],rk,l5,none,none,rfl,g06,r6,lf0,k6,All2.nil,.refl _,rfl,by simpa using rl⟩,?_⟩;rintro n _ H7 ⟨segs,vs,rk',lr,x4,x5,rfl,g7,r7,lf,f7,hS7,pm7,rn,sn⟩;generalize hR2:ZH (Jo _) _=R2;walk_at "go";refine ⟨by decide,fun pe hpe=>?_⟩;generalize e_g8:upd H7 pe _=H8 at *;obtain ⟨g8,k_g8⟩:=nwH hpe e_g8;have r8:=g8 _ _ r7;have f8:=g8 _ _ f7;have hS8:All2 (fun (s:Bool×List Int) v=>∃ p lp,v=V.ref p/\H8 p=some (.tup [.bl s.1,.ref lp])/\H8 lp=some (.lst (s.2.map V.int))/\lp≠pf/\p≠pf) segs vs:=hS7.imp fun _ _ ⟨p,lp,e,h1,h2,h3,h4⟩=>⟨p,lp,e,g8 _ _ h1,g8 _ _ h2,h3,h4⟩
   refine WW (b:=decide (rk'=[])) (VI (SqL.of r8)) (VI (l:=[]) (SqL.of k_g8)) BO (by rw [EM,Bu]) ?_;have g08:=g7.trans g8;cases rk' with
   | nil=>
    rw [EC rfl];walk_at "go";refine q pf segs vs H8 pf0 g08 f8 (hS8.imp fun _ _ ⟨p,lp,e,h1,h2,_,_⟩=>⟨p,lp,e,SqT.of h1,h2⟩) ?_;rw [Ec] at pm7;exact pm7.trans rkp
   | cons r0 rt=>
    rw [F6 (by simp)];have r0m:r0∈(List.range m).map fun (i:Nat)=>(i:Int):=rkp.mem_iff.mp (pm7.mem_iff.mp (FR.mpr (.inr Ea)))
    obtain ⟨rn0,hrn0,er0⟩:=FK.mp r0m;rw [List.mem_range] at hrn0;have b0:0<=r0/\r0<8:=⟨by omega,by omega⟩
    have rtl:(r0 :: rt).length=rt.length+1:=rfl;walk_at "go";refine ⟨fun σ' H'=>∃ m',m'<n/\SgW K a m pf H rk m' σ' H',fun σ' H' h=>h,?_⟩;refine Zj (SqL.of r8) (QP (j:=0) (v:=.int r0) rfl) ?_;walk_at "go";refine ⟨⟨kU (by decide),kU (by omega)⟩,a,ns,_,rfl,rfl,g08.seq hS,by omega,?_⟩;generalize cl ns (3+6*r0)=c;walk_at "go";have key:∀ (D:Q3) (sz:Nat),D.nx=(fun σ' H'=>∃ m',m'<n/\SgW K a m pf H rk m' σ' H')->1<=sz->R2 D [some (.ref a),some (.int m),some (.ref lr),some (.ref pf),some (.int c),some (.int sz)] H8:=by
     intro D sz hD hsz;subst hR2;walk_at "go";refine ⟨.inl ⟨rfl,_,SqL.of f8⟩,by decide,?_⟩;refine Jl (SqL.of r8) fun l9 hl9=>?_
     rw [UR,<-List.map_take];generalize e_g9:upd H8 l9 _=H9 at *;obtain ⟨g9,k9⟩:=nwH hl9 e_g9;have l9f:l9≠pf:=fun e=>by rw [e,f8] at hl9;cases hl9
     refine ⟨by decide,fun p10 hp10=>?_⟩;generalize e_g10:upd H9 p10 _=H10 at *;obtain ⟨g10,k10⟩:=nwH hp10 e_g10;have f9:=g9 _ _ f8;have p10f:p10≠pf:=fun e=>by rw [e,f9] at hp10;cases hp10
     have g810:=g9.trans g10;have hvl:=hS8.1;refine QV (g10 _ _ f9) (QF (by omega)) ?_;have lrn:=g810 _ _ r8;have u1:∀ {q:Addr} {o:HO},q≠pf->H10 q=some o->(upd H10 pf (.lst (vs++[V.ref p10]))) q=some o:=fun h k=>by rw [Qj h];exact k
     have s11:Same H (upd H10 pf (.lst (vs++[V.ref p10]))):=QB (g08.trans g810) pf0;have hS11:All2 (fun (s:Bool×List Int) v=>∃ p lp,v=V.ref p/\(upd H10 pf (.lst (vs++[V.ref p10]))) p=some (.tup [.bl s.1,.ref lp])/\(upd H10 pf (.lst (vs++[V.ref p10]))) lp=some (.lst (s.2.map V.int))/\lp≠pf/\p≠pf) (segs++[(decide (c % 2=1),(r0 :: rt).take sz)]) (vs++[V.ref p10]):=
      (hS8.imp fun _ _ ⟨p,lp,e,h1,h2,h3,h4⟩=>⟨p,lp,e,u1 h4 (g810 _ _ h1),u1 h3 (g810 _ _ h2),h3,h4⟩).snoc ⟨p10,l9,rfl,u1 p10f k10,u1 l9f (g10 _ _ k9),l9f,p10f⟩
     have r11:=u1 lf lrn;have f11:(upd H10 pf (.lst (vs++[V.ref p10]))) pf=some (.lst (vs++[V.ref p10])):=Qe;generalize upd H10 pf (.lst (vs++[V.ref p10]))=H11 at *;refine Jl (SqL.of r11) fun l12 hl12=>?_
     rw [Vo,<-List.map_drop,hD];have g12:=Qi hl12 (.lst (((r0 :: rt).drop sz).map V.int));have dl:((r0 :: rt).drop sz).length=rt.length+1-sz:=by rw [Et,rtl]
     have l12f:l12≠pf:=fun e=>by rw [e,f11] at hl12;cases hl12
     refine ⟨((r0 :: rt).drop sz).length,by rw [dl];omega,segs++[(decide (c % 2=1),(r0 :: rt).take sz)],_,(r0 :: rt).drop sz,l12,_,_,rfl,s11.trans g12,Qe,l12f,g12 _ _ f11,hS11.imp fun _ _ ⟨p,lp,e,h1,h2,h3,h4⟩=>⟨p,lp,e,g12 _ _ h1,g12 _ _ h2,h3,h4⟩,?_,rfl,by rw [Fv,FH,dl];omega⟩;rw [Fz,Dj,List.append_assoc];refine List.Perm.trans ?_ pm7;refine List.Perm.append_left _ ?_;show (([(r0 :: rt).take sz]).flatten++(r0 :: rt).drop sz).Perm (r0 :: rt);rw [List.flatten_singleton,ES]
    refine ⟨by decide,QK (fun _=>?_) (fun _=>key _ 1 rfl (by decide))⟩;have z0:=FU (c.fdiv 2) (show (8:Int)≠0 by decide);refine ⟨CDivB.small (by decide) (by decide),by decide,?_⟩;have:=key { nx:=fun σ' H'=>∃ m',m'<n/\SgW K a m pf H rk m' σ' H',rt:=Q,bk:=GJ (V9 3) { nx:=fun x H'=>Q V.non H',rt:=Q },ct:=fun σ' H'=>∃ m',m'<n/\SgW K a m pf H rk m' σ' H' } (1+c.fdiv 2 % 8).toNat rfl (by omega);rw [Int.toNat_of_nonneg (by omega)] at this;exact this
inductive φgcd (x:V) (y:V) (H:Hp) (Q:VK):Prop
 | mk (a b:Int) (h1:x=.int a) (h2:y=.int b) (h3:0<=a) (h4:0<=b) (h5:Q (.int (Int.gcd a b)) H):φgcd x y H Q
inductive φfrac (x:V) (y:V) (H:Hp) (Q:VK):Prop
 | mk (t b:Int) (h1:x=.int t) (h2:y=.int b) (h3:b≠0) (h4:Bd 9000 b) (h5:∀ p,H p=none->Q (.ref p) (upd H p (.tup [.int (fnum t b),.int (fden t b)]))):φfrac x y H Q
theorem Wa (T:Tx K mg t) (F:Fun K "common_divisor" "common_divisor" Zv f fd):FnOk P w K mg base CX0 1 f fd ["one","other"] (Sp2 φgcd):=by
 refine F.ok sc_common_divisor ZV (fun cdv A outer s H vs Q E hr h=>?_);obtain ⟨_,_,rfl,a,b,rfl,rfl,ha,hb,q⟩:=h;refine ⟨_,((Qc (XJ FL (Qq (neM K rfl hr.units) (pu 1) Qb (Qu _)) (Qc (Qk (i:=2) sc_common_divisor.nd rfl (Or.inl rfl) (Qg Qt (pu 0) (pu 1)))
   (Qc (Qk (i:=0) sc_common_divisor.nd rfl (Or.inl rfl) (pu 1))
   (Qf (Qk (i:=1) sc_common_divisor.nd rfl (Or.inl rfl) (pu 2))))))
   (Qf (Qr (pu 0))))),?_⟩
 walk_at "rd";refine ⟨fun m σ' H'=>∃ (a' b':Int) (r:Option V),σ'=[some (.int a'),some (.int b'),r]/\H'=H/\0<=a'/\0<=b'/\b'.toNat=m/\Int.gcd a' b'=Int.gcd a b,⟨_,a,b,none,rfl,rfl,ha,hb,rfl,rfl⟩,?_⟩;rintro m _ _ ⟨a',b',r,rfl,rfl,ha',hb',rfl,hg⟩;walk_at "rd";by_cases hz:b'=0
 ·subst hz;rw [Fl (by simp)];have e:(Int.gcd a' 0:Int)=a':=MK ha';rw [hg] at e;rw [<-e];exact q
 ·rw [Fs (by simp [hz])];refine ⟨fun σ' H'=>∃ m',m'<b'.toNat/\∃ (a'' b'':Int) (r:Option V),σ'=[some (.int a''),some (.int b''),r]/\H'=_/\0<=a''/\0<=b''/\b''.toNat=m'/\Int.gcd a'' b''=Int.gcd a b,fun _ _ h=>h,?_⟩;refine ⟨by omega,(a' % b').toNat,?_,b',a' % b',_,rfl,rfl,hb',FU _ hz,rfl,?_⟩
  ·have:=FW a' (b:=b') (by omega);have:=FU a' hz;omega
  ·rw [ML ha' (by omega)];exact hg
theorem VO (T:Tx K mg t) (F:Fun K "fraction" "fraction" XW f fd) (eA:Cal P w K mg base 1 "common_divisor" ["one","other"] (Sp2M φgcd)):FnOk P w K mg base CX0 2 f fd ["top","bottom"] (Sp2 φfrac):=by
 refine F.ok sc_fraction ZV (fun cdv A outer s H vs Q E hr h=>?_);obtain ⟨_,_,rfl,t,b,rfl,rfl,hb,hs,q⟩:=h;refine ⟨_,((Qc (QL (Qq (eqM K rfl hr.units) (pu 1) Qb (Qu _)) (Qf Js) Qx)
   (Qc (Qk (i:=2) sc_fraction.nd rfl (Or.inl rfl) (Qs eA (hrm hr) rfl (Qa (Qo JL (by rfl) T.cQ boot_abs (Qa (pu 0) Qd)) (Qa (Qo JL (by rfl) T.cQ boot_abs (Qa (pu 1) Qd)) Qd))))
   (Qc (QL (Qq Jv (pu 1) Qb (Qu _)) (Qf (Qk (i:=2) sc_fraction.nd rfl (Or.inl rfl) (Rl U2 (pu 2)))) Qx)
   (Qf (Qr (QE (Qa (Qg Qz (pu 0) (pu 2)) (Qa (Qg Qz (pu 1) (pu 2)) Qd))))))))),?_⟩
 walk_at "rd";rw [Fl hb];refine ⟨_,_,rfl,rfl,Lo t,Lo b,?_⟩;walk_at "rd";rw [BB];have hg:=Vk (t:=t) hb;have hl:=MO (t:=t) hb;have key:CDivB (fsg t b):=⟨hg,hs.le hl⟩
 by_cases hn:b<0
 ·rw [Fs hn];have e:-(Int.gcd t b:Int)=fsg t b:=by unfold fsg;rw [Fs hn]
  rw [e];refine ⟨key,key,by decide,q⟩
 ·rw [Fl hn];have e:(Int.gcd t b:Int)=fsg t b:=by unfold fsg;rw [Fl hn]
  rw [e];refine ⟨key,key,by decide,q⟩
theorem Bh (T:Tx K mg t) (F:Fun K "plus" "plus" KI f fd) (bQ:Cal P w K mg base 2 "fraction" ["top","bottom"] (Sp2M φfrac)):FnOk P w K mg base CX0 3 f fd ["one","other"] (Sp2 (Qop K (·+·))):=by
 refine F.ok LO ZV (fun cdv A outer s H vs Q E hr h=>?_);obtain ⟨_,_,rfl,a,b,m,n,⟨p,rfl,h1⟩,⟨r,rfl,h2⟩,sa,sb,hmn,q⟩:=h;refine ⟨_,((Qf (Qr (Qs bQ (hrm hr) rfl (Qa (Qg Qv (Qg QZ (Qp (ixK K rfl) (pu 0) Qb (fun _ _=>rfl)) (Qp (ixK K rfl) (pu 1) Qb (fun _ _=>rfl))) (Qg QZ (Qp (ixK K rfl) (pu 1) Qb (fun _ _=>rfl)) (Qp (ixK K rfl) (pu 0) Qb (fun _ _=>rfl)))) (Qa (Qg QZ (Qp (ixK K rfl) (pu 0) Qb (fun _ _=>rfl)) (Qp (ixK K rfl) (pu 1) Qb (fun _ _=>rfl))) Qd)))))),?_⟩;walk_at "go";refine ⟨⟨sa.1.mono (by omega),sb.2.mono (by omega)⟩,?_⟩;walk_at "go";refine ⟨⟨sb.1.mono (by omega),sa.2.mono (by omega)⟩,?_⟩;walk_at "go";refine ⟨⟨sa.2.mono (by omega),sb.2.mono (by omega)⟩,_,_,rfl,rfl,Dg (dnz a) (dnz b),(sa.2.mul sb.2).mono (by omega),fun z hz=>q _ _ (Qi hz _) ?_⟩;show Fq K _ (a+b) _;rw [LS];exact Fq.new (Dg (dnz a) (dnz b))
theorem Mh (T:Tx K mg t) (F:Fun K "times" "times" W7 f fd) (bQ:Cal P w K mg base 2 "fraction" ["top","bottom"] (Sp2M φfrac)):FnOk P w K mg base CX0 3 f fd ["one","other"] (Sp2 (Qop K (·*·))):=by
 refine F.ok NQ ZV (fun cdv A outer s H vs Q E hr h=>?_);obtain ⟨_,_,rfl,a,b,m,n,⟨p,rfl,h1⟩,⟨r,rfl,h2⟩,sa,sb,hmn,q⟩:=h;refine ⟨_,((Qf (Qr (Qs bQ (hrm hr) rfl (Qa (Qg QZ (Qp (ixK K rfl) (pu 0) Qb (fun _ _=>rfl)) (Qp (ixK K rfl) (pu 1) Qb (fun _ _=>rfl))) (Qa (Qg QZ (Qp (ixK K rfl) (pu 0) Qb (fun _ _=>rfl)) (Qp (ixK K rfl) (pu 1) Qb (fun _ _=>rfl))) Qd)))))),?_⟩;walk_at "go";refine ⟨⟨sa.1.mono (by omega),sb.1.mono (by omega)⟩,?_⟩;walk_at "go";refine ⟨⟨sa.2.mono (by omega),sb.2.mono (by omega)⟩,_,_,rfl,rfl,Dg (dnz a) (dnz b),(sa.2.mul sb.2).mono (by omega),fun z hz=>q _ _ (Qi hz _) ?_⟩;show Fq K _ (a*b) _;rw [KO];exact Fq.new (Dg (dnz a) (dnz b))
theorem Mo (T:Tx K mg t) (F:Fun K "below" "below" Jd f fd):FnOk P w K mg base CX0 1 f fd ["one","other"] (Sp2 (Qlt K)):=by
 refine F.ok NR ZV (fun cdv A outer s H vs Q E hr h=>?_);obtain ⟨_,_,rfl,a,b,m,n,⟨p,rfl,h1⟩,⟨r,rfl,h2⟩,sa,sb,hmn,q⟩:=h;refine ⟨_,((Qf (Qr (Zl Jv (Qg QZ (Qp (ixK K rfl) (pu 0) Qb (fun _ _=>rfl)) (Qp (ixK K rfl) (pu 1) Qb (fun _ _=>rfl))) (Qg QZ (Qp (ixK K rfl) (pu 1) Qb (fun _ _=>rfl)) (Qp (ixK K rfl) (pu 0) Qb (fun _ _=>rfl))) (Qu _))))),?_⟩;walk_at "go";refine ⟨⟨sa.1.mono (by omega),sb.2.mono (by omega)⟩,?_⟩;walk_at "go";refine ⟨⟨sb.1.mono (by omega),sa.2.mono (by omega)⟩,?_⟩;have e:decide (a.num*(b.den:Int)<b.num*(a.den:Int))=decide (a<b):=decide_eq_decide.mpr (Rat.lt_iff a b).symm;rw [e];exact q
theorem UC (T:Tx K mg t) (F:Fun K "greater" "greater" Yu f fd) (bE:Cal P w K mg base 1 "below" ["one","other"] (Sp2M (Qlt K))):FnOk P w K mg base CX0 2 f fd ["one","other"] (Sp2 (Qmax K)):=by
 refine F.ok Uk ZV (fun cdv A outer s H vs Q E hr h=>?_);obtain ⟨_,_,rfl,a,b,m,n,h1,h2,sa,sb,hmn,q⟩:=h;refine ⟨_,((Qf (Qr (Md (Zx (Qs bE (hrm hr) rfl (Qa (pu 0) (Qa (pu 1) Qd)))) (pu 1) (pu 0))))),?_⟩;walk_at "go";refine ⟨a,b,m,n,h1,h2,sa,sb,by omega,?_⟩;walk_at "go";refine QK (fun c=>?_) (fun c=>?_)
 ·exact q _ (by rw [Fs c];exact h2)
 ·exact q _ (by rw [Fl c];exact h1)
def mx (m:Rat) (p:Int×Rat):Rat:=if m<p.2 then p.2 else m
def gr (os:List (Int×Rat)):Rat:=os.foldl mx 0
theorem Ge {m:Rat}{p:Int×Rat}(h:RB n m) (h':RB n p.2):RB n (mx m p):=by
 unfold mx;split
 ·exact h'
 ·exact h
theorem MH {p:Int×Rat}(h:0<=p.2):(p :: os).foldl mx p.2=gr (p :: os):=by
 unfold gr;rw [List.foldl_cons,List.foldl_cons];have e1:mx p.2 p=p.2:=by unfold mx;split <;> rfl
 have e2:mx 0 p=p.2:=by
  unfold mx;split
  ·rfl
  ·rename_i c;exact Rat.le_antisymm h (Rat.not_lt.mp c)
 rw [e1,e2]
inductive φgre (K:W.Frag) (C:Addr) (x:V) (H:Hp) (Q:VK):Prop
 | mk (r:Rw) (h1:Kn K C H r x) (h2:∀ p∈r.os,0<=p.2/\RB 14 p.2) (h3:r.os.length<=60) (h4:∀ z,Fq K H (gr r.os) z->Q z H):φgre K C x H Q
theorem Yb (T:Tx K mg t) (F:Fun K "greatest_rate" "Kind.greatest_rate" Q6 f fd) (eB:Cal P w K mg base 2 "greater" ["one","other"] (Sp2M (Qmax K))):FnOk P w K mg base CX0 3 f fd ["self"] (Sp1 (φgre K t.aE)):=by
 refine F.ok sc_Kind_greatest_rate Wq (fun cdv A outer s H vs Q E hr h=>?_);obtain ⟨_,rfl,r,⟨p,dx,fs,lc,lo,rfl,hp,_,_,e3,_,_,_,vs,hlo,hA⟩,hr0,hrl,q⟩:=h;have hvl:=hA.1;refine ⟨_,((Qc (QL (ZW (ZQ (Ze K rfl (pu 0)) (fun _=>rfl))) (Qf (Qr (GU T.bC))) Qx)
   (Qc (Qk (i:=1) sc_Kind_greatest_rate.nd rfl (Or.inl rfl) (Qp (ixK K rfl) (Qp (ixK K rfl) (Ze K rfl (pu 0)) Qb (fun _ _=>rfl)) Qb (fun _ _=>rfl)))
   (Qc (QG FL rfl (piK K rfl (Ze K rfl (pu 0))) (Ql (i:=2) sc_Kind_greatest_rate.nd rfl (Or.inl rfl))
   (Qf (Qk (i:=1) sc_Kind_greatest_rate.nd rfl (Or.inl rfl) (Qs eB (hrm hr) rfl (Qa (pu 1) (Qa (Qp (ixK K rfl) (pu 2) Qb (fun _ _=>rfl)) Qd))))))
   (Qf (Qr (pu 1))))))),?_⟩
 walk_at "go";refine YR hp T.aK T.bM e3 ?_;refine ⟨!vs.isEmpty,.inl ⟨_,SqL.of hlo,rfl⟩,?_⟩;cases hos:r.os with
 | nil=>
  have ev:vs=[]:=by rw [hos] at hvl;exact Dq.mp hvl.symm
  subst ev;walk_at "go";refine q _ ?_;rw [hos];exact T.bC.fq0
 | cons p0 os=>
  obtain ⟨v0,hv0⟩:∃ v,vs[0]?=some v:=⟨_,Fu (by rw [<-hvl,hos];simp)⟩
  have ne:vs.isEmpty=false:=by cases vs with | nil=>cases hv0 | cons _ _=>rfl
  rw [ne];obtain ⟨pt,z0,rfl,hT0,hF0⟩:=hA.2 0 p0 v0 (by rw [hos];rfl) hv0;have p0m:p0∈r.os:=by rw [hos];exact Ea
  walk_at "go";refine YR hp T.aK T.bM e3 (Zj (SqL.of hlo) (QP (j:=0) hv0) (ZZ hT0 rfl ?_));refine YR hp T.aK T.bM e3 ⟨lo,rfl,⟨_,SqL.of hlo⟩,?_⟩;refine Xn (xs:=vs) (fun i σ' H'=>∃ (z:V) (x2:Option V),σ'=[some (.ref p),some z,x2]/\H'=H/\Fq K H ((r.os.take i).foldl mx p0.2) z/\RB 14 ((r.os.take i).foldl mx p0.2)) ⟨z0,none,rfl,rfl,hF0,(hr0 p0 p0m).2⟩ (fun i σ' H' _ h=>by obtain ⟨_,_,_,rfl,_⟩:=h;exact SqL.of hlo) ?_ ?_
  ·rintro i v _ H2 hv ⟨z,x2,rfl,e2,hF,hB⟩;rw [e2];obtain ⟨o,ho,pu,zu,rfl,hT,hFu⟩:=hA.getV hv;have om:=(hr0 o (FD ho)).2;walk_at "go";have tk:(r.os.take (i+1)).foldl mx p0.2=mx ((r.os.take i).foldl mx p0.2) o:=by rw [FA,ho,List.foldl_append];rfl
   refine ⟨_,_,14,14,hF,hFu,hB,om,by decide,fun z' hz'=>⟨z',_,rfl,rfl,?_,?_⟩⟩
   ·rw [tk];exact hz'
   ·rw [tk];exact Ge hB om
  ·rintro _ H2 ⟨z,x2,rfl,e2,hF,hB⟩;rw [e2];walk_at "go";rw [<-hvl,FC] at hF;refine q z ?_;rw [hos] at hF ⊢;rw [<-MH (hr0 p0 p0m).1];exact hF
inductive φtot (K:W.Frag) (x:V) (H:Hp) (Q:VK):Prop
 | mk (l:Addr) (v:V) (r:Rat) (h1:x=.ref l) (h2:H l=some (.lst [v])) (h3:Fq K H r v) (h4:RB 14 r) (h5:∀ z H',Same H H'->Fq K H' r z->Q z H'):φtot K x H Q
theorem VL (T:Tx K mg t) (F:Fun K "total_of" "total_of" XS f fd) (eC:Cal P w K mg base 3 "plus" ["one","other"] (Sp2M (Qop K (·+·)))):FnOk P w K mg base CX0 4 f fd ["ones"] (Sp1 (φtot K)):=by
 refine F.ok sc_total_of Wq (fun cdv A outer s H vs Q E hr h=>?_);obtain ⟨_,rfl,l,v,r,rfl,hl,hF,hB,q⟩:=h;refine ⟨_,((Qc (Qk (i:=1) sc_total_of.nd rfl (Or.inl rfl) (GU T.bC))
   (Qc (QG FL rfl (piK K rfl (pu 0)) (Ql (i:=2) sc_total_of.nd rfl (Or.inl rfl))
   (Qf (Qk (i:=1) sc_total_of.nd rfl (Or.inl rfl) (Qs eC (hrm hr) rfl (Qa (pu 1) (Qa (pu 2) Qd))))))
   (Qf (Qr (pu 1)))))),?_⟩
 walk_at "go";refine ⟨l,rfl,⟨_,SqL.of hl⟩,Xn (xs:=[v]) (fun i σ' H'=>∃ (z:V) (x2:Option V),σ'=[some (.ref l),some z,x2]/\Same H H'/\Fq K H' (if i=0 then 0 else r) z) ⟨_,none,rfl,Same.refl _,T.bC.fq0⟩ (fun i σ' H' _ h=>by obtain ⟨_,_,_,g,_⟩:=h;exact SqL.of (g _ _ hl)) ?_ ?_⟩
 ·rintro i u _ H2 hu ⟨z,x2,rfl,g2,hz⟩;have hi:=Qw hu;have i0:i=0:=by have:i<1:=hi;omega
  subst i0;have eu:v=u:=FF hu;subst eu;rw [Fs rfl] at hz;walk_at "go";refine ⟨0,r,1,14,hz,hF.same g2,RB.zero (by decide),hB,by decide,fun z' H3 g3 hz'=>⟨z',_,rfl,g2.trans g3,?_⟩⟩;have e:(0:Rat)+r=r:=Rat.zero_add r;have hz2:Fq K H3 (0+r) z':=hz';rw [e] at hz2
  first
   | exact hz2
   | (rw [Fl (by decide)];exact hz2)
 ·rintro _ H2 ⟨z,x2,rfl,g2,hz⟩;walk_at "go";exact q z H2 g2 hz
inductive φcr (K:W.Frag) (C:Addr) (x y:V) (H:Hp) (Q:VK):Prop
 | mk (r:Rw) (s:Str) (rr:Rat) (h1:Kn K C H r x) (h2:y=.str s) (h3:r.cs.filter (fun c=>decide (c.1=s))=[(s,rr)]) (h4:RB 14 rr) (h5:r.cs.length<=60) (h6:∀ z H',Same H H'->Fq K H' rr z->Q z H'):φcr K C x y H Q
theorem JY (T:Tx K mg t) (F:Fun K "count_rate" "count_rate" Z8 f fd) (eD:Cal P w K mg base 4 "total_of" ["ones"] (Sp1M (φtot K))):FnOk P w K mg base CX0 5 f fd ["kind","title"] (Sp2 (φcr K t.aE)):=by
 refine F.ok JT ZV (fun cdv A outer s H vs Q E hr h=>?_);obtain ⟨_,_,rfl,r,s,rr,⟨p,dx,fs,lc,lo,rfl,hp,_,e2,_,_,_,⟨cv,kc,hC⟩,_⟩,rfl,hf,hB,hcl,q⟩:=h;have hvl:=hC.1;refine ⟨_,((Qf (Qr (Qs eD (hrm hr) rfl (Qa (XM (N:=["counted","rate","title"]) (caps:=[none,none,some 1]) rfl ZR (piK K rfl (Ze K rfl (pu 0))) (fun _ _ _ _=>pgK (n:=2) K rfl rfl (QA (Ql (i:=0) (show (["counted","rate","title"]:List Str).Nodup by decide +kernel) rfl (Or.inl rfl) (.inr rfl)) (QA (Ql (i:=1) (show (["counted","rate","title"]:List Str).Nodup by decide +kernel) rfl (Or.inl rfl) (.inr rfl)) Q7))) (fun _ _ _ _=>Xa (Qq (eqM K rfl hr.units) (pu 0) (pu 2) (Qu _))) (fun _ _ _ _=>(pu 1))) Qd))))),?_⟩;walk_at "go";simp only [QU];walk_at "go";refine YR hp T.aK T.cA e2 ⟨lc,rfl,⟨_,SqL.of kc⟩,Zy (xs:=cv) (fun i acc σ' H'=>∃ x0 x1:Option V,σ'=[x0,x1,some (.str s)]/\H'=H/\All2 (fun (c:Str×Rat) v=>Fq K H c.2 v) ((r.cs.take i).filter fun c=>decide (c.1=s)) acc) ⟨none,none,rfl,rfl,All2.nil⟩ (fun i acc σ' H' _ h=>by obtain ⟨_,_,_,rfl,_⟩:=h;exact SqL.of kc) (by omega) ?_ ?_⟩
 ·rintro i u acc _ H2 hu hacc ⟨x0,x1,rfl,e3,hA⟩;rw [e3];obtain ⟨c,hc,pc,z,rfl,hT,hz⟩:=hC.getV hu;have hi:=Qw hu;have st:(r.cs.take (i+1)).filter (fun c=>decide (c.1=s))=(r.cs.take i).filter (fun c=>decide (c.1=s))++[c].filter (fun c=>decide (c.1=s)):=by rw [FA,hc,ED];rfl
  refine ZG hT rfl ?_;walk_at "go";by_cases e:c.1=s
  ·rw [Fs e];refine CN.mk hi (by rw [Fv,FH];omega) ⟨_,_,rfl,rfl,?_⟩;rw [st,ET (by simpa using e)];exact hA.snoc hz
  ·rw [Fl e];refine CN.mk hi (by omega) ⟨_,_,rfl,rfl,?_⟩;rw [st,EU (by simpa using e),E3,Ec];exact hA
 ·rintro acc _ H2 ⟨x0,x1,rfl,e3,hA⟩ l hl;rw [e3] at hl ⊢;rw [<-hvl,FC,hf] at hA;obtain ⟨v,rfl⟩:∃ v,acc=[v]:=by
   have:=hA.1
   match acc,this with
   | [v],_=>exact ⟨v,rfl⟩
  have g:=Qi hl (.lst [v]);exact ⟨l,v,rr,rfl,Qe,(hA.2 0 (s,rr) v rfl rfl).same g,hB,fun z H' g' hz=>q z H' (g.trans g') hz⟩
theorem Cp.grow {c:Str×Rat}(g:Grow H H') (h:Cp K H c v):Cp K H' c v:=by
 obtain ⟨p,z,e,h1,h2⟩:=h;exact ⟨p,z,e,g.sqT h1,h2.grow g⟩
def nmJ (nms:List Str) (j:Int):Str:=nms.getD j.toNat Str.empty
theorem UD {j:Nat}(h:nms[j]?=some nm):nmJ nms (j:Int)=nm:=by
 unfold nmJ;rw [Int.toNat_natCast,Ef,h];rfl
theorem LJ {l:List Str}{js:List Int}(s:l.Sublist ((js.take i).map (nmJ nms))) (h:js[i]?=some j):l.Sublist ((js.take (i+1)).map (nmJ nms))/\(l++[nmJ nms j]).Sublist ((js.take (i+1)).map (nmJ nms)):=by
 rw [FA,h,Fz];exact ⟨s.trans (List.sublist_append_left _ _),s.append (List.Sublist.refl _)⟩
def Nz (nms:List Str) (cs:List (Str×Rat)):Prop:=∀ c∈cs,c.1∈nms/\0<=c.2/\RB 14 c.2
inductive φearl (K:W.Frag) (x y z u:V) (H:Hp) (Q:VK):Prop
 | mk (a le ln:Addr) (ns:List Int) (k:Nat) (js:List Int) (nms:List Str) (h1:x=.ref a) (h2:y=.int k) (h3:z=.ref le) (h4:u=.ref ln) (h5:SqL K H a (ns.map V.int)) (h6:Ka ns) (h7:k<8) (h8:SqL K H le (js.map V.int)) (h9:∀ j∈js,0<=j/\j<8) (h10:js.length<=8) (h11:SqL K H ln (nms.map V.str)) (h12:nms.length=8)
   (h13:∀ l cs H',H l=none->Same H H'->Cl K H' cs l->Nz nms cs->cs.length<=8->(cs.map (·.1)).Sublist (js.map (nmJ nms))->Q (.ref l) H'):φearl K x y z u H Q
theorem Re (h:i<8):((i:Int)*i).natAbs<64:=by
 have e:((i:Int)*i).natAbs=i*i:=by rw [EH];rfl
 have:i*i<=7*7:=Nat.mul_le_mul (by omega) (by omega);omega
theorem cl2 (hB:Ka ns) (k:Int) {d:Int}(h:d.natAbs<2 ^ 40):Bd 1048578 (cl ns k+d):=((X4 hB k).add (show Bd 40 d from h)).mono (by decide)
theorem UW {H0:Hp}{r:Rat}{G:Hp->Prop}(g:Same H0 H) (p0:H0 p=none) (k:H p=some (.lst ws)) (hA:All2 (Cp K H) cs ws) (hl:ws.length<=100) (hf:Fq K H r z)
  (q:∀ v H1,Same H0 H1->H1 p=some (.lst (ws++[v]))->All2 (Cp K H1) (cs++[(nm,r)]) (ws++[v])->G H1):2<=sizeLine/\∀ p1,H p1=none->KS (V.ref p) [V.ref p1] (upd H p1 (.tup [.str nm,z])) fun _ H1=>G H1:=by
 refine ⟨by decide,fun p1 hp1=>?_⟩;have g2:=Qi hp1 (.tup [.str nm,z]);have k2:=g2 _ _ k;have w2:Cp K (upd H p1 (.tup [.str nm,z])) (nm,r) (.ref p1):=⟨p1,_,rfl,SqT.of Qe,hf.same g2⟩
 refine QV k2 (QF (by omega)) ?_;exact q _ _ (QB (g.trans g2) p0) Qe (((hA.imp fun _ _ y=>y.same g2).imp fun _ _ y=>y.grow (Xk k2)).snoc (w2.grow (Xk k2)))
theorem K8 (T:Tx K mg t) (F:Fun K "_law_earlier" "_law_earlier" Xq f fd) (aS:Cal P w K mg base 3 "_law_rate" ["_law_cell","_law_calm"] (Sp2M (φrate K))) (aI:Cal P w K mg base 1 "_law_cell_at" ["_law_script","_law_k"] (Sp2M (φcell K))):FnOk P w K mg base CX0 4 f fd ["_law_script","_law_k","_law_earlier_here","_law_names_here"] (Sp4 (φearl K)):=by
 refine F.ok sc_l_earlier GL (fun cdv A outer s H vs Q E hr h=>?_);obtain ⟨_,_,_,_,rfl,a,le,ln,ns,k,js,nms,rfl,rfl,rfl,rfl,hS,hB,hk,hE,hj,jl,hN,nl,q⟩:=h;refine ⟨_,((Qc (Qk (i:=4) sc_l_earlier.nd rfl (Or.inl rfl) (QC Qd))
   (Qc (QG FL rfl (piK K rfl (pu 2)) (Ql (i:=5) sc_l_earlier.nd rfl (Or.inl rfl))
   (Qc (Qk (i:=6) sc_l_earlier.nd rfl (Or.inl rfl) (Qg Qt (Qg Qy (Qg Qv (Qs aI (hrm hr) rfl (Qa (pu 0) (Qa (Qg Qv Qb (Qg Qy Qb (pu 1))) Qd))) (Qg Qy (Qg Qy (pu 5) (pu 5)) Qb)) Qb) Qb))
   (Qf (QL (Qq (eqM K rfl hr.units) (Qg Qt (pu 6) Qb) Qb (Qu _)) (Qf (QS (Zb K rfl F3 F7 F8 QO (pu 4) (Qa (QE (Qa (Qp (ixK K rfl) (pu 3) (pu 5) (fun _ _=>rfl)) (Qa (Qs aS (hrm hr) rfl (Qa (Qg Qv (Qs aI (hrm hr) rfl (Qa (pu 0) (Qa (Qg Qv Qb (Qg Qy Qb (pu 1))) Qd))) (Qg Qy (Qg Qy Qb (pu 5)) (pu 5))) (Qa Xu Qd))) Qd))) Qd)))) Qx))))
   (Qf (Qr (pu 4)))))),?_⟩
 walk_at "go";refine ⟨by decide,fun p hp=>?_⟩;generalize e_g1:upd H p _=H1 at *;obtain ⟨g1,k1⟩:=nwH hp e_g1;refine ⟨le,rfl,⟨_,g1.seq hE⟩,Xn (xs:=js.map V.int) (fun i σ' H'=>∃ (cs:List (Str×Rat)) (ws:List V) (x5 x6:Option V),σ'=[some (.ref a),some (.int k),some (.ref le),some (.ref ln),some (.ref p),x5,x6]/\Same H H'/\H' p=some (.lst ws)/\All2 (Cp K H') cs ws/\Nz nms cs/\cs.length<=i/\(cs.map (·.1)).Sublist ((js.take i).map (nmJ nms))) ⟨[],[],none,none,rfl,g1,k1,All2.nil,(fun c h=>nomatch h),Ft _,List.nil_sublist _⟩ (fun i σ' H' _ h=>by obtain ⟨_,_,_,_,_,g,_⟩:=h;exact g.seq hE) ?_ ?_⟩
 ·rintro i v _ H2 hv ⟨cs,ws,x5,x6,rfl,g2,k2,hA,ok,cl',sb⟩;rw [Fx] at hv;obtain ⟨j,hjv,rfl⟩:=FO.mp hv;have hi:=Qw hjv;obtain ⟨sb1,sb2⟩:=LJ sb hjv;obtain ⟨j0,j1⟩:=hj j (FD hjv);obtain ⟨jn,rfl⟩:=EI j0;have jj:=Re (i:=jn) (by omega);have j11:((11:Int)*jn*jn).natAbs<1000:=by
   have e:(11:Int)*jn*jn=11*((jn:Int)*jn):=EN _ _ _;rw [e];omega
  have wl:=hA.1;walk_at "go";refine ⟨⟨kU (by decide),kU (by omega)⟩,a,ns,_,rfl,rfl,g2.seq hS,by omega,⟨kU (by omega),kU (by omega)⟩,⟨kU (by omega),kU (by decide)⟩,?_⟩;have c1:=cl2 hB (4+6*(k:Int)) (d:=(jn:Int)*jn*7919) (by omega);walk_at "go";refine ⟨⟨c1.mono (by decide),kU (by decide)⟩,by decide,by decide,QK (fun _=>?_) (fun _=>⟨cs,ws,_,_,rfl,g2,k2,hA,ok,by omega,sb1⟩)⟩;obtain ⟨nm,hnm⟩:∃ nm,nms[jn]?=some nm:=⟨_,Fu (by omega)⟩
  refine ⟨.inl ⟨rfl,_,SqL.of k2⟩,Zj (g2.seq hN) (QP (v:=.str nm) (by rw [Fx,hnm];rfl)) ?_⟩;refine ⟨⟨kU (by decide),kU (by omega)⟩,a,ns,_,rfl,rfl,g2.seq hS,by omega,⟨kU (by decide),kU (by omega)⟩,⟨kU (by omega),kU (by omega)⟩,?_⟩;have c2:=cl2 hB (5+6*(k:Int)) (d:=11*(jn:Int)*jn) (by omega);walk_at "go";refine ⟨_,false,rfl,rfl,c2.mono (by decide),fun z r H3 g3 f3 r0 rb=>?_⟩;refine UW (g2.trans g3) hp (g3 _ _ k2) (hA.imp fun _ _ y=>y.same g3) (by omega) f3 fun v H4 g4 k4 hA4=>?_
  refine ⟨cs++[(nm,r)],_,_,_,rfl,g4,k4,hA4,(fun c hc=>?_),by rw [Fv,FH];omega,by rw [Fz,show ([(nm,r)]:List (Str×Rat)).map (·.1)=[nmJ nms (jn:Int)] by rw [UD hnm];rfl];exact sb2⟩;rcases FR.mp hc with h | h
  ·exact ok c h
  ·rw [FE.mp h];exact ⟨FD hnm,r0,rb⟩
 ·rintro _ H2 ⟨cs,ws,x5,x6,rfl,g2,k2,hA,ok,cl',sb⟩;walk_at "go";exact q p cs H2 hp g2 ⟨ws,k2,hA⟩ ok (by rw [Fo] at cl';omega) (by rw [Fo,FC] at sb;exact sb)
def del (H:Hp) (p:Addr):Hp:=fun c=>if c=p then none else H c
theorem Z1 (g:Same H H'):Same (del H p) (del H' p):=fun c o h=>by
 unfold del at *;split at h
 ·cases h
 ·rename_i n;rw [Fl n];exact g c o h
theorem del_sub:Same (del H p) H:=fun c o h=>by
 unfold del at h;split at h
 ·cases h
 ·exact h
theorem Wi {o:HO}:del (upd H p o) p=del H p:=by
 funext c
 unfold del;by_cases e:c=p
 ·rw [Fs e,Fs e]
 ·rw [Fl e,Fl e,Qj e]
theorem Xm {c:Addr}{o:HO}(n:c≠p) (h:H c=some o):del H p c=some o:=by
 unfold del;rw [Fl n];exact h
def NT (H:Hp) (p:Addr):Prop:=(∀ xs,H p≠some (.tup xs))/\∀ o h,H p≠some (.frz o h)
theorem Bk (h:H p=some (.lst ws)):NT H p:=⟨(fun xs e=>by rw [h] at e;cases e),(fun o k e=>by rw [h] at e;cases e)⟩
theorem Bl {ws:List (Key×V)}(h:H p=some (.dK ws)):NT H p:=⟨(fun xs e=>by rw [h] at e;cases e),(fun o k e=>by rw [h] at e;cases e)⟩
theorem Yk {c:Addr}(hp:NT H p) (h:SqT K H c xs):SqT K (del H p) c xs:=by
 rcases h with (h | ⟨o,h⟩) | h
 ·exact .inl (.inl (Xm (fun e=>hp.1 xs (by rw [<-e];exact h)) h))
 ·exact .inl (.inr ⟨o,Xm (fun e=>hp.2 o _ (by rw [<-e];exact h)) h⟩)
 ·exact .inr h
theorem MQ {q:Rat}(hp:NT H p) (h:Fq K H q v):Fq K (del H p) q v:=by
 obtain ⟨c,e,h⟩:=h;exact ⟨c,e,Yk hp h⟩
theorem Cl.del {K:W.Frag}{H:Hp}{p l:Addr}{cs:List (Str×Rat)}(hp:NT H p) (n:l≠p) (h:Cl K H cs l):Cl K (del H p) cs l:=by
 obtain ⟨vs,h1,h2⟩:=h;exact ⟨vs,Xm n h1,h2.imp fun _ _ ⟨c,z,e,k1,k2⟩=>⟨c,z,e,Yk hp k1,MQ hp k2⟩⟩
theorem Ol.del {K:W.Frag}{H:Hp}{p l:Addr}{os:List (Int×Rat)}(hp:NT H p) (n:l≠p) (h:Ol K H os l):Ol K (del H p) os l:=by
 obtain ⟨vs,h1,h2⟩:=h;exact ⟨vs,Xm n h1,h2.imp fun _ _ ⟨c,z,e,k1,k2⟩=>⟨c,z,e,Yk hp k1,MQ hp k2⟩⟩
theorem UE {j:Nat}(h:nms[j]?=some nm) (hj:j<m):nm∈nms.take m:=FD (by rw [E4,Fs hj];exact h)
structure Ny (nms:List Str) (r:Rw):Prop where
 nd:(r.cs.map (·.1)).Nodup
 cs:Nz nms r.cs
 cl:r.cs.length<=60
 li:Wc (-1) r.os=true
 os:∀ p∈r.os,Bd 36 p.1/\0<=p.2/\RB 14 p.2
 ol:r.os.length<=6
 lm:∀ i,r.lm=some i->0<=i/\i<=10 ^ 9
 un:∀ i,r.un=some i->1<=i/\i<=10 ^ 9
inductive φfree (K:W.Frag) (x y z:V) (H:Hp) (Q:VK):Prop
 | mk (a ln:Addr) (ns:List Int) (m:Nat) (nms:List Str) (h1:x=.ref a) (h2:y=.int m) (h4:z=.ref ln) (h5:SqL K H a (ns.map V.int)) (h6:Ka ns) (h7:m<=8) (h11:SqL K H ln (nms.map V.str)) (h12:nms.length=8)
   (h13:∀ l rs vs H',H l=none->Same H H'->H' l=some (.lst vs)->All2 (Rr K H') rs vs->rs.map (·.nm)=nms.take m->(∀ r∈rs,Ny (nms.take m) r)->Q (.ref l) H'):φfree K x y z H Q
def FrI (K:W.Frag) (a ln pr:Addr) (m:Nat) (nms:List Str) (H:Hp) (i:Nat) (σ':L2.St) (H':Hp):Prop:=∃ (rs:List Rw) (vs:List V) (x4 x5 x6 x7 x8 x9 x10:Option V),σ'=[some (.ref a),some (.int m),some (.ref ln),some (.ref pr),x4,x5,x6,x7,x8,x9,x10]/\Same H H'/\H' pr=some (.lst vs)/\All2 (Rr K (del H' pr)) rs vs/\rs.map (·.nm)=nms.take i/\(∀ r∈rs,Ny (nms.take m) r)/\rs.length=i
theorem G4 (T:Tx K mg t) (F:Fun K "_law_free" "_law_free" Y3 f fd) (bR:Cal P w K mg base 4 "_law_offs" ["_law_cell","_law_calm"] (Sp2M (φoffs K))) (aI:Cal P w K mg base 1 "_law_cell_at" ["_law_script","_law_k"] (Sp2M (φcell K))) (bS:Cal P w K mg base 1 "_law_jump" ["_law_cell"] (Sp1M (φjump K))) (aS:Cal P w K mg base 3 "_law_rate" ["_law_cell","_law_calm"] (Sp2M (φrate K))):FnOk P w K mg base CX0 5 f fd ["_law_script","_law_many","_law_names_here"] (Sp3 (φfree K)):=by
 refine F.ok sc_l_free VG (fun cdv A outer s H vs Q E hr h=>?_);obtain ⟨_,_,_,rfl,a,ln,ns,m,nms,rfl,rfl,rfl,hS,hB,hm,hN,nl,q⟩:=h;refine ⟨_,((Qc (Qk (i:=3) sc_l_free.nd rfl (Or.inl rfl) (QC Qd))
   (Qc (QG FL rfl (QQ rfl T.aQ (Qa (pu 1) Qd)) (Ql (i:=4) sc_l_free.nd rfl (Or.inl rfl))
   (Qc (Qk (i:=5) sc_l_free.nd rfl (Or.inl rfl) (QC Qd))
   (Qc (Qk (i:=6) sc_l_free.nd rfl (Or.inl rfl) (Qs aI (hrm hr) rfl (Qa (pu 0) (Qa (Qg Qv Qb (Qg Qy Qb (pu 4))) Qd))))
   (Qc (QG FL rfl (QQ rfl T.aQ (Qa (Qg Qt (pu 6) Qb) Qd)) (Ql (i:=7) sc_l_free.nd rfl (Or.inl rfl))
   (Qc (Qk (i:=8) sc_l_free.nd rfl (Or.inl rfl) (Qg Qt (Qg Qt (Qg Qy (Qg Qv (Qg Qv (Qg Qz (pu 6) Qb) (Qg Qy (Qg Qy (pu 7) (pu 7)) Qb)) (pu 4)) Qb) Qb) (pu 1)))
   (Qf (QL (Qq (WH K rfl) (Qp (ixK K rfl) (pu 2) (pu 8) (fun _ _=>rfl)) (Q8 (N:=["_law_one"]) (caps:=[none]) rfl ZR (piK K rfl (pu 5)) (fun _ _ _ _=>Ql (i:=0) (show (["_law_one"]:List Str).Nodup by decide +kernel) rfl (Or.inl rfl) (.inr rfl)) (fun _ _ _ _=>QW) (fun _ _ _ _=>(Qp (ixK K rfl) (pu 0) Qb (fun _ _=>rfl)))) (by with_unfolding_all rfl)) (Qf (QS (Zb K rfl F3 F7 F8 QO (pu 5) (Qa (QE (Qa (Qp (ixK K rfl) (pu 2) (pu 8) (fun _ _=>rfl)) (Qa (Qs aS (hrm hr) rfl (Qa (Qg Qv (Qs aI (hrm hr) rfl (Qa (pu 0) (Qa (Qg Qv Qb (Qg Qy Qb (pu 4))) Qd))) (Qg Qy (Qg Qy Qb (pu 7)) (pu 7))) (Qa Xu Qd))) Qd))) Qd)))) Qx))))
   (Qc (N7 (Qs bS (hrm hr) rfl (Qa (Qs aI (hrm hr) rfl (Qa (pu 0) (Qa (Qg Qv Qb (Qg Qy Qb (pu 4))) Qd))) Qd)) (pgK (n:=2) K rfl rfl (QA (Ql (i:=9) sc_l_free.nd rfl (Or.inl rfl)) (QA (Ql (i:=10) sc_l_free.nd rfl (Or.inl rfl)) Q7))))
   (Qf (QS (Zb K rfl F3 F7 F8 QO (pu 3) (Qa (QE (Qa (Qp (ixK K rfl) (pu 2) (pu 4) (fun _ _=>rfl)) (Qa (pu 5) (Qa (Qs bR (hrm hr) rfl (Qa (Qs aI (hrm hr) rfl (Qa (pu 0) (Qa (Qg Qv Qb (Qg Qy Qb (pu 4))) Qd))) (Qa Xu Qd))) (Qa (pu 9) (Qa (pu 10) Qd)))))) Qd)))))))))
   (Qf (Qr (pu 3)))))),?_⟩
 walk_at "go";refine ⟨by decide,fun pr hpr=>?_⟩;generalize e_g1:upd H pr _=H1 at *;obtain ⟨g1,k1⟩:=nwH hpr e_g1;refine ⟨by omega,by omega,J0 (FrI K a ln pr m nms H) ⟨[],[],none,none,none,none,none,none,none,rfl,g1,k1,All2.nil,rfl,(fun r h=>nomatch h),rfl⟩ ?_ ?_⟩
 ·rintro k _ H2 hk ⟨rs,vs,x4,x5,x6,x7,x8,x9,x10,rfl,g2,k2,hR2,rn,rok,rl⟩;have hk8:k<8:=by omega
  have e0:(0:Int)+k=k:=Ew _;rw [e0];generalize hR3:ZH (Z4 _ (MN _ _ _)) _=R3;walk_at "go";refine ⟨by decide,fun pc hpc=>?_⟩;generalize e_g3:upd H2 pc _=H3 at *;obtain ⟨g3,k3⟩:=nwH hpc e_g3;have cpr:pc≠pr:=fun e=>by rw [e,k2] at hpc;cases hpc
  have m6:CMulU 6 (k:Int):=⟨kU (by decide),kU (by omega)⟩
  refine ⟨m6,a,ns,_,rfl,rfl,(g2.trans g3).seq hS,by omega,?_⟩;have cB:=X4 hB (4+6*(k:Int));generalize cl ns (4+6*(k:Int))=c at *;have z0:=FU c (show (4:Int)≠0 by decide);have z1:=FW c (show 0<(4:Int) by decide);walk_at "go";refine ⟨by decide,by omega,by omega,J0 (fun i σ' H'=>∃ (cs:List (Str×Rat)) (ws:List V) (y7 y8:Option V),σ'=[some (.ref a),some (.int m),some (.ref ln),some (.ref pr),some (.int k),some (.ref pc),some (.int c),y7,y8,x9,x10]/\Same H2 H'/\H' pc=some (.lst ws)/\All2 (Cp K H') cs ws/\Nz (nms.take m) cs/\cs.length<=i/\(cs.map (·.1)).Nodup) ⟨[],[],x7,x8,rfl,g3,k3,All2.nil,(fun c h=>nomatch h),Ft _,Dw⟩ ?_ ?_⟩
  ·rintro t' _ H4 ht' ⟨cs,ws,y7,y8,rfl,g4,k4,hA,ok,cl',cnd⟩;have t8:t'<4:=by omega
   have e0:(0:Int)+t'=t':=Ew _;rw [e0];have tt:=Re (i:=t') (by omega);have t11:((11:Int)*t'*t').natAbs<1000:=by
    have e:(11:Int)*t'*t'=11*((t':Int)*t'):=EN _ _ _;rw [e];omega
   have wl:=hA.1;have g04:=g2.trans g4;walk_at "go";have c1:Bd 1048578 (c.fdiv 4+(t':Int)*t'*31+k):=(((cB.fdiv (b:=4)).add (show Bd 40 ((t':Int)*t'*31) by unfold Bd;omega)).add (show Bd 40 (k:Int) by unfold Bd;omega)).mono (by decide);have mp:0<(m:Int):=by omega
   refine ⟨CDivB.small (by decide) (by decide),⟨kU (by omega),kU (by omega)⟩,⟨kU (by omega),kU (by decide)⟩,⟨c1.mono (by decide),kU (by decide)⟩,by decide,mp,?_⟩;generalize (c.fdiv 4+(t':Int)*t'*31+k)*48271 % 1000003=u;have u0:=FU u (show (m:Int)≠0 by omega);have u1:=FW u mp;generalize u % (m:Int)=j at *;obtain ⟨jn,rfl⟩:=EI u0;obtain ⟨nm,hnm⟩:∃ nm,nms[jn]?=some nm:=⟨_,Fu (by omega)⟩
   have hix:atI (nms.map V.str) (jn:Int)=some (.str nm):=QP (by rw [Fx,hnm];rfl);refine Zj (g04.seq hN) hix ?_;simp only [QU];walk_at "go";refine ⟨pc,rfl,⟨_,SqL.of k4⟩,Zy (xs:=ws) (fun i acc σ' H'=>∃ x0:Option V,σ'=[x0]/\H'=H4/\acc=(cs.take i).map fun c=>V.str c.1) ⟨none,rfl,rfl,rfl⟩ (fun i acc σ' H' _ h=>by obtain ⟨_,_,rfl,_⟩:=h;exact SqL.of k4) (by omega) ?_ ?_⟩
   ·rintro i v acc _ H5 hv hacc ⟨x0,rfl,e5,rfl⟩;rw [e5];obtain ⟨cc,hcc,pq,zq,rfl,hT,hz⟩:=hA.getV hv;simp only [ZK];walk_at "go";refine CN.mk (Qw hv) (by simp;omega) ⟨_,rfl,rfl,?_⟩;rw [FA,hcc,Fz];rfl
   ·rintro acc _ H5 ⟨x0,rfl,e5,rfl⟩ pl hpl;rw [e5] at hpl ⊢;rw [<-hA.1,FC];have el:(cs.map fun c=>V.str c.1)=(cs.map (·.1)).map V.str:=by rw [El];rfl
    rw [el];generalize e_g6:upd H4 pl _=H6 at *;obtain ⟨g6,k6⟩:=nwH hpl e_g6;refine XF (SqL.of k6) ?_;walk_at "go";have g46:=g4.trans g6;refine QK (fun hni=>?_) (fun _=>⟨cs,ws,_,_,rfl,g46,g6 _ _ k4,hA.imp fun _ _ y=>y.same g6,ok,by omega,cnd⟩);refine ⟨.inl ⟨rfl,_,SqL.of (g6 _ _ k4)⟩,Zj ((g2.trans g46).seq hN) hix ?_⟩;refine ⟨m6,a,ns,_,rfl,rfl,(g2.trans g46).seq hS,by omega,⟨kU (by decide),kU (by omega)⟩,⟨kU (by omega),kU (by omega)⟩,?_⟩;have c2:=cl2 hB (5+6*(k:Int)) (d:=11*(t':Int)*t') (by omega);walk_at "go";refine ⟨_,false,rfl,rfl,c2.mono (by decide),fun z r H7 g7 f7 r0 rb=>?_⟩;refine UW (H0:=H2) (g46.trans g7) hpc ((g6.trans g7) _ _ k4) (hA.imp fun _ _ y=>y.same (g6.trans g7)) (by omega) f7 fun v H8 g8 k8 hA8=>?_
    refine ⟨cs++[(nm,r)],_,_,_,rfl,g8,k8,hA8,(fun c hc=>?_),by rw [Fv,FH];omega,?_⟩
    ·rcases FR.mp hc with h | h
     ·exact ok c h
     ·rw [FE.mp h];exact ⟨UE hnm (by omega),r0,rb⟩
    ·rw [Fz];refine ER.mpr ⟨cnd,Dx _ _,fun a ha b hb e=>?_⟩;rw [show b=nm from FE.mp hb] at e;exact hni (e ▸ ha)
  ·rintro _ H4 ⟨cs,ws,y7,y8,rfl,g4,k4,hA,ok,cl',cnd⟩;have g04:=g2.trans g4;have cl4:cs.length<=60:=by omega
   show R3 _ _ _;subst hR3;walk_at "go";refine ⟨m6,a,ns,_,rfl,rfl,g04.seq hS,by omega,?_⟩;refine ⟨_,rfl,(X4 hB _).mono (by decide),fun pj lm un H5 g5 hT5 hlm hun=>?_⟩;refine ZG hT5 rfl ?_;walk_at "go";have g05:=g04.trans g5;have k25:=(g4.trans g5) _ _ k2;obtain ⟨nm,hnm⟩:∃ nm,nms[k]?=some nm:=⟨_,Fu (by omega)⟩
   refine ⟨.inl ⟨rfl,_,SqL.of k25⟩,Zj (g05.seq hN) (QP (v:=.str nm) (by rw [Fx,hnm];rfl)) ?_⟩;refine ⟨m6,a,ns,_,rfl,rfl,g05.seq hS,by omega,?_⟩;refine ⟨_,false,rfl,rfl,(X4 hB _).mono (by decide),fun lo os H6 lo0 g6 hO lim osz ol=>⟨by decide,fun p7 hp7=>?_⟩⟩;generalize e_g7:upd H6 p7 _=H7 at *;obtain ⟨g7,k7⟩:=nwH hp7 e_g7;have g27:=g4.trans (g5.trans (g6.trans g7));have k27:=g27 _ _ k2;have lpr:lo≠pr:=fun e=>by rw [e,k25] at lo0;cases lo0
   have hC7:Cl K H7 cs pc:=⟨ws,(g5.trans (g6.trans g7)) _ _ k4,hA.imp fun _ _ y=>y.same (g5.trans (g6.trans g7))⟩
   have row:Rr K (del H7 pr) ⟨nm,cs,os,lm,un⟩ (.ref p7):=⟨p7,pc,lo,rfl,Yk (Bk k27) (SqT.of k7),hC7.del (Bk k27) cpr,(hO.same g7).del (Bk k27) lpr⟩
   have vl:=hR2.1;refine QV k27 (QF (by omega)) ?_;refine ⟨rs++[⟨nm,cs,os,lm,un⟩],_,_,_,_,_,_,_,_,rfl,QB (g2.trans g27) hpr,Qe,?_,?_,fun r hr=>?_,by rw [Fv,FH,rl]⟩
   ·rw [Wi];exact (hR2.imp fun _ _ y=>y.same (Z1 g27)).snoc row
   ·rw [Fz,rn,FA,hnm];rfl
   ·rcases FR.mp hr with h | h
    ·exact rok r h
    ·rw [FE.mp h];exact ⟨cnd,ok,cl4,lim,osz,ol,hlm,hun⟩
 ·rintro _ H2 ⟨rs,vs,x4,x5,x6,x7,x8,x9,x10,rfl,g2,k2,hR2,rn,rok,rl⟩;walk_at "go";have mm:((m:Int)).toNat=m:=by omega
  rw [mm] at rn;exact q pr rs vs H2 hpr g2 k2 (hR2.imp fun _ _ y=>y.same del_sub) rn rok
theorem Ln {R:α->V->Prop}{qs:List α}{q:α}(h:All2 R qs vs) (k:Nat) (r:R q v):All2 R (qs.take k++q :: qs.drop k) (vs.take k++v :: vs.drop k):=by
 have hl:=h.1;refine ⟨by simp [hl],fun i x y h1 h2=>?_⟩;rcases EY i (min k qs.length) with c | c
 ·rw [Ei (by rw [FX];exact c),E4,Fs (by omega)] at h1;rw [Ei (by rw [FX];omega),E4,Fs (by omega)] at h2;exact h.2 i x y h1 h2
 ·rw [Ed (by rw [FX];exact c),FX] at h1;rw [Ed (by rw [FX];omega),FX,<-hl] at h2;cases e:i-min k qs.length with
  | zero=>
   rw [e] at h1 h2;cases h1;cases h2;exact r
  | succ j=>
   rw [e,E5,List.getElem?_drop] at h1 h2;exact h.2 _ x y h1 h2
inductive φplant (K:W.Frag) (x y z u:V) (H:Hp) (Q:VK):Prop
 | mk (a ln:Addr) (ns:List Int) (m:Nat) (nms:List Str) (b:Bool) (h1:x=.ref a) (h2:y=.int m) (h4:z=.ref ln) (h0:u=.bl b) (h5:SqL K H a (ns.map V.int)) (h6:Ka ns) (h7:m<=8) (h11:SqL K H ln (nms.map V.str)) (h12:nms.length=8) (hnd:nms.Nodup)
   (h13:∀ l rs vs H',H l=none->Same H H'->H' l=some (.lst vs)->All2 (Rr K H') rs vs->rs.map (·.nm)=nms.take m->(∀ r∈rs,Ny (nms.take m) r)->Q (.ref l) H'):φplant K x y z u H Q
def Done (K:W.Frag) (nms:List Str) (m:Nat) (pd:Addr) (H':Hp) (kvs:List (Key×V)) (k:Int):Prop:=∃ v r,Zd kvs (Sum.inl k:Key)=some v/\Rr K (del H' pd) r v/\nms[k.toNat]?=some r.nm/\Ny (nms.take m) r
theorem Done.same {pd:Addr}{k:Int}(h:Done K nms m pd H kvs k) (g:Same (del H pd) (del H' pd)):Done K nms m pd H' kvs k:=by
 obtain ⟨v,r,h1,h2,h3,h4⟩:=h;exact ⟨v,r,h1,h2.same g,h3,h4⟩
theorem Be (g:Oth p H H'):Same (del H p) (del H' p):=fun c o h=>by
 unfold del at *;split at h
 ·cases h
 ·rename_i n;rw [Fl n];exact g c o n h
theorem Oth.trans (a:Oth p H H1) (b:Oth p H1 H2):Oth p H H2:=fun c u e k=>b c u e (a c u e k)
theorem U7 (g:Same H H'):Oth p H H':=fun c u _ k=>g c u k
theorem K5 (T:Tx K mg t) (F:Fun K "_law_planted" "_law_planted" Xp f fd) (eE:Cal P w K mg base 2 "_law_segments" ["_law_script","_law_many"] (Sp2M (φseg K))) (bR:Cal P w K mg base 4 "_law_offs" ["_law_cell","_law_calm"] (Sp2M (φoffs K))) (aI:Cal P w K mg base 1 "_law_cell_at" ["_law_script","_law_k"] (Sp2M (φcell K))) (bS:Cal P w K mg base 1 "_law_jump" ["_law_cell"] (Sp1M (φjump K))) (aS:Cal P w K mg base 3 "_law_rate" ["_law_cell","_law_calm"] (Sp2M (φrate K))) (eF:Cal P w K mg base 4 "_law_earlier" ["_law_script","_law_k","_law_earlier_here","_law_names_here"] (Sp4M (φearl K))):FnOk P w K mg base CX0 5 f fd ["_law_script","_law_many","_law_names_here","_law_calm"] (Sp4 (φplant K)):=by
 refine F.ok sc_l_planted GL (fun cdv A outer s H vs Q E hr h=>?_);obtain ⟨_,_,_,_,rfl,a,ln,ns,m,nms,b,rfl,rfl,rfl,rfl,hS,hB,hm,hN,nl,nnd,q⟩:=h;refine ⟨_,((Qc (Qk (i:=4) sc_l_planted.nd rfl (Or.inr rfl) Z0)
   (Qc (Qk (i:=5) sc_l_planted.nd rfl (Or.inl rfl) (QC Qd))
   (Qc (QG FL rfl (piK K rfl (Qs eE (hrm hr) rfl (Qa (pu 0) (Qa (pu 1) Qd)))) (pgK (n:=2) K rfl rfl (QA (Ql (i:=6) sc_l_planted.nd rfl (Or.inl rfl)) (QA (Ql (i:=7) sc_l_planted.nd rfl (Or.inl rfl)) Q7)))
   (Qc (QG FL rfl (QQ rfl T.aQ (Qa (Qo (YA K rfl) (by rfl) T.aP Eh (Qa (pu 7) Qd)) Qd)) (Ql (i:=8) sc_l_planted.nd rfl (Or.inl rfl))
   (Qc (Qk (i:=9) sc_l_planted.nd rfl (Or.inl rfl) (Qp (ixK K rfl) (pu 7) (pu 8) (fun _ _=>rfl)))
   (Qc (Qk (i:=10) sc_l_planted.nd rfl (Or.inl rfl) (Qs eF (hrm hr) rfl (Qa (pu 0) (Qa (pu 9) (Qa (pu 5) (Qa (pu 2) Qd))))))
   (Qc (QL (ZQ (pu 6) (fun _=>rfl)) (Qc (Qk (i:=11) sc_l_planted.nd rfl (Or.inl rfl) (Qp (ixK K rfl) (pu 2) (Qp (ixK K rfl) (pu 7) (Qg Qt (Qg Qv (pu 8) Qb) (Qo (YA K rfl) (by rfl) T.aP Eh (Qa (pu 7) Qd))) (fun _ _=>rfl)) (fun _ _=>rfl)))
   (Qc (Qk (i:=12) sc_l_planted.nd rfl (Or.inl rfl) (Qg Qt (Qg Qz (Qs aI (hrm hr) rfl (Qa (pu 0) (Qa (Qg Qv Qb (Qg QZ Qb (pu 9))) Qd))) Qb) (Qg Qv (Qo (YA K rfl) (by rfl) T.aP Eh (Qa (pu 10) Qd)) Qb)))
   (Qf (QS (Zb K rfl F3 PySem.F.slot_list_insert PySem.F.type_list_insert G6 (pu 10) (Qa (pu 12) (Qa (QE (Qa (pu 11) (Qa (Qs aS (hrm hr) rfl (Qa (Qg Qv (Qs aI (hrm hr) rfl (Qa (pu 0) (Qa (Qg Qv Qb (Qg QZ Qb (pu 9))) Qd))) Qb) (Qa (pu 3) Qd))) Qd))) Qd))))))) Qx)
   (Qc (N7 (Qs bS (hrm hr) rfl (Qa (Qs aI (hrm hr) rfl (Qa (pu 0) (Qa (Qg Qv Qb (Qg QZ Qb (pu 9))) Qd))) Qd)) (pgK (n:=2) K rfl rfl (QA (Ql (i:=13) sc_l_planted.nd rfl (Or.inl rfl)) (QA (Ql (i:=14) sc_l_planted.nd rfl (Or.inl rfl)) Q7))))
   (Qc (QL (PW.pt (Xf (ZQ (pu 6) (fun _=>rfl)) (ZP (ZQ (pu 3) (fun _=>rfl))))) (Qc (Qk (i:=13) sc_l_planted.nd rfl (Or.inl rfl) Zh)
   (Qf (Qk (i:=14) sc_l_planted.nd rfl (Or.inl rfl) Zh))) Qx)
   (Qf (Xb (Q9 hr) (pu 4) (pu 9) (QE (Qa (Qp (ixK K rfl) (pu 2) (pu 9) (fun _ _=>rfl)) (Qa (pu 10) (Qa (Qs bR (hrm hr) rfl (Qa (Qs aI (hrm hr) rfl (Qa (pu 0) (Qa (Qg Qv Qb (Qg QZ Qb (pu 9))) Qd))) (Qa (pu 3) Qd))) (Qa (pu 13) (Qa (pu 14) Qd)))))) rfl))))))))
   (Qf (Qk (i:=5) sc_l_planted.nd rfl (Or.inl rfl) (Qg Qv (pu 5) (pu 7))))))
   (Qf (Qr (Q8 (N:=["_law_k","_law_rows"]) (caps:=[none,some 4]) rfl ZR (QQ rfl T.aQ (Qa (pu 1) Qd)) (fun _ _ _ _=>Ql (i:=0) (show (["_law_k","_law_rows"]:List Str).Nodup by decide +kernel) rfl (Or.inl rfl) (.inr rfl)) (fun _ _ _ _=>QW) (fun _ _ _ _=>(Q4 (Q9 hr) (pu 1) (pu 0) (fun _ _=>rfl)))))))))),?_⟩
 walk_at "go";walk_at "dg";intro pd hpd;generalize e_g1:upd H pd _=H1 at *;obtain ⟨g1,k1⟩:=nwH hpd e_g1;refine ⟨by decide,fun le hle=>?_⟩;generalize e_g2:upd H1 le _=H2 at *;obtain ⟨g2,k2⟩:=nwH hle e_g2;have d2:=g2 _ _ k1;have g02:=g1.trans g2;refine ⟨a,ns,m,rfl,rfl,g02.seq hS,hB,hm,fun lsg segs sv H3 hlsg g3 kseg hSg pm=>?_⟩;have g03:=g02.trans g3;have d3:=g3 _ _ d2;have svl:=hSg.1;have kB:∀ {i:Int},i.natAbs<2 ^ 40->Bd 60000 i:=fun h=>(show Bd 40 _ from h).mono (by decide)
 have flen:((segs.map (·.2)).flatten).length=m:=by rw [pm.length_eq,Fo,E9]
 have fin:∀ j:Int,j∈(segs.map (·.2)).flatten->0<=j/\j<(m:Int):=fun j hj=>by
  obtain ⟨n,hn,e⟩:=FK.mp (pm.mem_iff.mp hj);rw [List.mem_range] at hn;omega
 have tkl:∀ i,(((segs.take i).map (·.2)).flatten).length<=8:=fun i=>by
  have e:(segs.map (·.2)).flatten=((segs.take i).map (·.2)).flatten++((segs.drop i).map (·.2)).flatten:=by rw [<-Dj,<-Fz,ES]
  have h1:=congrArg List.length e;rw [Fv] at h1;omega
 have tkm:∀ (i:Nat) (j:Int),j∈((segs.take i).map (·.2)).flatten->0<=j/\j<(m:Int):=fun i j hj=>by
  refine fin j ?_;have e:(segs.map (·.2)).flatten=((segs.take i).map (·.2)).flatten++((segs.drop i).map (·.2)).flatten:=by rw [<-Dj,<-Fz,ES]
  rw [e];exact FR.mpr (.inl hj)
 have led:le≠pd:=fun e=>by rw [e,k1] at hle;cases hle
 have lsd:lsg≠pd:=fun e=>by rw [e,d3] at kseg;cases kseg
 refine ⟨lsg,rfl,⟨_,SqL.of kseg⟩,Xn (xs:=sv) (fun i σ' H'=>∃ (kvs:List (Key×V)) (lx:Addr) (x6 x7 x8 x9 x10 x11 x12 x13 x14:Option V),σ'=[some (.ref a),some (.int m),some (.ref ln),some (.bl b),some (.ref pd),some (.ref lx),x6,x7,x8,x9,x10,x11,x12,x13,x14]/\Same H H'/\Oth pd H3 H'/\H' pd=some (.dK kvs)/\H' lx=some (.lst ((((segs.take i).map (·.2)).flatten).map V.int))/\lx≠pd/\(∀ j∈((segs.take i).map (·.2)).flatten,Done K nms m pd H' kvs j)/\kvs.length<=(((segs.take i).map (·.2)).flatten).length) ⟨[],le,none,none,none,none,none,none,none,none,none,rfl,g03,Oth.refl _ _,d3,g3 _ _ k2,led,(fun j h=>nomatch h),Ft _⟩ (fun i σ' H' _ h=>by obtain ⟨_,_,_,_,_,_,_,_,_,_,_,_,_,o,_⟩:=h;exact SqL.of (o _ _ lsd kseg)) ?_ ?_⟩
 ·rintro i v _ H4 hv ⟨kvs,lx,x6,x7,x8,x9,x10,x11,x12,x13,x14,rfl,g4,o4,d4,k4,lxd,dn,kvl⟩;obtain ⟨⟨ring,part⟩,hsi,pt,lp,rfl,hT,hlp⟩:=hSg.getV hv;have ts:((segs.take (i+1)).map (·.2)).flatten=((segs.take i).map (·.2)).flatten++part:=by rw [FA,hsi,Fz,Dj];simp
  have hl1:=tkl (i+1);rw [ts,Fv] at hl1;have hm1:=tkm (i+1);rw [ts] at hm1;have lpd:lp≠pd:=fun e=>by rw [e,d3] at hlp;cases hlp
  have hT4:SqT K H4 pt [.bl ring,.ref lp]:=(Be o4).sqT (Yk (Bl d3) hT) |> del_sub.sqT
  have p4:=o4 _ _ lpd hlp;have prop:∀ j:Int,j∈part->0<=j/\j<(m:Int):=fun j hj=>hm1 j (FR.mpr (.inr hj))
  refine ZG hT4 rfl ?_;generalize hR2:Z4 _ (Zt 5)=R2;walk_at "go";refine ZL (SqL.of p4) ?_;walk_at "go";rw [Fo];refine ⟨by omega,by omega,J0 (fun j σ' H'=>∃ (kvs:List (Key×V)) (x8 x9 x10 x11 x12 x13 x14:Option V),σ'=[some (.ref a),some (.int m),some (.ref ln),some (.bl b),some (.ref pd),some (.ref lx),some (.bl ring),some (.ref lp),x8,x9,x10,x11,x12,x13,x14]/\Same H H'/\Oth pd H4 H'/\H' pd=some (.dK kvs)/\(∀ k∈((segs.take i).map (·.2)).flatten++part.take j,Done K nms m pd H' kvs k)/\kvs.length<=(((segs.take i).map (·.2)).flatten).length+j) ⟨kvs,x8,x9,x10,x11,x12,x13,x14,rfl,g4,Oth.refl _ _,d4,by rw [List.take_zero,Ec];exact dn,kvl⟩ ?_ ?_⟩
  ·rintro at' _ H5 hat ⟨kvs5,x8,x9,x10,x11,x12,x13,x14,rfl,g5,o5,d5,dn5,kvl5⟩;have e0:(0:Int)+at'=at':=Ew _;rw [e0];have hap:at'<part.length:=by omega
   obtain ⟨kk,hkk⟩:∃ kk,part[at']?=some kk:=⟨_,Fu hap⟩
   have kb:=prop kk (FD hkk);obtain ⟨k,rfl⟩:=EI kb.1;have k8:k<8:=by omega
   have p5:=o5 _ _ lpd p4;have m6:CMulB 6 (k:Int):=⟨kB (by decide),kB (by omega)⟩
   generalize hR3:ZH (Z4 _ (MN _ _ _)) _=R3;walk_at "go";refine Zj (SqL.of p5) (QP (v:=.int k) (by rw [Fx,hkk];rfl)) ?_;walk_at "go";refine ⟨a,lx,ln,ns,k,_,nms,rfl,rfl,rfl,rfl,g5.seq hS,hB,k8,SqL.of (o5 _ _ lxd k4),fun j hj=>by have:=tkm i j hj;omega,tkl i,g5.seq hN,nl,fun pc cs H6 hpc g6 hC ok0 csl sbl=>?_⟩;have cin:∀ z∈cs.map (·.1),∃ j∈((segs.take i).map (·.2)).flatten,z=nmJ nms j:=fun z hz=>by
    obtain ⟨j,hj,e⟩:=FK.mp (sbl.subset hz);exact ⟨j,hj,e.symm⟩
   have jat:∀ j:Int,0<=j->j<(m:Int)->∃ n:Nat,j=n/\n<m/\nms[n]?=some (nmJ nms j):=fun j h0 h1=>by
    obtain ⟨n,rfl⟩:=EI h0;have hn:n<nms.length:=by omega
    exact ⟨n,rfl,by omega,by rw [UD (Fu hn)];exact Fu hn⟩
   have nmi:∀ j j':Int,0<=j->j<(m:Int)->0<=j'->j'<(m:Int)->nmJ nms j=nmJ nms j'->j=j':=fun j j' a1 a2 b1 b2 e=>by
    obtain ⟨n,rfl,n1,n2⟩:=jat j a1 a2;obtain ⟨n',rfl,n3,n4⟩:=jat j' b1 b2;rw [e] at n2;have l1:=Qw n2;have l2:=Qw n4;have:=(List.getElem_inj (h₀:=l1) (h₁:=l2) nnd).mp (FF ((Fu l1).symm.trans (n2.trans (n4.symm.trans (Fu l2)))));omega
   have fnd:(((segs.take i).map (·.2)).flatten++part).Nodup:=by
    have h1:((segs.map (·.2)).flatten).Nodup:=pm.nodup_iff.mpr (List.pairwise_map.mpr (List.nodup_range.imp fun h e=>h (Int.ofNat.inj e)));have e:(segs.map (·.2)).flatten=((segs.take (i+1)).map (·.2)).flatten++((segs.drop (i+1)).map (·.2)).flatten:=by rw [<-Dj,<-Fz,ES]
    rw [e,ts] at h1;exact (ER.mp h1).1
   have cnd:(cs.map (·.1)).Nodup:=by
    refine sbl.nodup ?_;refine List.pairwise_map.mpr (List.Pairwise.imp_of_mem (fun {j j'} hj hj' ne e=>ne ?_) (ER.mp fnd).1);exact nmi j j' (tkm i j hj).1 (tkm i j hj).2 (tkm i j' hj').1 (tkm i j' hj').2 e
   have ok:Nz (nms.take m) cs:=fun c hc=>by
    obtain ⟨j,hj,e⟩:=cin c.1 (List.mem_map_of_mem hc);obtain ⟨n,_,n1,n2⟩:=jat j (tkm i j hj).1 (tkm i j hj).2;exact ⟨UE (n2.trans (by rw [e])) n1,(ok0 c hc).2⟩
   have g06:=g5.trans g6;have d6:=g6 _ _ d5;have cpd:pc≠pd:=fun e=>by rw [e,d5] at hpc;cases hpc
   have key:∀ (D:Q3) (y11 y12:Option V) (cs:List (Str×Rat)) (H7:Hp),D.nx=(fun σ' H'=>∃ (kvs:List (Key×V)) (x8 x9 x10 x11 x12 x13 x14:Option V),σ'=[some (.ref a),some (.int m),some (.ref ln),some (.bl b),some (.ref pd),some (.ref lx),some (.bl ring),some (.ref lp),x8,x9,x10,x11,x12,x13,x14]/\Same H H'/\Oth pd H4 H'/\H' pd=some (.dK kvs)/\(∀ k∈((segs.take i).map (·.2)).flatten++part.take (at'+1),Done K nms m pd H' kvs k)/\kvs.length<=(((segs.take i).map (·.2)).flatten).length+(at'+1))->Same H5 H7->Cl K H7 cs pc->Nz (nms.take m) cs->(cs.map (·.1)).Nodup->cs.length<=60 ->
     R3 D [some (.ref a),some (.int m),some (.ref ln),some (.bl b),some (.ref pd),some (.ref lx),some (.bl ring),some (.ref lp),some (.int at'),some (.int k),some (.ref pc),y11,y12,x13,x14] H7:=by
    intro D y11 y12 cs H7 hD g7 hC7 ok7 nd7 csl7;subst hR3;generalize hR4:NU _ _ _=R4;walk_at "go";have g07:=g5.trans g7;refine ⟨m6,a,ns,_,rfl,rfl,g07.seq hS,by omega,?_⟩;refine ⟨_,rfl,(X4 hB _).mono (by decide),fun pj lm un H8 g8 hT8 hlm hun=>?_⟩;refine ZG hT8 rfl ?_;walk_at "go";have last:∀ (lm un:Option Int),(∀ i,lm=some i->0<=i/\i<=10 ^ 9)->(∀ i,un=some i->1<=i/\i<=10 ^ 9)->R4 D [some (.ref a),some (.int m),some (.ref ln),some (.bl b),some (.ref pd),some (.ref lx),some (.bl ring),some (.ref lp),some (.int at'),some (.int k),some (.ref pc),y11,y12,some (oV lm),some (oV un)] H8:=by
     intro lm un hlm hun;subst hR4;have g58:=g7.trans g8;have g08:=g5.trans g58;have d8:=g58 _ _ d5;obtain ⟨nm,hnm⟩:∃ nm,nms[k]?=some nm:=⟨_,Fu (by omega)⟩
     walk_at "dg";refine Zj (g08.seq hN) (QP (v:=.str nm) (by rw [Fx,hnm];rfl)) ?_;refine ⟨m6,a,ns,_,rfl,rfl,g08.seq hS,by omega,?_⟩;refine ⟨_,b,rfl,rfl,(X4 hB _).mono (by decide),fun lo os H9 lo0 g9 hO lim osz ol=>⟨by decide,fun p10 hp10=>?_⟩⟩;generalize e_g10:upd H9 p10 _=H10 at *;obtain ⟨g10,k10⟩:=nwH hp10 e_g10;have g8t:=g9.trans g10;have g5t:=g58.trans g8t;have d10:=g5t _ _ d5;have lod:lo≠pd:=fun e=>by rw [e,d8] at lo0;cases lo0
     have row:Rr K (del H10 pd) ⟨nm,cs,os,lm,un⟩ (.ref p10):=⟨p10,pc,lo,rfl,Yk (Bl d10) (SqT.of k10),(hC7.same (g8.trans g8t)).del (Bl d10) cpd,(hO.same g10).del (Bl d10) lod⟩
     refine ⟨pd,_,rfl,DPut.k (k:=Sum.inl (k:Int)) d10 (by unfold sizeLine;omega),?_⟩;rw [hD];have o10:Oth pd H4 H10:=o5.trans (U7 g5t);refine ⟨_,_,_,_,_,_,_,_,rfl,QB (g5.trans g5t) hpd,o10.put,Qe,fun j hj=>?_,?_⟩
     ·unfold Done;rw [Wi];by_cases c:j=(k:Int)
      ·refine ⟨.ref p10,⟨nm,cs,os,lm,un⟩,by rw [VA,Fs (by rw [c])],row,by rw [c];exact hnm,⟨nd7,ok7,csl7,lim,osz,ol,hlm,hun⟩⟩
      ·have hj':j∈((segs.take i).map (·.2)).flatten++part.take at':=by
        rcases FR.mp hj with h | h
        ·exact FR.mpr (.inl h)
        ·rw [FA,hkk] at h;rcases FR.mp h with h | h
         ·exact FR.mpr (.inr h)
         ·exact absurd (by simpa using h) c
       obtain ⟨v,r,h1,h2,h3,h4⟩:=dn5 j hj';exact ⟨v,r,by rw [VA,Fl (fun e=>c (Sum.inl.inj e))];exact h1,h2.same (Z1 g5t),h3,h4⟩
     ·have:=Yg kvs5 (Sum.inl (k:Int):Key) (.ref p10);omega
    have ll:=last lm un hlm hun;have nn:=last none none (fun i h=>nomatch h) (fun i h=>nomatch h);refine ⟨ring,rfl,QK (fun _=>⟨b,rfl,QK (fun _=>?_) (fun _=>?_)⟩) (fun _=>?_)⟩
    ·exact nn
    ·exact ll
    ·exact ll
   refine ⟨ring,rfl,QK (fun _=>?_) (fun _=>key _ _ _ cs H6 rfl g6 hC ok cnd (by omega))⟩;have p6:=g6 _ _ p5;refine ZL (SqL.of p6) ?_;rw [Fo];walk_at "go";have pp:0<(part.length:Int):=by omega
   have u0:=FU ((at':Int)+1) (show (part.length:Int)≠0 by omega);have u1:=FW ((at':Int)+1) pp;refine ⟨pp,?_⟩;generalize ((at':Int)+1) % (part.length:Int)=u at *;obtain ⟨un,rfl⟩:=EI u0;obtain ⟨kq,hkq⟩:∃ kq,part[un]?=some kq:=⟨_,Fu (by omega)⟩
   have kqb:=prop kq (FD hkq);obtain ⟨kn,rfl⟩:=EI kqb.1;obtain ⟨nb,hnb⟩:∃ nb,nms[kn]?=some nb:=⟨_,Fu (by omega)⟩
   refine Zj (SqL.of p6) (QP (v:=.int kn) (by rw [Fx,hkq];rfl)) ?_;refine Zj (g06.seq hN) (QP (v:=.str nb) (by rw [Fx,hnb];rfl)) ?_;obtain ⟨cw,kc6,hcw⟩:=hC;have cwl:=hcw.1;refine ⟨m6,a,ns,_,rfl,rfl,g06.seq hS,by omega,?_⟩;generalize cl ns (3+6*(k:Int))=c3;walk_at "go";refine ⟨CDivB.small (by decide) (by decide),ZL (SqL.of kc6) ?_⟩;walk_at "go";have q0:=FU (c3.fdiv 16) (show ((cw.length:Int)+1)≠0 by omega);have q1:=FW (c3.fdiv 16) (show 0<((cw.length:Int)+1) by omega);refine ⟨by omega,?_⟩;generalize c3.fdiv 16 % ((cw.length:Int)+1)=pl at *;refine ⟨.inl ⟨rfl,_,SqL.of kc6⟩,m6,a,ns,_,rfl,rfl,g06.seq hS,by omega,?_⟩;have c5:=cl2 hB (5+6*(k:Int)) (d:=3) (by decide);walk_at "go";refine ⟨_,b,rfl,rfl,c5.mono (by decide),fun z r H7 g7 f7 r0 rb=>⟨by decide,fun p8 hp8=>?_⟩⟩;generalize e_g8:upd H7 p8 _=H8 at *;obtain ⟨g8,k_g8⟩:=nwH hp8 e_g8;have w8:Cp K H8 (nb,r) (.ref p8):=⟨p8,_,rfl,SqT.of k_g8,f7.same g8⟩
   have g78:=g7.trans g8;have kc8:=g78 _ _ kc6;refine ⟨pc,cw,pl,.ref p8,rfl,rfl,kc8,q0,by omega,by omega,?_⟩;have hA8:All2 (Cp K H8) cs cw:=hcw.imp fun _ _ y=>y.same g78
   have gw:=Xk (ys:=cw.take pl.toNat++V.ref p8 :: cw.drop pl.toNat) kc8;refine key _ _ _ (cs.take pl.toNat++(nb,r) :: cs.drop pl.toNat) _ rfl (QB (g6.trans g78) hpc) ⟨_,Qe,(Ln hA8 pl.toNat w8).imp fun _ _ y=>y.grow gw⟩ (fun c hc=>?_) ?_ (by simp;omega)
   ·rcases FR.mp hc with h | h
    ·exact ok c (List.mem_of_mem_take h)
    ·rcases FS.mp h with rfl | h
     ·exact ⟨UE hnb (by omega),r0,rb⟩
     ·exact ok c (List.mem_of_mem_drop h)
   ·rw [Fz,F5];refine List.perm_middle.nodup_iff.mpr (EB.mpr ⟨fun hmem=>?_,?_⟩)
    ·rw [<-Fz,ES] at hmem;obtain ⟨j,hj,e⟩:=cin nb hmem;have ek:nmJ nms (kn:Int)=nmJ nms j:=by rw [UD hnb];exact e
     have:=nmi kn j kqb.1 kqb.2 (tkm i j hj).1 (tkm i j hj).2 ek;exact (ER.mp fnd).2.2 j hj (kn:Int) (FD hkq) this.symm
    ·rw [<-Fz,ES];exact cnd
  ·rintro _ H5 ⟨kvs5,x8,x9,x10,x11,x12,x13,x14,rfl,g5,o5,d5,dn5,kvl5⟩;show R2 _ _ _;subst hR2;walk_at "go";have p5:=o5 _ _ lpd p4;have l5:=o5 _ _ lxd k4;have hpl8:part.length<=8:=by omega
   have htk8:=tkl i;refine ⟨lx,lp,_,_,rfl,rfl,l5,p5,by simp only [Fo];unfold sizeLine;omega,fun l6 hl6=>?_⟩;have g6:=Qi hl6 (.lst ((((segs.take i).map (·.2)).flatten).map V.int++part.map V.int));have ld6:l6≠pd:=fun e=>by rw [e,d5] at hl6;cases hl6
   have ep:(part.length:Int).toNat=part.length:=by omega
   rw [ep,FC] at dn5;refine ⟨kvs5,l6,_,_,_,_,_,_,_,_,_,rfl,g5.trans g6,o4.trans (o5.trans (U7 g6)),g6 _ _ d5,by rw [Qe,ts,Fz],ld6,?_,?_⟩
   ·rw [ts];exact fun j hj=>(dn5 j hj).same (Z1 g6)
   ·rw [ts,Fv];omega
 ·rintro _ H4 ⟨kvs,lx,x6,x7,x8,x9,x10,x11,x12,x13,x14,rfl,g4,o4,d4,k4,lxd,dn,kvl⟩;rw [<-svl,FC] at dn;walk_at "go";simp only [QU];walk_at "dg";have dnk:∀ k:Nat,k<m->Done K nms m pd H4 kvs k:=fun k hk=>dn k (pm.mem_iff.mpr (FK.mpr ⟨k,List.mem_range.mpr hk,rfl⟩))
  refine ⟨by omega,by omega,V3 (fun i acc σ' H'=>∃ (x0:Option V) (rs:List Rw),σ'=[x0,some (.ref pd)]/\H'=H4/\All2 (Rr K (del H4 pd)) rs acc/\rs.map (·.nm)=nms.take i/\∀ r∈rs,Ny (nms.take m) r) ⟨none,[],rfl,rfl,All2.nil,rfl,fun r h=>nomatch h⟩ (by omega) ?_ ?_⟩
  ·rintro i acc _ H5 hi hacc ⟨x0,rs,rfl,e5,hA,rn,rok⟩;rw [e5];have e0:(0:Int)+i=i:=Ew _;rw [e0];have him:i<m:=by omega
   obtain ⟨v,r,h1,h2,h3,h4⟩:=dnk i him;simp only [ZK];walk_at "dg";refine ⟨pd,v,rfl,by have:=DGet.k (k:=Sum.inl (i:Int)) d4;rw [h1] at this;exact this,?_⟩;refine CN.mk hi (by rw [Fv,FH];omega) ⟨_,rs++[r],rfl,rfl,hA.snoc h2,?_,fun r' hr'=>?_⟩
   ·have h3':nms[i]?=some r.nm:=h3;rw [Fz,rn,FA,h3'];rfl
   ·rcases FR.mp hr' with h | h
    ·exact rok r' h
    ·rw [FE.mp h];exact h4
  ·rintro acc _ H5 ⟨x0,rs,rfl,e5,hA,rn,rok⟩ pl hpl;rw [e5] at hpl ⊢;have mm:((m:Int)).toNat=m:=by omega
   rw [mm] at rn;have gl:=Qi hpl (.lst acc);exact q pl rs acc _ (g4.free hpl) (g4.trans gl) Qe (hA.imp fun _ _ y=>(y.same del_sub).same gl) rn rok
theorem Uv (T:Tx K mg t) (F:Fun K "_law_times" "_law_times" Yn f fd) (bL:Cal P w K mg base 2 "_law_low" ["_law_top","_law_bottom"] (Sp2M φlow)):FnOk P w K mg base CX0 3 f fd ["_law_one","_law_other"] (Sp2 (Qop K (·*·))):=by
 refine F.ok Uj ZV (fun cdv A outer s H vs Q E hr h=>?_);obtain ⟨_,_,rfl,a,b,m,n,⟨p,rfl,h1⟩,⟨r,rfl,h2⟩,sa,sb,hmn,q⟩:=h;refine ⟨_,((Qf (Qr (Qs bL (hrm hr) rfl (Qa (Qg QZ (Qp (ixK K rfl) (pu 0) Qb (fun _ _=>rfl)) (Qp (ixK K rfl) (pu 1) Qb (fun _ _=>rfl))) (Qa (Qg QZ (Qp (ixK K rfl) (pu 0) Qb (fun _ _=>rfl)) (Qp (ixK K rfl) (pu 1) Qb (fun _ _=>rfl))) Qd)))))),?_⟩;walk_at "go";refine ⟨⟨sa.1.mono (by omega),sb.1.mono (by omega)⟩,?_⟩;walk_at "go";have pa:(0:Int)<(a.den:Int):=Int.natCast_pos.mpr a.den_pos;have pb:(0:Int)<(b.den:Int):=Int.natCast_pos.mpr b.den_pos;refine ⟨⟨sa.2.mono (by omega),sb.2.mono (by omega)⟩,_,_,rfl,rfl,Int.mul_pos pa pb,(sa.2.mul sb.2).mono (by omega),fun z hz=>q _ _ (Qi hz _) ?_⟩;show Fq K _ (a*b) _;rw [KO];exact Fq.new (Dg (dnz a) (dnz b))
inductive φlgr (K:W.Frag) (x:V) (H:Hp) (Q:VK):Prop
 | mk (lo:Addr) (os:List (Int×Rat)) (h1:x=.ref lo) (h2:Ol K H os lo) (h3:∀ p∈os,0<=p.2/\RB 14 p.2) (h4:∀ z H',Same H H'->Fq K H' (gr os) z->Q z H'):φlgr K x H Q
theorem JX (T:Tx K mg t) (F:Fun K "_law_greatest" "_law_greatest" Z7 f fd):FnOk P w K mg base CX0 1 f fd ["_law_offs_here"] (Sp1 (φlgr K)):=by
 refine F.ok sc_l_greatest Wq (fun cdv A outer s H vs Q E hr h=>?_);obtain ⟨_,rfl,lo,os,rfl,⟨vs,hlo,hA⟩,hr0,q⟩:=h;have hvl:=hA.1;refine ⟨_,((Qc (Qk (i:=1) sc_l_greatest.nd rfl (Or.inl rfl) (QE (Qa Qb (Qa Qb Qd))))
   (Qc (QG FL rfl (piK K rfl (pu 0)) (pgK (n:=2) K rfl rfl (QA (Ql (i:=2) sc_l_greatest.nd rfl (Or.inl rfl)) (QA (Ql (i:=3) sc_l_greatest.nd rfl (Or.inl rfl)) Q7)))
   (Qf (QL (Qq Jv (Qg QZ (Qp (ixK K rfl) (pu 1) Qb (fun _ _=>rfl)) (Qp (ixK K rfl) (pu 3) Qb (fun _ _=>rfl))) (Qg QZ (Qp (ixK K rfl) (pu 3) Qb (fun _ _=>rfl)) (Qp (ixK K rfl) (pu 1) Qb (fun _ _=>rfl))) (Qu _)) (Qf (Qk (i:=1) sc_l_greatest.nd rfl (Or.inl rfl) (pu 3))) Qx)))
   (Qf (Qr (pu 1)))))),?_⟩
 walk_at "go";refine ⟨by decide,fun p0 hp0=>?_⟩;generalize e_g1:upd H p0 _=H1 at *;obtain ⟨g1,k_g1⟩:=nwH hp0 e_g1;have hF1:Fq K H1 0 (.ref p0):=Fq.int (i:=0) (SqT.of k_g1);refine ⟨lo,rfl,⟨_,SqL.of (g1 _ _ hlo)⟩,Xn (xs:=vs) (fun i σ' H'=>∃ (z:V) (x2 x3:Option V),σ'=[some (.ref lo),some z,x2,x3]/\H'=H1/\Fq K H1 ((os.take i).foldl mx 0) z/\RB 14 ((os.take i).foldl mx 0)) ⟨_,none,none,rfl,rfl,hF1,RB.zero (by decide)⟩ (fun i σ' H' _ h=>by obtain ⟨_,_,_,_,rfl,_⟩:=h;exact SqL.of (g1 _ _ hlo)) ?_ ?_⟩
 ·rintro i v _ H2 hv ⟨z,x2,x3,rfl,e2,hF,hB⟩;rw [e2];obtain ⟨o,ho,pu,zu,rfl,hT,hFu⟩:=hA.getV hv;have om:=(hr0 o (FD ho)).2;have tk:(os.take (i+1)).foldl mx 0=mx ((os.take i).foldl mx 0) o:=by rw [FA,ho,List.foldl_append];rfl
  obtain ⟨pz,rfl,hTz⟩:=hF;obtain ⟨pw,rfl,hTw⟩:=hFu.same g1;generalize (os.take i).foldl mx 0=mm at *;refine ZG (g1.sqT hT) rfl ?_;walk_at "go";refine ⟨⟨hB.1.mono (by decide),om.2.mono (by decide)⟩,?_⟩;walk_at "go";refine ⟨⟨om.1.mono (by decide),hB.2.mono (by decide)⟩,?_⟩;walk_at "go";have e:(mm.num*(o.2.den:Int)<o.2.num*(mm.den:Int))↔mm<o.2:=(Rat.lt_iff _ _).symm;refine QK (fun c=>?_) (fun c=>?_)
  ·refine ⟨_,_,_,rfl,(by first | rfl | trivial),?_,?_⟩
   ·rw [tk];unfold mx;rw [Fs (e.mp c)];exact ⟨pw,rfl,hTw⟩
   ·rw [tk];exact Ge hB om
  ·refine ⟨_,_,_,rfl,(by first | rfl | trivial),?_,?_⟩
   ·rw [tk];unfold mx;rw [Fl (fun h=>c (e.mpr h))];exact ⟨pz,rfl,hTz⟩
   ·rw [tk];exact Ge hB om
 ·rintro _ H2 ⟨z,x2,x3,rfl,e2,hF,hB⟩;rw [e2];rw [<-hvl,FC] at hF;walk_at "go";exact q z H1 g1 hF
inductive φnar (K:W.Frag) (x:V) (H:Hp) (Q:VK):Prop
 | mk (p:Addr) (b:Bool) (a z:V) (r:Rat) (m:Nat) (h1:x=.ref p) (h2:SqT K H p [.str (if b=true then Str.ofString "ring" else Str.ofString "alone"),a,z]) (h3:Fq K H r z) (h4:RB m r) (h5:m<=8000) (h6:Q (.bl (b&&decide (r<1))) H):φnar K x H Q
theorem Uu (T:Tx K mg t) (F:Fun K "narrows" "narrows" Ym f fd) (bE:Cal P w K mg base 1 "below" ["one","other"] (Sp2M (Qlt K))):FnOk P w K mg base CX0 2 f fd ["block"] (Sp1 (φnar K)):=by
 refine F.ok Ui Wq (fun cdv A outer s H vs Q E hr h=>?_);obtain ⟨_,rfl,p,b,a,z,r,m,rfl,hT,hF,hB,hm,q⟩:=h;refine ⟨_,((Qf (Qr (Je (Zl (eqM K rfl hr.units) (Qp (ixK K rfl) (pu 0) Qb (fun _ _=>rfl)) QR (Qu _)) (Ju (Qs bE (hrm hr) rfl (Qa (Qp (ixK K rfl) (pu 0) Qb (fun _ _=>rfl)) (Qa (GU T.bD) Qd)))))))),?_⟩;cases b with
 | true=>
  have hT:SqT K H p [.str (Str.ofString "ring"),a,z]:=hT;walk_at "go";refine ⟨r,1,m,1,hF,T.bD.fq1,hB,RB.int (i:=1) (show Bd 1 1 by unfold Bd;decide) (by decide),by omega,?_⟩;exact q
 | false=>
  have hT:SqT K H p [.str (Str.ofString "alone"),a,z]:=hT;walk_at "go";exact q
inductive φkind (K:W.Frag) (t:Adr) (x y:V) (H:Hp) (Q:VK):Prop
 | mk (r:Rw) (n:Int) (h1:Rr K H r x) (h2:y=.int n) (h3:0<=n) (h4:n<2000000) (h5:r.cs.length<=60) (h6:r.os.length<=60) (h7:∀ v H',Same H H'->(∀ q ws,H q=some (.lst ws)->Kn K t.aE (del H' q) r v)->Q v H'):φkind K t x y H Q
theorem XN {x:Addr}{o1 o2:HO}(hx:H x=none) (hd:H dx=none) (o:Oth x (upd (upd H dx o1) x o2) H'):Same H H':=fun c u h=>by
 have c1:c≠x:=fun e=>by rw [e,hx] at h;cases h
 have c2:c≠dx:=fun e=>by rw [e,hd] at h;cases h
 exact o c u c1 (by rw [Qj c1,Qj c2];exact h)
theorem Sa {y:V}{Q:Addr->Hp->Prop}(q:∀ x H',Same H H'->Q x H'):∀ x dx,H x=none->H dx=none->dx≠x->φone C (.ref x) y (upd (upd H dx (.own x)) x (.ins C dx [])) (fun v H2=>v=.non/\Q x H2):=fun x dx hx hd _=>φone.mk x dx rfl Qe fun H' o=>⟨rfl,q x H' (XN hx hd o)⟩
theorem T9 {y:V}{Q:Addr->Hp->Prop}(q:∀ x H',Same H H'->Q x H'):∀ x dx,H x=none->H dx=none->dx≠x->φtwo C (.ref x) y z (upd (upd H dx (.own x)) x (.ins C dx [])) (fun v H2=>v=.non/\Q x H2):=fun x dx hx hd _=>φtwo.mk x dx rfl Qe fun H' o=>⟨rfl,q x H' (XN hx hd o)⟩
theorem ND {y u:V}{Q:Addr->Hp->Prop}(q:∀ x H',Same H H'->Q x H'):∀ x dx,H x=none->H dx=none->dx≠x->φthree C (.ref x) y z u (upd (upd H dx (.own x)) x (.ins C dx [])) (fun v H2=>v=.non/\Q x H2):=fun x dx hx hd _=>φthree.mk x dx rfl Qe fun H' o=>⟨rfl,q x H' (XN hx hd o)⟩
theorem G1 (T:Tx K mg t) (F:Fun K "_law_kind" "_law_kind" Y0 f fd) (eG:JQ P w K mg base 1 t.aE ["self","title","parts","terms","pays","counts","offs","limit","unit","way"] (Sp10M (φkindI K t.aE))) (eI:JQ P w K mg base 1 t.bB ["self","many","low","high"] (Sp4M (φthree t.bB))) (eJ:JQ P w K mg base 1 t.bA ["self","many","low","high"] (Sp4M (φthree t.bA))) (eK:JQ P w K mg base 1 t.bH ["self","rate","most"] (Sp3M (φtwo t.bH))) (eL:JQ P w K mg base 1 t.aZ ["self","amount","low","high"] (Sp4M (φthree t.aZ))) (eN:JQ P w K mg base 1 t.bK ["self","amount"] (Sp2M (φone t.bK))):FnOk P w K mg base CX0 3 f fd ["_law_row","_law_number"] (Sp2 (φkind K t)):=by
 refine F.ok sc_l_kind ZV (fun cdv A outer s H vs Q E hr h=>?_);obtain ⟨_,_,rfl,r,n,hrow,rfl,n0,n1,cl,ol,q⟩:=h;refine ⟨_,((Qc (Qk (i:=2) sc_l_kind.nd rfl (Or.inl rfl) (Qp (ixK K rfl) (QC (Qa (QC Qd) (Qa (QC (Qa (X0 eN (hrm hr) rfl T.gZ (Qa (Qg Qt (pu 1) Qb) Qd)) Qd)) (Qa (QC (Qa (X0 eL (hrm hr) rfl T.hJ (Qa Qb (Qa Qb (Qa Qb Qd)))) (Qa (X0 eK (hrm hr) rfl T.hU (Qa (QE (Qa Qb (Qa Qb Qd))) (Qa Qb Qd))) Qd))) Qd)))) (Qg Qt (Qg Qz (pu 1) Qb) Qb) (fun _ _=>rfl)))
   (Qc (Qk (i:=3) sc_l_kind.nd rfl (Or.inl rfl) (Qp (ixK K rfl) (QC (Qa (QC Qd) (Qa (QC (Qa (X0 eJ (hrm hr) rfl T.hV (Qa (Qg Qv Qb (Qg Qt (pu 1) Qb)) (Qa Qb (Qa Qb Qd)))) Qd)) (Qa (QC (Qa (X0 eI (hrm hr) rfl T.hX (Qa Qb (Qa Qb (Qa Qb Qd)))) Qd)) Qd)))) (Qg Qt (Qg Qz (pu 1) Qb) Qb) (fun _ _=>rfl)))
   (Qc (Qk (i:=4) sc_l_kind.nd rfl (Or.inl rfl) (Qp (ixK K rfl) (QC (Qa (QC Qd) (Qa (QC (Qa (QE (Qa (QE (Qa Qb (Qa Qb Qd))) (Qa Qb (Qa Qb Qd)))) Qd)) (Qa (QC (Qa (QE (Qa (QE (Qa Qb (Qa Qb Qd))) (Qa Qb (Qa Qb Qd)))) (Qa (QE (Qa (QE (Qa Qb (Qa Qb Qd))) (Qa Qb (Qa Qb Qd)))) Qd))) Qd)))) (Qg Qt (Qg Qz (pu 1) Qb) Qb) (fun _ _=>rfl)))
   (Qc (Qk (i:=5) sc_l_kind.nd rfl (Or.inl rfl) (Qp (ixK K rfl) (QC (Qa QR (Qa QR (Qa QR Qd)))) (Qg QZ (Qg Qt (Qg Qz (pu 1) Qb) Qb) (QJ WO (by rfl) T.cT boot_int (Qa (Zl Y8 (Qp (ixK K rfl) (pu 0) Qb (fun _ _=>rfl)) Zh (Qu _)) Qd))) (fun _ _=>rfl)))
   (Qf (Qr (X0 eG (hrm hr) rfl T.gX (Qa (Qp (ixK K rfl) (pu 0) Qb (fun _ _=>rfl)) (Qa (pu 2) (Qa (pu 3) (Qa (pu 4) (Qa (QJ (Zf K rfl) (by rfl) T.aM Eg (Qa (Qp (ixK K rfl) (pu 0) Qb (fun _ _=>rfl)) Qd)) (Qa (QJ (Zf K rfl) (by rfl) T.aM Eg (Qa (Qp (ixK K rfl) (pu 0) Qb (fun _ _=>rfl)) Qd)) (Qa (Qp (ixK K rfl) (pu 0) Qb (fun _ _=>rfl)) (Qa (Qp (ixK K rfl) (pu 0) Qb (fun _ _=>rfl)) (Qa (pu 5) Qd))))))))))))))))),?_⟩
 obtain ⟨p,lc,lo,rfl,hT,hC,hO⟩:=hrow;have at3:∀ (a b c:V) (k:Int),atI [a,b,c] (k % 3)=some a∨atI [a,b,c] (k % 3)=some b∨atI [a,b,c] (k % 3)=some c:=fun a b c k=>by
  rcases (show k % 3=0∨k % 3=1∨k % 3=2 by omega) with e | e | e <;> rw [e]
  ·exact .inl rfl
  ·exact .inr (.inl rfl)
  ·exact .inr (.inr rfl)
 generalize hR:ZH (Z4 _ (Zt 3)) _=R;have key:∀ (D:Q3) l v H1,D.rt=Q->Same H H1->H1 l=some (.lst v)->R D [some (.ref p),some (.int n),some (.ref l),none,none,none] H1:=by
  intro D l v H1 hD g1 k1;subst hR;generalize hR:ZH (Z4 _ (Zt 4)) _=R;have key:∀ l2 v2 H2,Same H1 H2->H2 l2=some (.lst v2)->R D [some (.ref p),some (.int n),some (.ref l),some (.ref l2),none,none] H2:=by
   intro l2 v2 H2 g2 k2;subst hR;generalize hR:ZH (Z4 _ (Zt 5)) _=R;have key:∀ l3 v3 H3,Same H2 H3->H3 l3=some (.lst v3)->R D [some (.ref p),some (.int n),some (.ref l),some (.ref l2),some (.ref l3),none] H3:=by
    intro l3 v3 H3 g3 k3;subst hR;have g03:=(g1.trans g2).trans g3;generalize hR:(GJ _)=R;have key:∀ z H4,Same H3 H4->R D [some (.ref p),some (.int n),some (.ref l),some (.ref l2),some (.ref l3),some (.str z)] H4:=by
     intro z H4 g4;subst hR;unfold WX;walk_at "go";have g04:=g03.trans g4;have hT4:=g04.sqT hT;obtain ⟨cv,kc,aC⟩:=hC.same g04;obtain ⟨ov,ko,aO⟩:=hO.same g04;refine ZZ hT4 rfl (ZZ hT4 rfl (Z2 kc fun c1 hc1=>?_));generalize e_s1:upd H4 c1 _=H5 at *;obtain ⟨s1,k5⟩:=nwH hc1 e_s1;refine ZZ (s1.sqT hT4) rfl (Z2 (s1 _ _ ko) fun c2 hc2=>?_);generalize e_s2:upd H5 c2 _=H6 at *;obtain ⟨s2,k6⟩:=nwH hc2 e_s2;have s12:=s1.trans s2;refine ZZ (s12.sqT hT4) rfl (ZZ (s12.sqT hT4) rfl fun x dx hx hdx ne=>?_);have gm:Same H6 (upd (upd H6 dx (.own x)) x (.ins t.aE dx [])):=(Qi hdx _).trans (Qi (by rw [Qj ne.symm];exact hx) _);have t3:=(g4.trans s12).trans gm;refine ⟨x,dx,l,l2,l3,c1,c2,v,v2,v3,cv,ov,rfl,Qe,rfl,((g2.trans g3).trans t3) _ _ k1,rfl,(g3.trans t3) _ _ k2,rfl,t3 _ _ k3,rfl,(s2.trans gm) _ _ k5,rfl,gm _ _ k6,fun H' fs lc' lo' o i e1 e2 e3 e4 e5 j1 n1 j2 n2 fr1 fr2=>⟨rfl,?_⟩⟩;have go:=s12.trans (XN hx hdx o);have g0:=g04.trans go;rw [hD];refine q _ H' g0 fun b ws hb=>?_
     have b6:=(g04.trans s12) _ _ hb;have bm:=gm _ _ b6;have nb:=Bk (g0 _ _ hb);have nx:x≠b:=fun e=>by rw [e,b6] at hx;cases hx
     have nc:lc'≠b:=fun e=>by rw [e,bm] at fr1;cases fr1
     have no:lo'≠b:=fun e=>by rw [e,bm] at fr2;cases fr2
     exact ⟨x,dx,fs,lc',lo',rfl,by unfold del;rw [Fl nx];exact i,e1,e2,e3,e4,e5,Cl.del nb nc ⟨cv,j1,aC.imp fun _ _ y=>y.same go⟩,Ol.del nb no ⟨ov,j2,aO.imp fun _ _ y=>y.same go⟩⟩
    have w0:=FU (n.fdiv 1024) (show (3:Int)≠0 by decide);have w1:=FW (n.fdiv 1024) (show 0<(3:Int) by decide);have a3:=at3 (.str (Str.ofString "down")) (.str (Str.ofString "up")) (.str (Str.ofString "near")) (n.fdiv 1024);walk_at "go";generalize n.fdiv 1024 % 3=w at *;refine ⟨by decide,fun b1 hb1=>⟨CDivB.small (by decide) (by decide),trivial,ZZ ((g03.trans (Qi hb1 _)).sqT hT) rfl ⟨trivial,.inr ⟨_,rfl,?_⟩⟩⟩⟩;generalize (!decide (oV r.un=V.non))=bb;have kB:∀ {i:Int},i.natAbs<2 ^ 40->Bd 60000 i:=fun h=>(show Bd 40 _ from h).mono (by decide)
    have cm1:CMulB w 1:=⟨kB (by omega),kB (by decide)⟩
    have cm0:CMulB w 0:=⟨kB (by omega),kB (by decide)⟩
    cases bb with
    | true=>
     refine ⟨cm1,?_⟩;show rIx K _ (V.int (w*1)) _ _;rw [Int.mul_one];rcases a3 with e | e | e <;> exact Zj (SqL.of Qe) e (key _ _ (Qi hb1 _))
    | false=>
     refine ⟨cm0,?_⟩;show rIx K _ (V.int (w*0)) _ _;rw [Int.mul_zero];exact Zj (v:=.str (Str.ofString "down")) (SqL.of Qe) rfl (key _ _ (Qi hb1 _))
   walk_at "go";refine ⟨by decide,fun b1 hb1=>⟨by decide,fun b2 hb2=>⟨by decide,fun b3 hb3=>⟨by decide,fun b4 hb4=>⟨by decide,fun b5 hb5=>⟨by decide,fun b6 hb6=>⟨by decide,fun b7 hb7=>⟨by decide,fun b8 hb8=>⟨by decide,fun b9 hb9=>⟨by decide,fun b10 hb10=>⟨CDivB.small (by decide) (by decide),trivial,?_⟩⟩⟩⟩⟩⟩⟩⟩⟩⟩⟩;have s1:=Qi hb1 (.lst []);have s2:=Qi hb2 (.tup [.int 1,.int 1]);have s3:=Qi hb3 (.tup [.ref b2,.int 0,.int 150]);have s4:=Qi hb4 (.lst [.ref b3]);have s5:=Qi hb5 (.tup [.int 1,.int 2]);have s6:=Qi hb6 (.tup [.ref b5,.int 18,.int 66]);have s7:=Qi hb7 (.tup [.int 1,.int 3]);have s8:=Qi hb8 (.tup [.ref b7,.int 0,.int 40]);have s9:=Qi hb9 (.lst [.ref b6,.ref b8]);have s10:=Qi hb10 (.lst [.ref b1,.ref b4,.ref b9]);have f1:=s2.trans (s3.trans (s4.trans (s5.trans (s6.trans (s7.trans (s8.trans (s9.trans s10)))))));have f4:=s5.trans (s6.trans (s7.trans (s8.trans (s9.trans s10))));rcases at3 (.ref b1) (.ref b4) (.ref b9) (n.fdiv 256) with e | e | e
   ·exact Zj (SqL.of Qe) e (key _ [] _ (s1.trans f1) (f1 _ _ Qe))
   ·exact Zj (SqL.of Qe) e (key _ [.ref b3] _ (s1.trans f1) (f4 _ _ Qe))
   ·exact Zj (SqL.of Qe) e (key _ [.ref b6,.ref b8] _ (s1.trans f1) (s10 _ _ Qe))
  unfold WX;walk_at "go";refine ⟨by decide,fun a1 ha1=>⟨trivial,ND fun x1 H2 g2=>⟨by decide,fun a2 ha2=>ND fun x2 H3 g3=>⟨by decide,fun a3 ha3=>⟨by decide,fun a4 ha4=>⟨CDivB.small (by decide) (by decide),trivial,?_⟩⟩⟩⟩⟩⟩;have h1:=Qi ha1 (.lst []);have h2:=(Qi ha2 (.lst [.ref x1])).trans g3;have h3:=Qi ha3 (.lst [.ref x2]);have h4:=Qi ha4 (.lst [.ref a1,.ref a2,.ref a3]);have f34:=h3.trans h4;have f24:=h2.trans f34;have f14:=g2.trans f24;rcases at3 (.ref a1) (.ref a2) (.ref a3) (n.fdiv 64) with e | e | e
  ·exact Zj (SqL.of Qe) e (key _ [] _ (h1.trans f14) (f14 _ _ Qe))
  ·exact Zj (SqL.of Qe) e (key _ [.ref x1] _ (h1.trans f14) ((g3.trans f34) _ _ Qe))
  ·exact Zj (SqL.of Qe) e (key _ [.ref x2] _ (h1.trans f14) (h4 _ _ Qe))
 unfold WX;walk_at "go";refine ⟨by decide,fun a1 ha1=>⟨trivial,Sa fun x1 H1 g1=>⟨by decide,fun a2 ha2=>ND fun x2 H2 g2=>⟨by decide,fun a3 ha3=>T9 fun x3 H3 g3=>⟨by decide,fun a4 ha4=>⟨by decide,fun a5 ha5=>⟨CDivB.small (by decide) (by decide),trivial,?_⟩⟩⟩⟩⟩⟩⟩;have h1:=Qi ha1 (.lst []);have h2:=(Qi ha2 (.lst [.ref x1])).trans g2;have h3:=(Qi ha3 (.tup [.int 1,.int 2])).trans g3;have h4:=Qi ha4 (.lst [.ref x2,.ref x3]);have h5:=Qi ha5 (.lst [.ref a1,.ref a2,.ref a4]);have f35:=(h3.trans h4).trans h5;have f25:=h2.trans f35;have f15:=g1.trans f25;rcases at3 (.ref a1) (.ref a2) (.ref a4) (n.fdiv 16) with e | e | e
 ·exact Zj (SqL.of Qe) e (key _ _ [] _ rfl (h1.trans f15) (f15 _ _ Qe))
 ·exact Zj (SqL.of Qe) e (key _ _ [.ref x1] _ rfl (h1.trans f15) ((g2.trans f35) _ _ Qe))
 ·exact Zj (SqL.of Qe) e (key _ _ [.ref x2,.ref x3] _ rfl (h1.trans f15) (h5 _ _ Qe))
inductive φoffice (K:W.Frag) (t:Adr) (x y:V) (H:Hp) (Q:VK):Prop
 | mk (lr:Addr) (rs:List Rw) (vs:List V) (c:Int) (h1:x=.ref lr) (h2:H lr=some (.lst vs)) (h3:All2 (Rr K H) rs vs) (h4:y=.int c) (h5:Bd 1100000 c) (h6:rs.length<=8) (h7:∀ r∈rs,r.cs.length<=60/\r.os.length<=60)
   (h8:∀ p H',Same H H'->Of K t H' rs p->Q (.ref p) H'):φoffice K t x y H Q
theorem B4 {y:V}{Q:Addr->Hp->Prop}(h:H l=some (.lst vs)) (q:∀ x H',Same H H'->Q x H'):∀ x dx,H x=none->H dx=none->dx≠x->φcapI K C (.ref x) y z (.ref l) (upd (upd H dx (.own x)) x (.ins C dx [])) (fun v H2=>v=.non/\Q x H2):=fun x dx hx hd ne=>⟨x,dx,l,vs,rfl,Qe,rfl,((Qi hd _).trans (Qi (by rw [Qj ne.symm];exact hx) _)) _ _ h,fun H' o=>⟨rfl,q x H' (XN hx hd o)⟩⟩
theorem ZF {l:List Str}(h:SqL K H a (l.map V.str)):Rep K H (.lst (l.map D.str)) (.ref a):=by
 refine .lst h (by simp) fun i d x h1 h2=>?_
 rw [Fx] at h1 h2;obtain ⟨z,hz,rfl⟩:=FO.mp h1;rw [hz] at h2;cases h2;exact .str _
theorem JG {l:List Str}:DB 30 (.lst (l.map D.str)):=.lst fun d hd=>by
 obtain ⟨z,_,rfl⟩:=FK.mp hd;exact .str _
theorem VN (T:Tx K mg t) (F:Fun K "_law_office" "_law_office" XU f fd) (eO:JQ P w K mg base 1 t.aL ["self","kinds","caps"] (Sp3M (φoffI K t.aL))) (dF:JQ P w K mg base 1 t.aR ["self","limit","each","titles"] (Sp4M (φcapI K t.aR))) (eP:Cal P w K mg base 3 "_law_kind" ["_law_row","_law_number"] (Sp2M (φkind K t))):FnOk P w K mg base CX0 5 f fd ["_law_rows","_law_cell"] (Sp2 (φoffice K t)):=by
 refine F.ok sc_l_office ZV (fun cdv A outer s H vs Q E hr h=>?_);obtain ⟨_,_,rfl,lr,rs,vs,c,rfl,hlr,hA,rfl,hc,rl,rok,q⟩:=h;refine ⟨_,((Qc (Qk (i:=2) sc_l_office.nd rfl (Or.inl rfl) (QC (Qa Qb (Qa Qb (Qa Qb (Qa Qb (Qa Qb (Qa Qb (Qa Qb (Qa Qb Qd))))))))))
   (Qc (Qk (i:=3) sc_l_office.nd rfl (Or.inl rfl) (QC Qd))
   (Qc (QG FL rfl (QQ rfl T.aQ (Qa (Qo (YA K rfl) (by rfl) T.aP Eh (Qa (pu 0) Qd)) Qd)) (Ql (i:=4) sc_l_office.nd rfl (Or.inl rfl))
   (Qf (QS (Zb K rfl F3 F7 F8 QO (pu 3) (Qa (Qs eP (hrm hr) rfl (Qa (Qp (ixK K rfl) (pu 0) (pu 4) (fun _ _=>rfl)) (Qa (Qg Qt (Qg Qy (Qg Qv (Qg Qt (pu 1) Qb) Qb) (Qp (ixK K rfl) (pu 2) (pu 4) (fun _ _=>rfl))) Qb) Qd))) Qd)))))
   (Qc (Qk (i:=5) sc_l_office.nd rfl (Or.inl rfl) (Xh (slK K rfl) (Q8 (N:=["_law_row"]) (caps:=[none]) rfl ZR (piK K rfl (pu 0)) (fun _ _ _ _=>Ql (i:=0) (show (["_law_row"]:List Str).Nodup by decide +kernel) rfl (Or.inl rfl) (.inr rfl)) (fun _ _ _ _=>QW) (fun _ _ _ _=>(Qp (ixK K rfl) (pu 0) Qb (fun _ _=>rfl)))) (XY (Qg Qt (pu 1) Qb)) XZ))
   (Qc (Qk (i:=6) sc_l_office.nd rfl (Or.inl rfl) (QC Qd))
   (Qc (QL (PW.pt (Xf (Qq (neM K rfl hr.units) (pu 5) (QC Qd) (Qu _)) (ZP (Qq (eqM K rfl hr.units) (Qg Qt (Qg Qz (pu 1) Qb) Qb) Qb (Qu _))))) (Qf (Qk (i:=6) sc_l_office.nd rfl (Or.inl rfl) (QC (Qa (X0 dF (hrm hr) rfl T.dP (Qa (Qg Qt (Qg Qz (pu 1) Qb) Qb) (Qa Qb (Qa (Xh (slK K rfl) (pu 5) XZ (XY Qb)) Qd)))) Qd)))) Qx)
   (Qc (QL (PW.pt (Xf (Qq Us (Qo (YA K rfl) (by rfl) T.aP Eh (Qa (pu 5) Qd)) Qb (Qu _)) (ZP (Qq (eqM K rfl hr.units) (Qg Qt (Qg Qz (pu 1) Qb) Qb) Qb (Qu _))))) (Qf (QS (Zb K rfl F3 F7 F8 QO (pu 6) (Qa (X0 dF (hrm hr) rfl T.dP (Qa Qb (Qa (Qg Qt (Qg Qz (pu 1) Qb) Qb) (Qa (Xh (slK K rfl) (pu 5) (XY Qb) XZ) Qd)))) Qd)))) Qx)
   (Qf (Qr (X0 eO (hrm hr) rfl T.gY (Qa (pu 3) (Qa (pu 6) Qd))))))))))))),?_⟩
 have hvl:=hA.1;have byA:∀ k:Nat,k<8->∃ u:Int,[V.int 48271,V.int 69621,V.int 16807,V.int 39373,V.int 30269,V.int 40014,V.int 40692,V.int 20021][k]?=some (.int u)/\0<=u/\u<100000:=by
  intro k hk;rcases (show k=0∨k=1∨k=2∨k=3∨k=4∨k=5∨k=6∨k=7 by omega) with rfl | rfl | rfl | rfl | rfl | rfl | rfl | rfl <;> exact ⟨_,rfl,by decide,by decide⟩
 generalize hR:ZH (Z4 _ (Zt 5)) _=R;walk_at "go";refine ⟨by decide,fun pb hpb=>⟨by decide,fun pk hpk=>?_⟩⟩;generalize [V.int 48271,V.int 69621,V.int 16807,V.int 39373,V.int 30269,V.int 40014,V.int 40692,V.int 20021]=by8 at *;generalize e_g1:upd H pb _=H1 at *;obtain ⟨g1,kb⟩:=nwH hpb e_g1;generalize e_g2:upd H1 pk _=H2 at *;obtain ⟨g2,kk⟩:=nwH hpk e_g2;have g02:=g1.trans g2;have hpk0:=g1.free hpk;have pbk:pb≠pk:=fun e=>by rw [<-e,kb] at hpk;cases hpk
 refine ZL (SqL.of (g02 _ _ hlr)) ?_;walk_at "go";refine ⟨by omega,by omega,J0 (fun i σ' H'=>∃ (ws:List V) (x4:Option V),σ'=[some (.ref lr),some (.int c),some (.ref pb),some (.ref pk),x4,none,none]/\Same H H'/\H' pb=some (.lst by8)/\H' pk=some (.lst ws)/\All2 (Kn K t.aE (del H' pk)) (rs.take i) ws) ⟨[],none,rfl,g02,g2 _ _ kb,kk,All2.nil⟩ ?_ ?_⟩
 ·rintro i _ H3 hi ⟨ws,x4,rfl,g3,b3,k3,hW⟩;have hiv:i<vs.length:=by omega
  have e0:(0:Int)+i=i:=Ew _;rw [e0];obtain ⟨r,hr'⟩:∃ r,rs[i]?=some r:=⟨_,Fu (by omega)⟩
  obtain ⟨v,hv⟩:∃ v,vs[i]?=some v:=⟨_,Fu hiv⟩
  have row:Rr K H r v:=hA.2 i r v hr' hv;have rk:=rok r (FD hr');obtain ⟨u,hu,u0,u1⟩:=byA i (by omega);have wl:=hW.1;rw [FX] at wl;walk_at "go";refine ⟨.inl ⟨rfl,_,SqL.of k3⟩,Zj (SqL.of (g3 _ _ hlr)) (QP hv) ?_⟩;walk_at "go";refine ⟨trivial,Zj (SqL.of b3) (QP hu) ?_⟩;walk_at "go";have m0:=FU c (show (1000003:Int)≠0 by decide);have m1:=FW c (show 0<(1000003:Int) by decide);refine ⟨⟨kU (by omega),kU (by omega)⟩,trivial,?_⟩;refine ⟨r,_,row.same g3,rfl,FU _ (by decide),Int.lt_trans (FW _ (by decide)) (by decide),rk.1,rk.2,fun v4 H4 g4 hk4=>?_⟩;have kn:=hk4 _ _ k3;refine QV (g4 _ _ k3) (QF (by omega)) ⟨_,_,rfl,QB (g3.trans g4) hpk0,by rw [Qj pbk];exact g4 _ _ b3,Qe,?_⟩;rw [Wi,FA,hr'];exact (hW.imp fun _ _ y=>y.same (Z1 g4)).snoc kn
 ·rintro _ H3 ⟨ws,x4,rfl,g3,b3,k3,hW⟩;have hvn:((vs.length:Int)).toNat=vs.length:=by omega
  rw [hvn,<-hvl,FC] at hW;show R _ _ _;subst hR;have hK:All2 (Kn K t.aE H3) rs ws:=hW.imp fun _ _ y=>y.same del_sub
  clear hW;generalize hR:ZH (Ud _ _ _) _=R;walk_at "go";simp only [QU];walk_at "go";refine ⟨lr,rfl,⟨_,SqL.of (g3 _ _ hlr)⟩,Zy (xs:=vs) (fun j acc σ' H'=>∃ x0:Option V,σ'=[x0]/\H'=H3/\acc=(rs.take j).map fun r=>V.str r.nm) ⟨none,rfl,rfl,rfl⟩ (fun j acc σ' H' _ h=>by obtain ⟨_,_,rfl,_⟩:=h;exact SqL.of (g3 _ _ hlr)) (by omega) ?_ ?_⟩
  ·rintro j v acc _ H4 hv hacc ⟨x0,rfl,e4,rfl⟩;rw [e4];obtain ⟨r,hr',p,lc,lo,rfl,hT,_,_⟩:=hA.getV hv;simp only [ZK];walk_at "go";refine ZZ (g3.sqT hT) rfl ?_;refine CN.mk (Qw hv) (by simp;omega) ⟨_,rfl,rfl,?_⟩;rw [FA,hr',Fz];rfl
  ·rintro acc _ H4 ⟨x0,rfl,e4,rfl⟩ pn hpn;rw [e4] at hpn ⊢;have en:(rs.take vs.length).map (fun r=>V.str r.nm)=(rs.map (·.nm)).map V.str:=by rw [<-hvl,FC,El];rfl
   rw [en] at *;have n1:=Qi hpn (.lst ((rs.map (·.nm)).map V.str));obtain ⟨k,hk⟩:∃ k:Nat,c % 5=(k:Int):=⟨(c % 5).toNat,by omega⟩
   rw [hk];refine ⟨trivial,Jl (SqL.of Qe) fun pt hpt=>⟨by decide,fun pc hpc=>?_⟩⟩;rw [Vo,<-List.map_drop] at *;have tl:((rs.map (·.nm)).drop k).length<=8:=by rw [Et,Fo];omega
   generalize (rs.map (·.nm)).drop k=T at *;have n2:=n1.trans (Qi hpt (.lst (T.map V.str)));have kt:(upd (upd H3 pn (.lst ((rs.map (·.nm)).map V.str))) pt (.lst (T.map V.str))) pt=some (.lst (T.map V.str)):=Qe;generalize upd (upd H3 pn (.lst ((rs.map (·.nm)).map V.str))) pt (.lst (T.map V.str))=H5 at *;have n3:=n2.trans (Qi hpc (.lst []));have kt6:=(Qi hpc (.lst [])) _ _ kt;have kc:(upd H5 pc (.lst [])) pc=some (.lst []):=Qe;have fc:=n2.free hpc;generalize upd H5 pc (.lst [])=H6 at *;subst hR;generalize hR:ZH (Ud _ _ _) (GJ _)=R;have key:∀ (D:Q3) pc' us H',D.rt=Q->Same H3 H'->H3 pc'=none->H' pt=some (.lst (T.map V.str))->pt≠pc'->H' pc'=some (.lst us)->us.length<=1->R D [some (.ref lr),some (.int c),some (.ref pb),some (.ref pk),x4,some (.ref pt),some (.ref pc')] H':=by
    intro D pc' us H7 hD g7 f7 t7 tc k7 ul;subst hR;generalize hR:GJ _=R;have fin:∀ (D:Q3) us H',D.rt=Q->Same H3 H'->H' pc'=some (.lst us)->R D [some (.ref lr),some (.int c),some (.ref pb),some (.ref pk),x4,some (.ref pt),some (.ref pc')] H':=by
     intro D us H8 hD g8 k8;subst hR;unfold WX;walk_at "go";intro x dx hx hdx ne;have gm:Same H8 (upd (upd H8 dx (.own x)) x (.ins t.aL dx [])):=(Qi hdx _).trans (Qi (by rw [Qj ne.symm];exact hx) _);refine ⟨x,dx,pk,pc',ws,us,rfl,Qe,rfl,(g8.trans gm) _ _ k3,rfl,gm _ _ k8,fun H' fs lk o i e j np nn=>⟨rfl,?_⟩⟩;have go:=g8.trans (XN hx hdx o);rw [hD];exact q x H' (g3.trans go) ⟨dx,fs,lk,ws,i,e,j,hK.imp fun _ _ y=>y.same go,nn⟩
    unfold WX;walk_at "go";refine ZL (SqL.of t7) ?_;walk_at "go";refine QK (fun _=>⟨CDivB.small (by decide) (by decide),trivial,QK (fun _=>?_) (fun _=>?_)⟩) (fun _=>?_)
    ·refine ⟨.inl ⟨rfl,_,SqL.of k7⟩,CDivB.small (by decide) (by decide),trivial,Jl (SqL.of t7) fun r hr'=>B4 Qe fun x H8 g8=>?_⟩;have g78:=(Qi hr' _).trans g8;exact QV (g78 _ _ k7) (QF (by omega)) (fin D _ _ hD (QB (g7.trans g78) f7) Qe)
    ·exact fin D _ _ hD g7 k7
    ·exact fin D _ _ hD g7 k7
   unfold WX;walk_at "go";have ptc:pt≠pc:=fun e=>by rw [e] at kt;rw [hpc] at kt;cases kt
   refine ⟨by decide,fun pe hpe=>?_⟩;generalize e_n4:upd H6 pe _=H7 at *;obtain ⟨n4,ke⟩:=nwH hpe e_n4;have ke:H7 pe=some (.lst (([]:List Str).map V.str)):=ke;refine WW (b:=decide (T=[])) (ZF (SqL.of (n4 _ _ kt6))) (ZF (SqL.of ke)) JG (by cases T <;> simp) ?_;walk_at "go";have no:R { nx:=fun x H'=>Q V.non H',rt:=Q } [some (.ref lr),some (.int c),some (.ref pb),some (.ref pk),x4,some (.ref pt),some (.ref pc)] H7:=key _ pc [] H7 rfl (n3.trans n4) fc (n4 _ _ kt6) ptc (n4 _ _ kc) (by decide);refine QK (fun _=>⟨CDivB.small (by decide) (by decide),trivial,QK (fun _=>?_) (fun _=>no)⟩) (fun _=>no);refine ⟨CDivB.small (by decide) (by decide),trivial,Jl (SqL.of (n4 _ _ kt6)) fun r hr'=>B4 Qe fun x H8 g8=>⟨by decide,fun p9 hp9=>?_⟩⟩;have g78:=(Qi hr' _).trans g8;have g9:=g78.trans (Qi hp9 (.lst [.ref x]));have t8:=g78 _ _ (n4 _ _ kt6);exact key _ p9 [.ref x] _ rfl ((n3.trans n4).trans g9) ((n3.trans (n4.trans g78)).free hp9) (g9 _ _ (n4 _ _ kt6)) (fun e=>by rw [e,hp9] at t8;cases t8) Qe (Ft _)
section
variable {nb:Str->List Str}
theorem Rc.trans {z:Str}(h:Rc nb S y) (k:Rc nb (nb y) z):Rc nb S z:=by
 induction k with
 | start a=>exact .step h a
 | step _ a ih=>exact .step ih a
def lkB (nb:Str->List Str) (x y:Str):Bool:=@decide (x=y∨Rc nb (nb x) y) (Classical.propDecidable _)
def muB (nb:Str->List Str) (x y:Str):Bool:=lkB nb x y&&lkB nb y x
theorem lkB_iff:lkB nb x y=true↔(x=y∨Rc nb (nb x) y):=by unfold lkB;exact @decide_eq_true_iff _ (Classical.propDecidable _)
theorem Ye (x:Str):lkB nb x x=true:=lkB_iff.mpr (.inl rfl)
theorem ZX {z:Str}(h:lkB nb x y=true) (k:lkB nb y z=true):lkB nb x z=true:=by
 rcases lkB_iff.mp h with rfl | h
 ·exact k
 rcases lkB_iff.mp k with rfl | k
 ·exact lkB_iff.mpr (.inr h)
 exact lkB_iff.mpr (.inr (h.trans k))
theorem muB_iff:muB nb x y=true↔lkB nb x y=true/\lkB nb y x=true:=by unfold muB;rw [Eo]
theorem PB (h:muB nb x y=true):lkB nb x=lkB nb y/\muB nb x=muB nb y:=by
 obtain ⟨h1,h2⟩:=muB_iff.mp h;have e1:lkB nb x=lkB nb y:=funext fun z=>by
  rw [F0];exact ⟨fun k=>ZX h2 k,fun k=>ZX h1 k⟩
 refine ⟨e1,funext fun z=>?_⟩;unfold muB;rw [e1]
 congr 1
 rw [F0];exact ⟨fun k=>ZX k h1,fun k=>ZX k h2⟩
def gx (nb:Str->List Str) (nms:List Str) (x:Str):Nat:=(nms.filter (lkB nb x)).length*(nms.length+1)+nms.findIdx (muB nb x)
structure Gq (nb:Str->List Str) (nms:List Str) (g:Str->Nat):Prop where
 nd:nms.Nodup
 cn:∀ x∈nms,∀ y∈nb x,y∈nms
 le:∀ x∈nms,∀ y∈nb x,g y<=g x
 mu:∀ {x y:Str},x∈nms->y∈nms->x≠y->((Rc nb (nb x) y/\Rc nb (nb y) x)↔g x=g y)
theorem SZ (nd:nms.Nodup) (cn:∀ x∈nms,∀ y∈nb x,y∈nms):Gq nb nms (gx nb nms):=by
 have same:∀ {x y:Str},muB nb x y=true->gx nb nms x=gx nb nms y:=fun {x y} h=>by
  obtain ⟨e1,e2⟩:=PB h;unfold gx;rw [e1,e2]
 have il:∀ x,nms.findIdx (muB nb x)<=nms.length:=fun x=>List.findIdx_le_length
 refine ⟨nd,cn,fun x hx y hy=>?_,fun {x y} hx hy ne=>⟨fun ⟨h1,h2⟩=>same (muB_iff.mpr ⟨lkB_iff.mpr (.inr h1),lkB_iff.mpr (.inr h2)⟩),fun e=>?_⟩⟩
 ·have xy:lkB nb x y=true:=lkB_iff.mpr (.inr (.start hy));have sub:nms.filter (lkB nb y)=(nms.filter (lkB nb x)).filter (lkB nb y):=by
   rw [List.filter_filter];refine List.filter_congr fun z _=>?_
   rw [F0,Eo];exact ⟨fun k=>⟨k,ZX xy k⟩,fun k=>k.1⟩
  have sl:(nms.filter (lkB nb y)).Sublist (nms.filter (lkB nb x)):=by rw [sub];exact Dk
  rcases EY (nms.filter (lkB nb y)).length (nms.filter (lkB nb x)).length with lt | ge
  ·unfold gx;have h1:=il y;have h2:((nms.filter (lkB nb y)).length+1)*(nms.length+1)<=(nms.filter (lkB nb x)).length*(nms.length+1):=Nat.mul_le_mul_right _ lt;rw [Nat.add_mul,Nat.one_mul] at h2;omega
  ·have e:=sl.eq_of_length (DD sl.length_le ge);have hm:x∈nms.filter (lkB nb y):=by rw [e];exact F1.mpr ⟨hx,Ye x⟩
   exact Nat.le_of_eq (same (muB_iff.mpr ⟨(F1.mp hm).2,xy⟩))
 ·have ax:nms.findIdx (muB nb x)<nms.length:=List.findIdx_lt_length_of_exists ⟨x,hx,muB_iff.mpr ⟨Ye x,Ye x⟩⟩;have ay:nms.findIdx (muB nb y)<nms.length:=List.findIdx_lt_length_of_exists ⟨y,hy,muB_iff.mpr ⟨Ye y,Ye y⟩⟩;have e1:nms.findIdx (muB nb x)=nms.findIdx (muB nb y):=by
   have:=congrArg (· % (nms.length+1)) e;unfold gx at this;simp only [Nat.mul_add_mod_self_right] at this;rwa [Da (by omega),Da (by omega)] at this
  have mx:muB nb x (nms[nms.findIdx (muB nb x)]'ax)=true:=List.findIdx_getElem;have my:muB nb y (nms[nms.findIdx (muB nb y)]'ay)=true:=List.findIdx_getElem;simp only [<-e1] at my;obtain ⟨x1,x2⟩:=muB_iff.mp mx;obtain ⟨y1,y2⟩:=muB_iff.mp my;have a:=ZX x1 y2;have b:=ZX y1 x2;exact ⟨(lkB_iff.mp a).resolve_left ne,(lkB_iff.mp b).resolve_left (Eb ne)⟩
theorem Gq.go {g:Str->Nat}(G:Gq nb nms g) {z x:Str}(hz:z∈nms) (h:Rc nb (nb z) x):x∈nms/\g x<=g z:=by
 induction h with
 | start h=>exact ⟨G.cn _ hz _ h,G.le _ hz _ h⟩
 | step _ a ih=>exact ⟨G.cn _ ih.1 _ a,FQ (G.le _ ih.1 _ a) ih.2⟩
end
section
variable (nb:Str->List Str) (g:Str->Nat) (nms:List Str)
def kOf (i:Nat):List Str:=nms.filter fun o=>decide (g o=i)
def isF (x:Str):Bool:=decide ((nms.find? fun o=>decide (g o=g x))=some x)
def frI (ch:List Nat) (i:Nat):Bool:=(kOf g nms i).all fun s=>(nb s).all fun y=>decide (g y=i∨g y∈ch)
def pkI (ch:List Nat):Option Str:=nms.find? fun x=>isF g nms x&&(!decide (g x∈ch)&&frI nb g nms ch (g x))
def Sqs (ss:List Str):Prop:=∀ (j:Nat) x,ss[j]?=some x->pkI nb g nms ((ss.take j).map g)=some x
end
section
variable {nb:Str->List Str} {nms:List Str} {g:Str->Nat}
theorem kOf_mem:x∈kOf g nms i↔x∈nms/\g x=i:=by unfold kOf;rw [F1];simp
theorem JB (h:x∈nms):∃ f,f∈nms/\isF g nms f=true/\g f=g x/\(nms.find? fun o=>decide (g o=g x))=some f:=by
 cases e:nms.find? fun o=>decide (g o=g x) with
 | none=>exact absurd (Dy.mp e x h) (by simp)
 | some f=>
  have h1:=Dr e;have h2:g f=g x:=by simpa using Ds e
  exact ⟨f,h1,by unfold isF;rw [h2,e];simp,h2,rfl⟩
theorem UK (hx:isF g nms x=true) (hy:isF g nms y=true) (e:g x=g y):x=y:=by
 unfold isF at hx hy;rw [Em] at hx hy;rw [e,hy] at hx;exact (FF hx).symm
theorem XQ (h:isF g nms x=true):∃ r,kOf g nms (g x)=x :: r:=by
 unfold isF at h;rw [Em,<-List.head?_filter] at h;unfold kOf;cases e:nms.filter fun o=>decide (g o=g x) with
 | nil=>rw [e] at h;cases h
 | cons a r=>rw [e] at h;cases h;exact ⟨r,rfl⟩
theorem Gh (hx:x∈nms) (hy:y∈nms):kOf g nms (g x)=kOf g nms (g y)↔g x=g y:=⟨fun e=>by
 have:x∈kOf g nms (g y):=by rw [<-e];exact kOf_mem.mpr ⟨hx,rfl⟩
 exact (kOf_mem.mp this).2,fun e=>by rw [e]⟩
theorem YH {ch:List Nat}(h:pkI nb g nms ch=some x):x∈nms/\isF g nms x=true/\g x ∉ ch/\frI nb g nms ch (g x)=true:=by
 have h1:=Dr h;have h2:=Ds h;simp only [Eo,EO,E8] at h2;exact ⟨h1,h2.1,h2.2.1,h2.2.2⟩
theorem Jt (G:Gq nb nms g) {ch:List Nat}{x:Str}(hx:x∈nms) (n:g x ∉ ch):∃ z,pkI nb g nms ch=some z:=by
 cases e:pkI nb g nms ch with
 | some z=>exact ⟨z,rfl⟩
 | none=>
  exfalso;have h:=Dy.mp e;have key:∀ (n:Nat) (s:Str),g s=n->s∈nms->g s ∉ ch->False:=by
   intro n
   induction n using Nat.strongRecOn with
   | ind n ih=>
    intro s e hs hp;obtain ⟨f,f1,f2,f3,_⟩:=JB (g:=g) hs;have h1:=h f f1;rw [f3] at h1;simp only [f2,Bool.true_and,Eo,EO,E8,not_and] at h1;have h2:=h1 hp;refine h2 ?_;unfold frI;rw [Eu];intro z hz;obtain ⟨z1,z2⟩:=kOf_mem.mp hz;rw [Eu];intro y hy;rw [Em];have y1:=G.cn z z1 y hy;have y2:=G.le z z1 y hy;by_cases c:g y=g s
    ·exact .inl c
    ·exact .inr (Ex fun c2=>ih (g y) (by omega) y rfl y1 c2)
  exact key _ x rfl hx n
theorem Sqs.snoc (h:Sqs nb g nms ss) (p:pkI nb g nms (ss.map g)=some x):Sqs nb g nms (ss++[x]):=fun j y hj=>by
 rcases Yc hj with ⟨h1,hl⟩ | ⟨h1,e⟩
 ·rw [List.take_append_of_le_length (by omega)];exact h j y h1
 ·subst e;rw [h1,List.take_append_of_le_length (Ft _),FC];exact p
theorem Sqs.nd (h:Sqs nb g nms ss):(ss.map g).Nodup:=by
 rw [List.nodup_iff_pairwise_ne,List.pairwise_iff_getElem];intro i j hi hj lt e;rw [Fo] at hi hj;have h1:=(YH (h j _ (Fu hj))).2.2.1;refine h1 (FK.mpr ⟨ss[i],?_,by simpa using e⟩);exact FD (i:=i) (by rw [E4,Fs lt];exact Fu hi)
theorem Sqs.mem (h:Sqs nb g nms ss) {x:Str}(hx:x∈ss):x∈nms/\isF g nms x=true:=by
 obtain ⟨j,hj⟩:=Ee hx;have:=YH (h j x hj);exact ⟨this.1,this.2.1⟩
theorem Sqs.snd (h:Sqs nb g nms ss):ss.Nodup:=(List.pairwise_map.mp h.nd).imp fun h e=>h (by rw [e])
theorem Sqs.le (h:Sqs nb g nms ss):ss.length<=(nms.filter (isF g nms)).length:=ZI h.snd fun z hz=>F1.mpr (h.mem hz)
theorem Sqs.full (h:Sqs nb g nms ss) (nd:nms.Nodup):(∀ x∈nms,g x∈ss.map g)↔ss.length=(nms.filter (isF g nms)).length:=by
 constructor
 ·intro all;refine DD h.le (ZI (nd.sublist Dk) fun z hz=>?_);obtain ⟨z1,z2⟩:=F1.mp hz;obtain ⟨y,hy,e⟩:=FK.mp (all z z1);rw [UK z2 (h.mem hy).2 e.symm];exact hy
 ·intro e x hx;obtain ⟨f,f1,f2,f3,_⟩:=JB (g:=g) hx;rw [<-f3];refine List.mem_map_of_mem (Ex fun no=>?_);have:=ZI (l:=f :: ss) (m:=nms.filter (isF g nms)) (EB.mpr ⟨no,h.snd⟩) fun z hz=>by
   rcases FS.mp hz with rfl | hz
   ·exact F1.mpr ⟨f1,f2⟩
   ·exact F1.mpr (h.mem hz)
  rw [En] at this;omega
end
section
variable {nb:Str->List Str} {nms:List Str} {g:Str->Nat}
def wi (nb:Str->List Str) (kn:List Str) (s:Str):List Str:=(nb s).filter fun y=>decide (y∈kn)
def nxO (nb:Str->List Str) (kn:List Str) (s:Str):Str:=(wi nb kn s).headD Str.empty
def itO (nb:Str->List Str) (kn:List Str) (f:Str):Nat->Str
 | 0=>f
 | k+1=>nxO nb kn (itO nb kn f k)
def rgo (nb:Str->List Str) (kn:List Str):List Str:=(List.range kn.length).map (itO nb kn (kn.headD Str.empty))
theorem SW {P:Nat->Prop}(h:P n):∃ m,P m/\m<=n/\∀ k,k<m->¬ P k:=by
 induction n using Nat.strongRecOn with
 | ind n ih=>
  by_cases c:∃ k,k<n/\P k
  ·obtain ⟨k,k1,k2⟩:=c;obtain ⟨m,m1,m2,m3⟩:=ih k k1 k2;exact ⟨m,m1,by omega,m3⟩
  ·exact ⟨n,h,Ft _,fun k hk p=>c ⟨k,hk,p⟩⟩
theorem Vg {f:Str}(a b:Nat):itO nb kn f (a+b)=itO nb kn (itO nb kn f a) b:=by
 induction b with
 | zero=>rfl
 | succ b ih=>show nxO nb kn _=nxO nb kn _;rw [<-ih];rfl
theorem KL (G:Gq nb nms g) {f:Str}(hf:f∈nms) (hi:isF g nms f=true) (h1:∀ s∈kOf g nms (g f),(wi nb (kOf g nms (g f)) s).length<=1) (h2:∃ s∈kOf g nms (g f),wi nb (kOf g nms (g f)) s≠[]) :
  (rgo nb (kOf g nms (g f))).Nodup/\(∀ s,s∈rgo nb (kOf g nms (g f))↔s∈kOf g nms (g f))/\(rgo nb (kOf g nms (g f)))[0]?=some f/\(rgo nb (kOf g nms (g f))).length=(kOf g nms (g f)).length/\∀ (j:Nat) s,(rgo nb (kOf g nms (g f)))[j]?=some s->wi nb (kOf g nms (g f)) s=[(rgo nb (kOf g nms (g f))).getD ((j+1) % (rgo nb (kOf g nms (g f))).length) Str.empty]:=by
 obtain ⟨tl,htl⟩:=XQ hi;have knd:(kOf g nms (g f)).Nodup:=G.nd.sublist Dk;have mem:∀ {x:Str},x∈kOf g nms (g f)↔x∈nms/\g x=g f:=kOf_mem;obtain ⟨kn,hkn⟩:∃ kn,kOf g nms (g f)=kn:=⟨_,rfl⟩
 rw [hkn] at htl knd h1 h2 mem ⊢;have hfk:f∈kn:=by rw [htl];exact Ea
 have out:∀ s∈kn,∃ y∈nb s,y∈kn:=by
  intro s hs;by_cases c:∃ u∈kn,u≠s
  ·obtain ⟨u,hu,ne⟩:=c;have sn:=mem.mp hs;have un:=mem.mp hu;have mu:=(G.mu sn.1 un.1 ne.symm).mpr (sn.2.trans un.2.symm);have key:∀ {z:Str},Rc nb (nb s) z->Rc nb (nb z) s->∃ y∈nb s,y∈kn:=by
    intro z hz
    induction hz with
    | @start x hx=>
     intro hb;refine ⟨x,hx,?_⟩;by_cases e:x=s
     ·rw [e];exact hs
     ·have xn:=G.cn s sn.1 x hx;exact mem.mpr ⟨xn,((G.mu xn sn.1 e).mp ⟨hb,.start hx⟩).trans sn.2⟩
    | @step x y hx a ih=>exact fun hb=>ih ((Rc.start a).trans hb)
   exact key mu.1 mu.2
  ·have al:∀ u∈kn,u=s:=fun u hu=>Ex fun h=>c ⟨u,hu,h⟩
   obtain ⟨v,hv,hw⟩:=h2;rw [al v hv] at hw;obtain ⟨y,hy⟩:=List.exists_mem_of_ne_nil _ hw;obtain ⟨y1,y2⟩:=F1.mp hy;exact ⟨y,y1,by simpa using y2⟩
 have one:∀ s∈kn,wi nb kn s=[nxO nb kn s]:=by
  intro s hs;obtain ⟨y,y1,y2⟩:=out s hs;have hm:y∈wi nb kn s:=F1.mpr ⟨y1,by simpa using y2⟩;have hl:=h1 s hs;unfold nxO;cases e:wi nb kn s with
  | nil=>rw [e] at hm;cases hm
  | cons a r=>
   rw [e] at hl;cases r with
   | nil=>rfl
   | cons _ _=>simp at hl
 have nin:∀ s∈kn,nxO nb kn s∈kn/\nxO nb kn s∈nb s:=by
  intro s hs;have:nxO nb kn s∈wi nb kn s:=by rw [one s hs];exact FE.mpr rfl
  obtain ⟨a,b⟩:=F1.mp this;exact ⟨by simpa using b,a⟩
 have uniq:∀ s∈kn,∀ y∈nb s,y∈kn->y=nxO nb kn s:=by
  intro s hs y hy hk;have:y∈wi nb kn s:=F1.mpr ⟨hy,by simpa using hk⟩;rw [one s hs] at this;exact FE.mp this
 have itin:∀ k,itO nb kn f k∈kn:=by
  intro k
  induction k with
  | zero=>exact hfk
  | succ k ih=>exact (nin _ ih).1
 have path:∀ {t:Str},Rc nb (nb f) t->t∈kn->∃ k,itO nb kn f (k+1)=t:=by
  intro t ht
  induction ht with
  | @start x hx=>exact fun hk=>⟨0,(uniq f hfk x hx hk).symm⟩
  | @step x y hx a ih=>
   intro hk;have xn:=(G.go hf hx).1;have yn:=mem.mp hk;have hxk:x∈kn:=by
    refine mem.mpr ⟨xn,DD (G.go hf hx).2 ?_⟩;rw [<-yn.2];exact G.le x xn y a
   obtain ⟨k,e⟩:=ih hxk;refine ⟨k+1,?_⟩;show nxO nb kn (itO nb kn f (k+1))=y;rw [e];exact (uniq x hxk y a hk).symm
 have self:Rc nb (nb f) f:=by
  obtain ⟨a,b⟩:=nin f hfk;by_cases e:nxO nb kn f=f
  ·rw [e] at b;exact .start b
  ·have an:=mem.mp a;exact (Rc.start b).trans ((G.mu an.1 hf e).mpr an.2).1
 obtain ⟨k0,hk0⟩:=path self hfk;obtain ⟨n,hn,_,hlt⟩:=SW (P:=fun n=>0<n/\itO nb kn f n=f) (n:=k0+1) ⟨Nat.succ_pos _,hk0⟩;obtain ⟨n0,hn⟩:=hn;have per:∀ k,itO nb kn f (k % n)=itO nb kn f k:=by
  intro k;have step:∀ q r,itO nb kn f (q*n+r)=itO nb kn f r:=by
   intro q
   induction q with
   | zero=>intro r;rw [Nat.zero_mul,Nat.zero_add]
   | succ q ih=>intro r;rw [Nat.add_mul,Nat.one_mul,Nat.add_assoc,ih (n+r),Vg,hn]
  have:=step (k / n) (k % n);rw [Nat.div_add_mod' k n] at this;exact this.symm
 have inj:∀ i j,i<j->j<n->itO nb kn f i≠itO nb kn f j:=by
  intro i j hij hj e;refine hlt (i+(n-j)) (by omega) ⟨by omega,?_⟩;rw [Vg,e,<-Vg,show j+(n-j)=n by omega,hn]
 have lnd:((List.range n).map (itO nb kn f)).Nodup:=by
  rw [List.nodup_iff_pairwise_ne,List.pairwise_map];refine (List.pairwise_lt_range (n:=n)).imp_of_mem fun {a b} ha hb lt=>?_
  exact inj a b lt (List.mem_range.mp hb)
 have lall:∀ t∈kn,t∈(List.range n).map (itO nb kn f):=by
  intro t ht;have:∃ k,itO nb kn f k=t:=by
   by_cases e:t=f
   ·exact ⟨0,e.symm⟩
   ·have tn:=mem.mp ht;obtain ⟨k,hk⟩:=path ((G.mu hf tn.1 (fun c=>e c.symm)).mpr tn.2.symm).1 ht;exact ⟨k+1,hk⟩
  obtain ⟨k,hk⟩:=this;exact FK.mpr ⟨k % n,List.mem_range.mpr (Nat.mod_lt _ n0),(per k).trans hk⟩
 have lin:∀ t∈(List.range n).map (itO nb kn f),t∈kn:=by
  intro t ht;obtain ⟨k,_,rfl⟩:=FK.mp ht;exact itin k
 have len:n=kn.length:=by
  have a:=ZI lnd lin;have b:=ZI knd lall;rw [Fo,E9] at a b;omega
 have er:rgo nb kn=(List.range n).map (itO nb kn f):=by
  unfold rgo;rw [<-len,show kn.headD Str.empty=f by rw [htl];rfl]
 have lr:(rgo nb kn).length=n:=by rw [er,Fo,E9]
 have at':∀ j,j<n->(rgo nb kn)[j]?=some (itO nb kn f j):=fun j hj=>by rw [er,Fx,Dm hj];rfl
 refine ⟨by rw [er];exact lnd,fun s=>by rw [er];exact ⟨lin s,lall s⟩,at' 0 n0,by rw [lr,len],fun j s hj=>?_⟩;have hjn:j<n:=by have:=Qw hj;omega
 rw [at' j hjn] at hj;cases hj;rw [one _ (itin j),lr,Ef,at' _ (Nat.mod_lt _ n0),per];rfl
end
theorem Gk {l:List α}{d:α}(n:Nat) (h:l≠[]):l[n % l.length]?=some (l.getD (n % l.length) d):=by
 have hl:0<l.length:=DG.mpr h;have:=Nat.mod_lt n hl;rw [Ef,Fu this];rfl
theorem We {l:List α}{d x:α}(h:l[n]?=some x):l.getD n d=x:=by rw [Ef,h];rfl
def rt (part:List Str) (a:Nat):List Str:=(List.range part.length).map fun k=>part.getD ((a+k) % part.length) Str.empty
theorem Wx {a:Nat}:(rt part a).length=part.length:=by unfold rt;rw [Fo,E9]
theorem Uo {a k:Nat}(h:k<part.length):(rt part a)[k]?=some (part.getD ((a+k) % part.length) Str.empty):=by
 unfold rt;rw [Fx,Dm h];rfl
theorem NW {a:Nat}(h:a<part.length):rt part a=part.drop a++part.take a:=by
 apply EE;intro k;by_cases hk:k<part.length
 ·rw [Uo hk];by_cases c:k<part.length-a
  ·rw [Ei (by rw [Et];exact c),List.getElem?_drop,Da (by omega),Ef,Fu (by omega)];rfl
  ·rw [Ed (by rw [Et];omega),Et,E4,Fs (by omega)];have e:(a+k) % part.length=k-(part.length-a):=by
    rw [show a+k=(k-(part.length-a))+part.length by omega,Nat.add_mod_right,Da (by omega)]
   rw [e,Ef,Fu (by omega)];rfl
 ·rw [Ej (by rw [Wx];omega),Ej (by rw [Fv,Et,FX];omega)]
theorem Rh {a:Nat}(h:a<part.length):(rt part a).Perm part:=by
 rw [NW h];exact List.perm_append_comm.trans (by rw [ES])
def rwt (rs:List Rw) (x y:Str):Rat:=match rs.find? fun r=>decide (r.nm=x) with
 | some r=>gr r.os*((r.cs.find? fun c=>decide (c.1=y)).map (·.2)).getD 0
 | none=>0
def ZU (rs:List Rw) (ts:List Str):Nat->Rat
 | 0=>1
 | k+1=>ZU rs ts k*rwt rs (ts.getD k Str.empty) (ts.getD ((k+1) % ts.length) Str.empty)
def Ff (rs:List Rw) (x y:Str):Prop:=∃ r rr,(rs.find? fun r=>decide (r.nm=x))=some r/\r.cs.filter (fun c=>decide (c.1=y))=[(y,rr)]/\RB 14 rr/\0<=rr/\(∀ o∈r.os,0<=o.2/\RB 14 o.2)/\r.os.length<=60/\r.cs.length<=60/\True
def Rg (rs:List Rw) (ts:List Str):Prop:=ts≠[]/\ts.length<=8/\∀ (j:Nat) x,ts[j]?=some x->Ff rs x (ts.getD ((j+1) % ts.length) Str.empty)
theorem Ul {r:Rw}{rr:Rat}(h:(rs.find? fun r=>decide (r.nm=x))=some r) (h2:r.cs.filter (fun c=>decide (c.1=y))=[(y,rr)]):rwt rs x y=gr r.os*rr:=by
 unfold rwt;rw [h];show gr r.os*((r.cs.find? fun c=>decide (c.1=y)).map (·.2)).getD 0=_;rw [<-List.head?_filter,h2];rfl
theorem MG (h:∀ o∈os,0<=o.2/\RB 14 o.2):0<=gr os/\RB 14 (gr os)/\((∀ o∈os,o.2<1)->gr os<1):=by
 have key:∀ (l:List (Int×Rat)) (m:Rat),(∀ o∈l,0<=o.2/\RB 14 o.2)->0<=m->RB 14 m->0<=l.foldl mx m/\RB 14 (l.foldl mx m)/\(m<1->(∀ o∈l,o.2<1)->l.foldl mx m<1):=by
  intro l
  induction l with
  | nil=>intro m _ h1 h2;exact ⟨h1,h2,fun h _=>h⟩
  | cons o l ih=>
   intro m ho h1 h2;have o1:=ho o Ea;have e0:0<=mx m o:=by
    unfold mx;split
    ·exact o1.1
    ·exact h1
   obtain ⟨a,b,c⟩:=ih (mx m o) (fun z hz=>ho z (F9 _ hz)) e0 (Ge h2 o1.2);refine ⟨a,b,fun h hh=>c ?_ fun z hz=>hh z (F9 _ hz)⟩;unfold mx;split
   ·exact hh o Ea
   ·exact h
 obtain ⟨a,b,c⟩:=key os 0 h (Rat.le_refl) (RB.zero (by decide));exact ⟨a,b,c (by decide)⟩
theorem Y4 {rs:List Rw}{ts:List Str}(h:Rg rs ts):∀ k,k<=ts.length->True/\True/\True/\RB (28*k+1) (ZU rs ts k)
 | 0,_=>⟨trivial,trivial,trivial,RB.one (by decide)⟩
 | k+1,hk=>by
  obtain ⟨_,_,_,d⟩:=Y4 h k (by omega);have hx:ts[k]?=some (ts.getD k Str.empty):=by rw [Ef,Fu (by omega)];rfl
  obtain ⟨r,rr,h1,h2,h3,_,h5,_⟩:=h.2.2 k _ hx;obtain ⟨_,gB,_⟩:=MG h5;refine ⟨trivial,trivial,trivial,?_⟩;show RB _ (ZU rs ts k*rwt rs (ts.getD k Str.empty) (ts.getD ((k+1) % ts.length) Str.empty));rw [Ul h1 h2];exact (d.mul ((gB.mul h3).mono (by decide):RB 28 _)).mono (by omega)
theorem YM {α:Type}:∀ {l:List α}{x:α}{r:α->Bool},l.Nodup->x∈l->(∀ y∈l,r y=true↔y=x)->l.filter r=[x]
 | [],_,_,_,h,_=>absurd h (fun z=>nomatch z)
 | a :: l,x,r,nd,h,hr=>by
  have nd':=EB.mp nd;rcases FS.mp h with e | hx
  ·subst e;rw [ET ((hr x Ea).mpr rfl)]
   congr 1
   refine DE.mpr fun y hy c=>?_
   have:=(hr y (F9 _ hy)).mp c;exact nd'.1 (this ▸ hy)
  ·rw [EU (fun c=>nd'.1 ((hr a Ea).mp c ▸ hx))];exact YM nd'.2 hx fun y hy=>hr y (F9 _ hy)
theorem BH {rr:Rat}(nd:(cs.map (·.1)).Nodup) (h:(y,rr)∈cs):cs.filter (fun c=>decide (c.1=y))=[(y,rr)]:=by
 have inj:∀ c∈cs,c.1=y->c=(y,rr):=fun c hc e=>by
  obtain ⟨i,hi⟩:=Ee hc;obtain ⟨j,hj⟩:=Ee h;have li:=Qw hi;have lj:=Qw hj;have:i=j:=(List.getElem_inj (h₀:=by rw [Fo];exact li) (h₁:=by rw [Fo];exact lj) nd).mp (by
   rw [Di,Di,FF ((Fu li).symm.trans hi),FF ((Fu lj).symm.trans hj),e])
  rw [this,hj] at hi;exact (FF hi).symm
 exact YM ((List.pairwise_map.mp nd).imp fun n e=>n (by rw [e])) h fun c hc=>⟨fun e=>inj c hc (Dp e),fun e=>by rw [e];simp⟩
theorem BG (nd:(rs.map (·.nm)).Nodup) {i:Nat}{r:Rw}(h:rs[i]?=some r):(rs.find? fun r'=>decide (r'.nm=r.nm))=some r:=by
 have:rs.filter (fun r'=>decide (r'.nm=r.nm))=[r]:=by
  refine YM ((List.pairwise_map.mp nd).imp fun n e=>n (by rw [e])) (FD h) fun y hy=>⟨fun e=>?_,fun e=>by rw [e];simp⟩
  have e:=Dp e;obtain ⟨j,hj⟩:=Ee hy;have li:=Qw h;have lj:=Qw hj;have:i=j:=(List.getElem_inj (h₀:=by rw [Fo];exact li) (h₁:=by rw [Fo];exact lj) nd).mp (by
   rw [Di,Di,FF ((Fu li).symm.trans h),FF ((Fu lj).symm.trans hj),e])
  rw [<-this,h] at hj;exact (FF hj).symm
 rw [<-List.head?_filter,this];rfl
structure ROk (rs:List Rw):Prop where
 rw:Rows rs
 ok:∀ r∈rs,(∀ c∈r.cs,0<=c.2/\RB 14 c.2)/\(∀ o∈r.os,0<=o.2/\RB 14 o.2)/\r.os.length<=60
theorem KJ (h:Rows rs) {s:Str}(hs:s∈rs.map (·.nm)):∃ r,r∈rs/\r.nm=s/\(rs.find? fun r=>decide (r.nm=s))=some r/\nbR rs s=r.cs.map (·.1):=by
 obtain ⟨r,hr,rfl⟩:=FK.mp hs;obtain ⟨i,hi⟩:=Ee hr;exact ⟨r,hr,rfl,BG h.nd hi,Vc h.nd hi⟩
inductive BT where
 | al | tg | jp (ts:List Str) | wd (ts:List Str) (q:Rat) | rg (ts:List Str) (q:Rat)
def Zs (rs:List Rw) (s:Str):Bool:=match rs.find? fun r=>decide (r.nm=s) with
 | some r=>r.un.isSome||r.lm.isSome
 | none=>false
def JU (rs:List Rw) (ts:List Str):Rat:=ZU rs ts ts.length
def bt (rs:List Rw) (kn:List Str):BT:=
 if (∃ s∈kn,1<(wi (nbR rs) kn s).length) then .tg
 else if (∀ s∈kn,wi (nbR rs) kn s=[]) then .al
 else if (rgo (nbR rs) kn).any (Zs rs)=true then .jp (rgo (nbR rs) kn)
 else if (rgo (nbR rs) kn).length % 2=0/\¬ JU rs (rgo (nbR rs) kn)<1 then .wd (rgo (nbR rs) kn) (JU rs (rgo (nbR rs) kn))
 else .rg (rgo (nbR rs) kn) (JU rs (rgo (nbR rs) kn))
def BT.good:BT->Bool
 | .al=>true
 | .rg _ _=>true
 | _=>false
def BT.ts (kn:List Str):BT->List Str
 | .al=>kn
 | .tg=>kn
 | .jp ts=>ts
 | .wd ts _=>ts
 | .rg ts _=>ts
def BT.q:BT->Rat
 | .wd _ q=>q
 | .rg _ q=>q
 | _=>0
def BT.wd1:BT->Str
 | .al=>Str.ofString "alone"
 | .rg _ _=>Str.ofString "ring"
 | .tg=>Str.ofString "tangled"
 | .jp _=>Str.ofString "jumps"
 | .wd _ _=>Str.ofString "widens"
section
variable {rs:List Rw} {kn:List Str}
theorem Lg {s:Str}(hs:s∈kn) (h:1<(wi (nbR rs) kn s).length):bt rs kn=.tg:=by unfold bt;rw [Fs ⟨s,hs,h⟩]
theorem Lj (h:∀ s∈kn,wi (nbR rs) kn s=[]):bt rs kn=.al:=by
 unfold bt;rw [Fl (fun ⟨s,hs,c⟩=>by rw [h s hs] at c;exact absurd c (by decide)),Fs h]
theorem Li (h1:∀ s∈kn,(wi (nbR rs) kn s).length<=1) (h2:∃ s∈kn,wi (nbR rs) kn s≠[]) (h3:(rgo (nbR rs) kn).any (Zs rs)=true):bt rs kn=.jp (rgo (nbR rs) kn):=by
 obtain ⟨s,hs,c⟩:=h2;unfold bt;rw [Fl (fun ⟨s,hs,c⟩=>by have:=h1 s hs;omega),Fl (fun h=>c (h s hs)),Fs h3]
theorem Lf (h1:∀ s∈kn,(wi (nbR rs) kn s).length<=1) (h2:∃ s∈kn,wi (nbR rs) kn s≠[]) (h3:(rgo (nbR rs) kn).any (Zs rs)=false) (h4:(rgo (nbR rs) kn).length % 2=0) (h5:¬ JU rs (rgo (nbR rs) kn)<1):bt rs kn=.wd (rgo (nbR rs) kn) (JU rs (rgo (nbR rs) kn)):=by
 obtain ⟨s,hs,c⟩:=h2;unfold bt;rw [Fl (fun ⟨s,hs,c⟩=>by have:=h1 s hs;omega),Fl (fun h=>c (h s hs)),Fl (by rw [h3];decide),Fs ⟨h4,h5⟩]
theorem Lh (h1:∀ s∈kn,(wi (nbR rs) kn s).length<=1) (h2:∃ s∈kn,wi (nbR rs) kn s≠[]) (h3:(rgo (nbR rs) kn).any (Zs rs)=false) (h4:¬ ((rgo (nbR rs) kn).length % 2=0/\¬ JU rs (rgo (nbR rs) kn)<1)):bt rs kn=.rg (rgo (nbR rs) kn) (JU rs (rgo (nbR rs) kn)):=by
 obtain ⟨s,hs,c⟩:=h2;unfold bt;rw [Fl (fun ⟨s,hs,c⟩=>by have:=h1 s hs;omega),Fl (fun h=>c (h s hs)),Fl (by rw [h3];decide),Fl h4]
end
theorem NX (hR:ROk rs) {g:Str->Nat}(G:Gq (nbR rs) (rs.map (·.nm)) g) {f:Str}(hf:f∈rs.map (·.nm)) (hi:isF g (rs.map (·.nm)) f=true) (h1:∀ s∈kOf g (rs.map (·.nm)) (g f),(wi (nbR rs) (kOf g (rs.map (·.nm)) (g f)) s).length<=1) (h2:∃ s∈kOf g (rs.map (·.nm)) (g f),wi (nbR rs) (kOf g (rs.map (·.nm)) (g f)) s≠[]):Rg rs (rgo (nbR rs) (kOf g (rs.map (·.nm)) (g f))):=by
 obtain ⟨r1,r2,r3,r4,r5⟩:=KL G hf hi h1 h2;have hle:=hR.rw.le;have kl:(kOf g (rs.map (·.nm)) (g f)).length<=8:=FQ (Ey _ _) (by rw [Fo];exact hle);refine ⟨(fun e=>by rw [e] at r3;cases r3),by omega,fun j x hx=>?_⟩;have w:=r5 j x hx;have xk:=(r2 x).mp (FD hx);obtain ⟨r,q1,q2,q3,q4⟩:=KJ hR.rw (kOf_mem.mp xk).1;obtain ⟨y,hy⟩:∃ y,(rgo (nbR rs) (kOf g (rs.map (·.nm)) (g f))).getD ((j+1) % (rgo (nbR rs) (kOf g (rs.map (·.nm)) (g f))).length) Str.empty=y:=⟨_,rfl⟩
 rw [hy] at w ⊢;have yin:y∈wi (nbR rs) (kOf g (rs.map (·.nm)) (g f)) x:=by rw [w];exact FE.mpr rfl
 have ynb:=(F1.mp yin).1;rw [q4] at ynb;obtain ⟨c,c1,c2⟩:=FK.mp ynb;obtain ⟨y',rr⟩:=c;have c2:y'=y:=c2;subst c2;obtain ⟨o1,o2,o3⟩:=hR.ok r q1;exact ⟨r,rr,q3,BH (hR.rw.cn r q1) c1,(o1 _ c1).2,(o1 _ c1).1,o2,o3,hR.rw.cl r q1,trivial⟩
structure Fin (rs:List Rw) (g:Str->Nat) (ss:List Str) (e:Option Str):Prop where
 sq:Sqs (nbR rs) g (rs.map (·.nm)) ss
 gd:∀ f∈ss,(bt rs (kOf g (rs.map (·.nm)) (g f))).good=true
 nn:e=none->∀ x∈rs.map (·.nm),g x∈ss.map g
 bd:∀ z,e=some z->pkI (nbR rs) g (rs.map (·.nm)) (ss.map g)=some z/\(bt rs (kOf g (rs.map (·.nm)) (g z))).good=false
theorem PU {g:Str->Nat}(G:Gq (nbR rs) (rs.map (·.nm)) g):∃ ss e,Fin rs g ss e:=by
 have key:∀ (n:Nat) (ss:List Str),((rs.map (·.nm)).filter (isF g (rs.map (·.nm)))).length-ss.length=n->Sqs (nbR rs) g (rs.map (·.nm)) ss->(∀ f∈ss,(bt rs (kOf g (rs.map (·.nm)) (g f))).good=true)->∃ ss e,Fin rs g ss e:=by
  intro n
  induction n using Nat.strongRecOn with
  | ind n ih=>
   intro ss hn sq gd;by_cases c:∀ x∈rs.map (·.nm),g x∈ss.map g
   ·exact ⟨ss,none,sq,gd,fun _=>c,fun z h=>nomatch h⟩
   ·have:∃ x∈rs.map (·.nm),g x ∉ ss.map g:=Ex fun no=>c fun x hx=>Ex fun h=>no ⟨x,hx,h⟩
    obtain ⟨x,hx,no⟩:=this;obtain ⟨z,hz⟩:=Jt G hx no;have sq1:=sq.snoc hz;have l1:=sq1.le;rw [Fv,FH] at l1;cases b:(bt rs (kOf g (rs.map (·.nm)) (g z))).good with
    | true=>
     refine ih (((rs.map (·.nm)).filter (isF g (rs.map (·.nm)))).length-(ss++[z]).length) (by rw [Fv,FH];omega) (ss++[z]) rfl sq1 fun f hf=>?_
     rcases FR.mp hf with h | h
     ·exact gd f h
     ·rw [FE.mp h];exact b
    | false=>exact ⟨ss,some z,sq,gd,(fun h=>nomatch h),fun y h=>by cases h;exact ⟨hz,b⟩⟩
 exact key _ [] rfl (fun j x h=>by simp at h) (fun f h=>nomatch h)
theorem Fin.at {rs:List Rw}{g:Str->Nat}{ss:List Str}{e:Option Str}(h:Fin rs g ss e) {j:Nat}{z:Str}(hj:j<=ss.length) (hz:pkI (nbR rs) g (rs.map (·.nm)) ((ss.take j).map g)=some z):(ss[j]?=some z/\(bt rs (kOf g (rs.map (·.nm)) (g z))).good=true)∨(j=ss.length/\e=some z/\(bt rs (kOf g (rs.map (·.nm)) (g z))).good=false):=by
 rcases EY j ss.length with c | c
 ·have hx:ss[j]?=some ss[j]:=Fu c;have:=h.sq j _ hx;rw [hz] at this;cases this;exact .inl ⟨hx,h.gd _ (FD hx)⟩
 ·have ej:j=ss.length:=by omega
  subst ej;rw [FC] at hz;cases e with
  | none=>
   obtain ⟨z1,_,z2,_⟩:=YH hz;exact absurd (h.nn rfl z z1) z2
  | some y=>
   obtain ⟨b1,b2⟩:=h.bd y rfl;rw [hz] at b1;cases b1;exact .inr ⟨rfl,rfl,b2⟩
inductive φtitI (K:W.Frag) (C:Addr) (x y:V) (H:Hp) (Q:VK):Prop
 | mk (e l:Addr) (vs:List V) (h1:x=.ref e) (h2:H e=some (.ext (XE e C none))) (h3:y=.ref l) (h4:H l=some (.lst vs))
   (h5:∀ q d,H q=none->H d=none->d≠q->d≠e->Q .non (upd (upd (upd H q (.lst vs)) e (.ext (XE e C (some d)))) d (.ext (XD d [(Str.ofString "titles",.ref q)])))):φtitI K C x y H Q
inductive φwidI (K:W.Frag) (C:Addr) (x y z:V) (H:Hp) (Q:VK):Prop
 | mk (e l:Addr) (vs:List V) (h1:x=.ref e) (h2:H e=some (.ext (XE e C none))) (h3:y=.ref l) (h4:H l=some (.lst vs))
   (h5:∀ q d,H q=none->H d=none->d≠q->d≠e->Q .non (upd (upd (upd (upd H q (.lst vs)) e (.ext (XE e C (some d)))) d (.ext (XD d [(Str.ofString "titles",.ref q)]))) d (.ext (XD d [(Str.ofString "titles",.ref q),(Str.ofString "pull",z)])))):φwidI K C x y z H Q
theorem UQ {q:Addr}{o:HO}(h:(upd H q o) d=none):H d=none/\d≠q:=by
 have ne:d≠q:=fun e=>by rw [e,Qe] at h;cases h
 rw [Qj ne] at h;exact ⟨h,ne⟩
theorem Yz (T:Tx K mg t) (F:Fun K "__init__" "Tangled.__init__" Zk f fd):FnOk P w K mg base CX0 1 f fd ["self","titles"] (Sp2 (φtitI K t.aD)):=by
 refine F.ok Yy ZV (fun cdv A outer s H vs Q E hr h=>?_);obtain ⟨_,v,rfl,e,l,vs,rfl,he,rfl,hl,q⟩:=h;refine ⟨_,((Qf (KU K rfl (pu 0) (QJ (Zf K rfl) (by rfl) T.aM Eg (Qa (pu 1) Qd))))),?_⟩;unfold U8;walk_at "go";refine Z2 hl fun q0 hq0=>?_
 refine ⟨e,_,rfl,by rw [Qj (QD he hq0).symm];exact he,T.dA,T.dB,fun d hd ne=>?_⟩;obtain ⟨d1,d2⟩:=UQ hd;exact q q0 d hq0 d1 d2 ne
theorem Wb (T:Tx K mg t) (F:Fun K "__init__" "Jumps.__init__" Zw f fd):FnOk P w K mg base CX0 1 f fd ["self","titles"] (Sp2 (φtitI K t.aB)):=by
 refine F.ok YU ZV (fun cdv A outer s H vs Q E hr h=>?_);obtain ⟨_,v,rfl,e,l,vs,rfl,he,rfl,hl,q⟩:=h;refine ⟨_,((Qf (KU K rfl (pu 0) (QJ (Zf K rfl) (by rfl) T.aM Eg (Qa (pu 1) Qd))))),?_⟩;unfold U8;walk_at "go";refine Z2 hl fun q0 hq0=>?_
 refine ⟨e,_,rfl,by rw [Qj (QD he hq0).symm];exact he,T.dC,T.dD,fun d hd ne=>?_⟩;obtain ⟨d1,d2⟩:=UQ hd;exact q q0 d hq0 d1 d2 ne
theorem YI (T:Tx K mg t) (F:Fun K "__init__" "Widens.__init__" Zm f fd):FnOk P w K mg base CX0 1 f fd ["self","titles","pull"] (Sp3 (φwidI K t.aA)):=by
 refine F.ok YF VG (fun cdv A outer s H vs Q E hr h=>?_);obtain ⟨_,v,w,rfl,e,l,vs,rfl,he,rfl,hl,q⟩:=h;refine ⟨_,((Qc (KU K rfl (pu 0) (QJ (Zf K rfl) (by rfl) T.aM Eg (Qa (pu 1) Qd)))
   (Qf (N6 K rfl (pu 0) (pu 2))))),?_⟩
 unfold U8;walk_at "go";refine Z2 hl fun q0 hq0=>?_
 refine ⟨e,_,rfl,by rw [Qj (QD he hq0).symm];exact he,T.bO,T.dE,fun d hd ne=>?_⟩;obtain ⟨d1,d2⟩:=UQ hd;unfold NS;walk_at "go";exact ⟨e,_,d,_,rfl,by rw [Qj ne.symm];exact Qe,Qe,ne,by show 1<1000;decide,T.bO,T.dX,q q0 d hq0 d1 d2 ne⟩
def XB (K:W.Frag) (H H':Hp) (d:Addr) (ts:List Str) (z:Option Rat):Prop:=∃ l fs,H' d=some (.ext (XD d fs))/\fs.lookup (Str.ofString "titles")=some (.ref l)/\H l=none/\H' l=some (.lst (ts.map V.str))/\∀ q,z=some q->∃ v,fs.lookup (Str.ofString "pull")=some v/\Fq K H' q v
theorem NC {ts:List Str}{E:XK}(hl:H l=some (.lst (ts.map V.str))) (q:∀ d H',Same H H'->XB K H H' d ts none->E (.ref C) (some d) H'):1<=sizeLine/\∀ x,H x=none->φtitI K C (.ref x) (.ref l) (upd H x (.ext (XE x C none))) (fun v H2=>v=.non/\∃ od,H2 x=some (.ext (XE x C od))/\E (.ref C) od (WM H2 x)):=by
 refine ⟨by decide,fun x hx=>⟨x,l,ts.map V.str,rfl,Qe,rfl,by rw [Qj (QD hl hx).symm];exact hl,fun q0 d hq0 hd dq de=>⟨rfl,some d,by rw [Qj de.symm];exact Qe,?_⟩⟩⟩;have q0x:q0≠x:=fun e=>by rw [e,Qe] at hq0;cases hq0
 rw [Qj q0x] at hq0;rw [Qj de] at hd;refine q d _ (fun c o h=>?_) ⟨q0,_,by rw [Xx de];exact Qe,rfl,hq0,?_,fun _ h=>nomatch h⟩
 ·rw [Xx (QD h hx).symm,Qj (QD h hd).symm,Qj (QD h hx).symm,Qj (QD h hq0).symm,Qj (QD h hx).symm];exact h
 ·rw [Xx q0x,Qj dq.symm,Qj q0x];exact Qe
theorem RO {ts:List Str}{E:XK}{r:Rat}(hl:H l=some (.lst (ts.map V.str))) (hz:Fq K H r z) (q:∀ d H',Same H H'->XB K H H' d ts (some r)->E (.ref C) (some d) H'):2<=sizeLine/\∀ x,H x=none->φwidI K C (.ref x) (.ref l) z (upd H x (.ext (XE x C none))) (fun v H2=>v=.non/\∃ od,H2 x=some (.ext (XE x C od))/\E (.ref C) od (WM H2 x)):=by
 refine ⟨by decide,fun x hx=>⟨x,l,ts.map V.str,rfl,Qe,rfl,by rw [Qj (QD hl hx).symm];exact hl,fun q0 d hq0 hd dq de=>⟨rfl,some d,by rw [Qj de.symm,Qj de.symm];exact Qe,?_⟩⟩⟩;have q0x:q0≠x:=fun e=>by rw [e,Qe] at hq0;cases hq0
 rw [Qj q0x] at hq0;rw [Qj de] at hd;have g:Same H (WM (upd (upd (upd (upd (upd H x (.ext (XE x C none))) q0 (.lst (ts.map V.str))) x (.ext (XE x C (some d)))) d (.ext (XD d [(Str.ofString "titles",.ref q0)]))) d (.ext (XD d [(Str.ofString "titles",.ref q0),(Str.ofString "pull",z)]))) x):=fun c o h=>by
  rw [Xx (QD h hx).symm,Qj (QD h hd).symm,Qj (QD h hd).symm,Qj (QD h hx).symm,Qj (QD h hq0).symm,Qj (QD h hx).symm];exact h
 refine q d _ g ⟨q0,_,by rw [Xx de];exact Qe,rfl,hq0,?_,fun r' h=>⟨z,rfl,?_⟩⟩
 ·rw [Xx q0x,Qj dq.symm,Qj dq.symm,Qj q0x];exact Qe
 ·cases h;exact hz.same g
local macro_rules | `(tactic| walk_at "dg") => `(tactic| ((try simp only [M4, d_ni', M6, M3, M5, M7, M1, B5]); walk_at "go"))
inductive φcw (K:W.Frag) (x y z:V) (H:Hp) (Q:VK):Prop
 | mk (d l:Addr) (s:Str) (kn nms:List Str) (nb:Str->List Str) (h1:x=.ref d) (h2:y=.str s) (h3:z=.ref l) (h4:Nb H d nms nb) (h5:s∈nms) (h6:(nb s).length<=60) (h7:SqL K H l (kn.map V.str))
   (h8:∀ p,H p=none->Q (.ref p) (upd H p (.lst (((nb s).filter fun y=>decide (y∈kn)).map V.str)))):φcw K x y z H Q
theorem Y9 (T:Tx K mg t) (F:Fun K "counted_within" "counted_within" Zu f fd):FnOk P w K mg base CX0 1 f fd ["leaning","title","knot"] (Sp3 (φcw K)):=by
 refine F.ok YT VG (fun cdv A outer s H vs Q E hr h=>?_);obtain ⟨_,_,_,rfl,d,l,s,kn,nms,nb,rfl,rfl,rfl,⟨kvs,hd,hv⟩,hs,hn,hl,q⟩:=h;obtain ⟨a,va,ka⟩:=hv s hs;refine ⟨_,((Qf (Qr (Q8 (N:=["counted","knot"]) (caps:=[none,some 2]) rfl ZR (piK K rfl (Q4 (Q9 hr) (pu 0) (pu 1) (fun _ _=>rfl))) (fun _ _ _ _=>Ql (i:=0) (show (["counted","knot"]:List Str).Nodup by decide +kernel) rfl (Or.inl rfl) (.inr rfl)) (fun _ _ _ _=>Xa (Qq (inK K rfl) (pu 0) (pu 1) (by with_unfolding_all rfl))) (fun _ _ _ _=>(pu 0)))))),?_⟩;walk_at "go";simp only [QU];walk_at "dg";refine ⟨d,.ref a,rfl,by have:=DGet.k (k:=Sum.inr s) hd;rw [va] at this;exact this,a,rfl,⟨_,SqL.of ka⟩,Zy (xs:=(nb s).map V.str) (fun i acc σ' H'=>∃ x0:Option V,σ'=[x0,some (.ref l)]/\H'=H/\acc=(((nb s).take i).filter fun y=>decide (y∈kn)).map V.str) ⟨none,rfl,rfl,rfl⟩ (fun i acc σ' H' _ h=>by obtain ⟨_,_,rfl,_⟩:=h;exact SqL.of ka) (by rw [Fo];omega) ?_ ?_⟩
 ·rintro i v acc _ H2 hv hacc ⟨x0,rfl,e2,rfl⟩;rw [e2];rw [Fx] at hv;obtain ⟨y,hy,rfl⟩:=FO.mp hv;have hi:i<((nb s).map V.str).length:=by rw [Fo];exact Qw hy
  have st:((nb s).take (i+1)).filter (fun y=>decide (y∈kn))=((nb s).take i).filter (fun y=>decide (y∈kn))++[y].filter (fun y=>decide (y∈kn)):=by rw [FA,hy,ED];rfl
  walk_at "go";refine Kb hl ?_;walk_at "go";by_cases hm:y∈kn
  ·rw [Fs (by simp [hm])];walk_at "go";refine CN.mk hi (by rw [Fv,FH];omega) ⟨_,rfl,rfl,?_⟩;rw [st];simp [hm]
  ·rw [Fl (by simp [hm])];refine CN.mk hi (by omega) ⟨_,rfl,rfl,?_⟩;rw [st];simp [hm]
 ·rintro acc _ H2 ⟨x0,rfl,e2,rfl⟩ p hp;rw [e2] at hp ⊢;rw [Fo,FC];exact q p hp
inductive φfr (K:W.Frag) (x y z:V) (H:Hp) (Q:VK):Prop
 | mk (lk d lp:Addr) (ts pl nms:List Str) (nb:Str->List Str) (h1:x=.ref lk) (h2:y=.ref d) (h3:z=.ref lp) (h4:H lk=some (.lst (ts.map V.str))) (h5:Nb H d nms nb) (h6:H lp=some (.lst (pl.map V.str))) (h7:∀ s∈ts,s∈nms) (h8:∀ s∈nms,(nb s).length<=60) (h9:ts.length<=60) (h10:pl.length<=60)
   (h11:∀ H',Same H H'->Q (.bl (ts.all fun s=>(nb s).all fun y=>decide (y∈ts++pl))) H'):φfr K x y z H Q
theorem BI {l:List Str}:decide (l.filter (fun y=>decide (y∈kn))=l)=l.all fun y=>decide (y∈kn):=by
 rw [F0,Em,List.filter_eq_self,Eu]
theorem KB {l m:List Str}:l=m↔(D.lst (l.map D.str)=.lst (m.map D.str)):=⟨fun e=>by rw [e],fun e=>by
 injection e with e
 exact List.map_inj_right (fun a b h=>by injection h) |>.mp e⟩
theorem UB (T:Tx K mg t) (F:Fun K "is_free" "is_free" Yt f fd) (bF:Cal P w K mg base 1 "counted_within" ["leaning","title","knot"] (Sp3M (φcw K))):FnOk P w K mg base CX0 2 f fd ["knot","leaning","placed"] (Sp3 (φfr K)):=by
 refine F.ok sc_is_free VG (fun cdv A outer s H vs Q E hr h=>?_);obtain ⟨_,_,_,rfl,lk,d,lp,ts,pl,nms,nb,rfl,rfl,rfl,hk,hN,hp,hts,hnl,tl,pll,q⟩:=h;refine ⟨_,((Qc (Qk (i:=3) sc_is_free.nd rfl (Or.inr rfl) (Qg Qv (pu 0) (pu 2)))
   (Qf (Qr (Qo (WQ K rfl rfl) (by rfl) T.cR boot_all (Qa (Q8 (N:=["title","leaning","reckoned"]) (caps:=[none,some 1,some 3]) rfl ZR (piK K rfl (pu 0)) (fun _ _ _ _=>Ql (i:=0) (show (["title","leaning","reckoned"]:List Str).Nodup by decide +kernel) rfl (Or.inl rfl) (.inr rfl)) (fun _ _ _ _=>QW) (fun _ _ _ _=>(Zl (eqM K rfl hr.units) (Qs bF (hrm hr) rfl (Qa (pu 1) (Qa (pu 0) (Qa (pu 2) Qd)))) (Q4 (Q9 hr) (pu 1) (pu 0) (fun _ _=>rfl)) (Qu _)))) Qd)))))),?_⟩
 walk_at "go";refine Vx ⟨lk,lp,_,_,rfl,rfl,hk,hp,KA (by rw [Fo,Fo];omega),fun lr hlr=>?_⟩;rw [<-Fz];generalize e_g1:upd H lr _=H1 at *;obtain ⟨g1,k1⟩:=nwH hlr e_g1;walk_at "go";simp only [QU];walk_at "go";refine ⟨lk,rfl,⟨_,SqL.of (g1 _ _ hk)⟩,Zy (xs:=ts.map V.str) (fun i acc σ' H'=>∃ x0:Option V,σ'=[x0,some (.ref d),some (.ref lr)]/\Same H1 H'/\acc=(ts.take i).map fun s=>V.bl ((nb s).all fun y=>decide (y∈ts++pl))) ⟨none,rfl,Same.refl _,rfl⟩ (fun i acc σ' H' _ h=>by obtain ⟨_,_,g,_⟩:=h;exact SqL.of (g _ _ (g1 _ _ hk))) (by rw [Fo];omega) ?_ ?_⟩
 ·rintro i v acc _ H2 hv hacc ⟨x0,rfl,g2,rfl⟩;rw [Fx] at hv;obtain ⟨s,hs,rfl⟩:=FO.mp hv;have hi:i<(ts.map V.str).length:=by rw [Fo];exact Qw hs
  have sn:=hts s (FD hs);have g02:=g1.trans g2;obtain ⟨kvs,hd,hv⟩:=hN;obtain ⟨a,va,ka⟩:=hv s sn;simp only [ZK];walk_at "dg";refine ⟨d,lr,s,ts++pl,nms,nb,rfl,rfl,rfl,Nb.same ⟨kvs,hd,hv⟩ g02,sn,hnl s sn,SqL.of (g2 _ _ k1),fun p hp2=>?_⟩;have g3:=Qi hp2 (.lst (((nb s).filter fun y=>decide (y∈ts++pl)).map V.str));refine ⟨d,.ref a,rfl,by have:=DGet.k (k:=Sum.inr s) (g3 _ _ (g02 _ _ hd));rw [va] at this;exact this,?_⟩;refine UX (b:=(nb s).all fun y=>decide (y∈ts++pl)) (ZF (SqL.of Qe)) (ZF (SqL.of (g3 _ _ (g02 _ _ ka)))) JG (by rw [<-BI,EM,KB]) ?_;refine CN.mk hi (by rw [Fv,FH];omega) ⟨_,rfl,g2.trans g3,?_⟩;rw [FA,hs,Fz];rfl
 ·rintro acc _ H2 ⟨x0,rfl,g2,rfl⟩ p hp2;rw [Fo,FC];refine ⟨p,ts.map fun s=>(nb s).all fun y=>decide (y∈ts++pl),rfl,SqL.of (by rw [Qe,El];rfl),?_⟩;have e:(ts.map fun s=>(nb s).all fun y=>decide (y∈ts++pl)).all id=ts.all fun s=>(nb s).all fun y=>decide (y∈ts++pl):=by rw [List.all_map];rfl
  rw [e];exact q _ ((g1.trans g2).trans (Qi hp2 _))
def Lq (H:Hp) (nms:List Str) (nb:Str->List Str) (kvs:List (Key×V)):Prop:=kvs.length=nms.length/\∀ (i:Nat) s,nms[i]?=some s->∃ l,∃ ss:List Str,kvs[i]?=some (Sum.inr s,.ref l)/\H l=some (.lst (ss.map V.str))/\∀ x,x∈ss↔Rc nb (nb s) x
theorem Jg {rk:Str->List Str}(h:Lq H nms rk kvs):kvs.map (·.1)=nms.map Sum.inr:=by
 obtain ⟨kl,ko⟩:=h;apply EE;intro n;rw [Fx,Fx];cases e:nms[n]? with
 | some r'=>obtain ⟨l',ss,h',_⟩:=ko n r' e;rw [h'];rfl
 | none=>
  have:kvs[n]?=none:=by rw [Dv] at e ⊢;omega
  rw [this];rfl
theorem Gf {rk:Str->List Str}{s:Str}(lo:Lq H2 (nms.take i) rk kvs) (k2:H2 d=some (.dK kvs)) (hs:nms[i]?=some s) (hl:H2 l=none) (g3:Same H2 H4) (k3:H4 l=some (.lst (ss.map V.str))) (hr:∀ x,x∈ss↔Rc rk (rk s) x) :
  Lq (upd H4 d (.dK (kvs++[(Sum.inr s,.ref l)]))) (nms.take (i+1)) rk (kvs++[(Sum.inr s,.ref l)]):=by
 obtain ⟨kl,ko⟩:=lo;have ld:l≠d:=fun e=>by rw [e,k2] at hl;cases hl
 refine ⟨?_,?_⟩
 ·rw [Fv,kl,FA,hs,Fv];rfl
 ·intro n r' hn;rw [FA,hs] at hn;rcases Yc hn with ⟨h1,hlt⟩ | ⟨h1,e⟩
  ·obtain ⟨l',ss',h',h'',h3⟩:=ko n r' h1;refine ⟨l',ss',by rw [Ei (by have:=Qw h1;omega)];exact h',?_,h3⟩;have:l'≠d:=fun e=>by rw [e,k2] at h'';cases h''
   rw [Qj this];exact g3 _ _ h''
  ·subst e;exact ⟨l,ss,by rw [h1,<-kl,Ed (Ft _),Er];rfl,by rw [Qj ld];exact k3,hr⟩
inductive φkn (K:W.Frag) (t:Adr) (x:V) (H:Hp) (Q:VK):Prop
 | mk (p:Addr) (rs:List Rw) (gg:Str->Nat) (h1:x=.ref p) (h2:Of K t H rs p) (h3:Rows rs) (h4:Gq (nbR rs) (rs.map (·.nm)) gg)
   (h5:∀ l vs H',H l=none->Same H H'->H' l=some (.lst vs)->All2 (fun (s:Str) v=>∃ q,v=V.ref q/\H q=none/\H' q=some (.lst ((kOf gg (rs.map (·.nm)) (gg s)).map V.str))) ((rs.map (·.nm)).filter (isF gg (rs.map (·.nm)))) vs->Q (.ref l) H'):φkn K t x H Q
inductive φokind (K:W.Frag) (t:Adr) (x y:V) (H:Hp) (Q:VK):Prop
 | mk (p:Addr) (rs:List Rw) (s:Str) (r:Rw) (h1:x=.ref p) (h2:Of K t H rs p) (h3:y=.str s) (h4:(rs.find? fun r=>decide (r.nm=s))=some r) (h5:∀ v,Kn K t.aE H r v->Q v H):φokind K t x y H Q
theorem Jw (T:Tx K mg t) (F:Fun K "kind" "Office.kind" ZY f fd):FnOk P w K mg base CX0 1 f fd ["self","title"] (Sp2 (φokind K t)):=by
 refine F.ok sc_Office_kind ZV (fun cdv A outer s H vs Q E hr h=>?_);obtain ⟨_,_,rfl,p,rs,s,r,rfl,⟨dx,fs,lk,vs,hp,hf,hk,hA,_⟩,rfl,hfr,q⟩:=h;have hvl:=hA.1;refine ⟨_,((Qc (QG FL rfl (piK K rfl (Ze K rfl (pu 0))) (Ql (i:=2) sc_Office_kind.nd rfl (Or.inl rfl))
   (Qf (QL (Qq (eqM K rfl hr.units) (Ze K rfl (pu 2)) (pu 1) (Qu _)) (Qf (Qr (pu 2))) Qx)))
   (Qf Js))),?_⟩
 walk_at "go";refine YR hp T.aU T.bN hf ⟨lk,rfl,⟨_,SqL.of hk⟩,?_⟩;refine Xn (xs:=vs) (fun i σ' H'=>∃ x2:Option V,σ'=[some (.ref p),some (.str s),x2]/\H'=H/\∀ r∈rs.take i,r.nm≠s) ⟨none,rfl,rfl,fun r h=>by simp at h⟩ (fun i σ' H' _ h=>by obtain ⟨_,_,rfl,_⟩:=h;exact SqL.of hk) ?_ ?_
 ·rintro i v _ H2 hv ⟨x2,rfl,e2,no⟩;rw [e2];obtain ⟨r',hr',hKn⟩:=hA.getV hv;obtain ⟨kp,kdx,kfs,lc,lo,rfl,h1,h2,_⟩:=id hKn;walk_at "go";refine YR h1 T.aK T.c9 h2 ?_;walk_at "go";refine QK (fun c=>?_) (fun c=>?_)
  ·walk_at "go";refine q _ ?_;have e:r=r':=by
    have hi:=Qw hr';have es:rs=rs.take i++r' :: rs.drop (i+1):=by
     have:=FF ((Fu hi).symm.trans hr');rw [<-this,<-List.drop_eq_getElem_cons hi,ES]
    rw [es,List.find?_append,Dy.mpr (fun x hx=>by simpa using no x hx),List.find?_cons_of_pos (by simpa using c)] at hfr;exact (FF hfr).symm
   rw [e];exact hKn
  ·refine ⟨_,rfl,(by first | rfl | trivial),fun r hr=>?_⟩;rw [FA,hr'] at hr;rcases FR.mp hr with h | h
   ·exact no r h
   ·rw [show r=r' by simpa using h];exact c
 ·rintro _ H2 ⟨x2,rfl,e2,no⟩;rw [<-hvl,FC] at no;exact absurd (by simpa using Ds hfr) (no r (Dr hfr))
theorem Mn (T:Tx K mg t) (F:Fun K "knots" "knots" Jc f fd) (eQ:UV P w K mg base 1 t.aL "named" ["self"] (Sp1M (φnamed K t))) (eR:Cal P w K mg base 2 "leads_to" ["office","title"] (Sp2M (φlead K t))):FnOk P w K mg base CX0 3 f fd ["office"] (Sp1 (φkn K t)):=by
 refine F.ok sc_knots Wq (fun cdv A outer s H vs Q E hr h=>?_);obtain ⟨_,rfl,p,rs,gg,rfl,hO,hRs,G,q⟩:=h;have hle:=hRs.le;refine ⟨_,((Qc (Qk (i:=1) sc_knots.nd rfl (Or.inr rfl) Z0)
   (Qc (QG FL rfl (piK K rfl (Ga eQ (hrm hr) T.aU (pu 0))) (Ql (i:=2) sc_knots.nd rfl (Or.inr rfl))
   (Qf (Xb (Q9 hr) (pu 1) (pu 2) (Qs eR (hrm hr) rfl (Qa (pu 0) (Qa (pu 2) Qd))) rfl)))
   (Qc (Qk (i:=3) sc_knots.nd rfl (Or.inl rfl) (QC Qd))
   (Qc (QG FL rfl (L8 (pu 1)) (Ql (i:=2) sc_knots.nd rfl (Or.inr rfl))
   (Qc (Y5 (i:=4) sc_knots.nd rfl (Or.inl rfl) (N:=["other","title","leads"]) (caps:=[none,some 2,some 1]) rfl ZR (N9 (pu 1)) (fun _ _ _ _=>Ql (i:=0) (show (["other","title","leads"]:List Str).Nodup by decide +kernel) rfl (Or.inl rfl) (.inr rfl)) (fun _ _ _ _=>Xa (PW.pt (X7 (Qq (eqM K rfl hr.units) (pu 0) (pu 1) (Qu _)) (Xy (PW.pt (Xf (Qq (inK K rfl) (pu 0) (Q4 (Q9 hr) (pu 2) (pu 1) (fun _ _=>rfl)) (by with_unfolding_all rfl)) (ZP (Qq (inK K rfl) (pu 1) (Q4 (Q9 hr) (pu 2) (pu 0) (fun _ _=>rfl)) (by with_unfolding_all rfl))))))))) (fun _ _ _ _=>(pu 0)))
   (Qf (QL (Qq (eqM K rfl hr.units) (Qp (ixK K rfl) (pu 4) Qb (fun _ _=>rfl)) (pu 2) (Qu _)) (Qf (QS (Zb K rfl F3 F7 F8 QO (pu 3) (Qa (pu 4) Qd)))) Qx))))
   (Qf (Qr (pu 3)))))))),?_⟩
 generalize hR:ZH (Z4 _ (Zt 3)) _=R;walk_at "go";walk_at "dg";intro d hd;generalize e_g1:upd H d _=H1 at *;obtain ⟨g1,k1⟩:=nwH hd e_g1;obtain ⟨dx,fs,lk,vs0,hp,hf,hk,hA,hnn⟩:=id hO;refine Lz (g1 _ _ hp) hnn.1 ?_;walk_at "go";refine ⟨p,rs,rfl,hO.same g1,by omega,fun l0 H2 g2 hl0 k2=>⟨l0,rfl,⟨_,SqL.of k2⟩,?_⟩⟩;have nd:=hRs.nd;obtain ⟨nms,hns⟩:∃ nms,rs.map (·.nm)=nms:=⟨_,rfl⟩
 rw [hns] at k2 nd q G;have nl:nms.length<=8:=by rw [<-hns,Fo];exact hle
 have l0d:l0≠d:=QD k1 hl0;refine Xn (xs:=nms.map V.str) (fun i σ' H'=>∃ (kvs:List (Key×V)) (x2:Option V),σ'=[some (.ref p),some (.ref d),x2,none,none]/\Same H H'/\H' l0=some (.lst (nms.map V.str))/\H' d=some (.dK kvs)/\Lq H' (nms.take i) (nbR rs) kvs) ⟨[],none,rfl,g1.trans g2,k2,g2 _ _ k1,⟨rfl,fun i s h=>by simp at h⟩⟩ (fun i σ' H' _ h=>by obtain ⟨_,_,_,_,h,_⟩:=h;exact SqL.of h) ?_ ?_
 ·rintro i v _ H3 hv ⟨kvs,x2,rfl,g3,l3,d3,lo⟩;rw [Fx] at hv;obtain ⟨s,hs,rfl⟩:=FO.mp hv;have sn:s∈rs.map (·.nm):=by rw [hns];exact FD hs
  have nin:s ∉ nms.take i:=by
   have:=Xv (f:=id) (l:=nms) (by rw [Es];exact nd) hs;rwa [Es] at this
  have kl:=lo.1;rw [FX] at kl;walk_at "go";walk_at "dg";refine ⟨p,rs,s,rfl,hO.same g3,hRs,rfl,sn,fun l ss H4 hl g4 k4 _ _ mem=>?_⟩;refine ⟨d,_,rfl,DPut.k (k:=Sum.inr s) (g4 _ _ d3) (by unfold sizeLine;omega),?_⟩;rw [Xg _ (Z3 (Jg lo) nin)];exact ⟨_,_,rfl,QB (g3.trans g4) hd,by rw [Qj l0d];exact g4 _ _ l3,Qe,Gf lo d3 hs hl g4 k4 mem⟩
 ·rintro _ H3 ⟨kvs,x2,rfl,g3,l3,d3,lo⟩;rw [Fo,FC] at lo;have keys:=Jg lo;have look:∀ s∈nms,∃ l,∃ ss:List Str,Zd kvs (Sum.inr s:Key)=some (.ref l)/\H3 l=some (.lst (ss.map V.str))/\∀ x,x∈ss↔Rc (nbR rs) (nbR rs s) x:=fun s hs=>by
   obtain ⟨i,hi⟩:=Ee hs;obtain ⟨l,ss,h1,h2,h3⟩:=lo.2 i s hi;exact ⟨l,ss,YS keys nd h1,h2,h3⟩
  have kat:∀ (i:Nat) kv,kvs[i]?=some kv->∃ s,nms[i]?=some s/\kv.1=Sum.inr s:=fun i kv h=>by
   have:=congrArg (fun l:List Key=>l[i]?) keys;simp only [Fx,h,EV] at this;obtain ⟨s,hs,e⟩:=FO.mp this.symm;exact ⟨s,hs,e.symm⟩
  have kvl:kvs.length=nms.length:=lo.1;show R _ _ _;subst hR;walk_at "go";refine ⟨by decide,fun pf hpf=>?_⟩;generalize e_n4:upd H3 pf _=H4 at *;obtain ⟨n4,k4⟩:=nwH hpf e_n4;have pfd:pf≠d:=QD d3 hpf;have pf0:H pf=none:=g3.free hpf;walk_at "dg";refine ⟨d,kvs,rfl,n4 _ _ d3,fun o=>?_⟩;have fz:(upd H4 d (.frz o (.dK kvs))) d=some (.frz o (.dK kvs)):=Qe;have g5:Same H (upd H4 d (.frz o (.dK kvs))):=QB (g3.trans n4) hd;have k5:(upd H4 d (.frz o (.dK kvs))) pf=some (.lst []):=by rw [Qj pfd];exact k4
  have look5:∀ s∈nms,∃ l,∃ ss:List Str,Zd kvs (Sum.inr s:Key)=some (.ref l)/\l≠pf/\(upd H4 d (.frz o (.dK kvs))) l=some (.lst (ss.map V.str))/\∀ x,x∈ss↔Rc (nbR rs) (nbR rs s) x:=fun s hs=>by
   obtain ⟨l,ss,h1,h2,h3⟩:=look s hs;have ld:l≠d:=fun e=>by rw [e,d3] at h2;cases h2
   exact ⟨l,ss,h1,(QD h2 hpf).symm,by rw [Qj ld];exact n4 _ _ h2,h3⟩
  generalize upd H4 d (.frz o (.dK kvs))=H5 at *;refine HV (fun i σ' H'=>∃ (ws:List V) (x2 x4:Option V),σ'=[some (.ref p),some (.ref d),x2,some (.ref pf),x4]/\Same H H'/\Same (del H5 pf) (del H' pf)/\H' pf=some (.lst ws)/\All2 (fun (s:Str) v=>∃ q,v=V.ref q/\H q=none/\q≠pf/\H' q=some (.lst ((kOf gg nms (gg s)).map V.str))) ((nms.take i).filter (isF gg nms)) ws/\ws.length<=i) ⟨[],x2,none,rfl,g5,Same.refl _,k5,All2.nil,Ft _⟩ (fun i σ' H' _ h=>by obtain ⟨_,_,_,_,_,g,_⟩:=h;exact del_sub _ _ (g _ _ (Xm pfd.symm fz))) ?_ ?_
  ·rintro i kv _ H6 hkv ⟨ws,y2,y4,rfl,g6,o6,f6,hW,wl⟩;obtain ⟨s,hs,ek⟩:=kat i kv hkv;have fz6:H6 d=some (.frz o (.dK kvs)):=del_sub _ _ (o6 _ _ (Xm pfd.symm fz));have hi:=Qw hkv;rw [ek];show Zt 2 (V.str s) _ _ _;walk_at "go";simp only [QU];walk_at "dg";refine ⟨d,o,kvs,rfl,fz6,Hh (fun j acc σ' H'=>∃ x0:Option V,σ'=[x0,some (.str s),some (.ref d)]/\H'=H6/\acc=((nms.take j).filter fun y=>decide (gg y=gg s)).map V.str) ⟨none,rfl,rfl,rfl⟩ (fun j acc σ' H' _ h=>by obtain ⟨_,_,e,_⟩:=h;rw [e];exact fz6) (by omega) ?_ ?_⟩
   ·rintro j kv' acc _ H7 hkv' hacc ⟨x0,rfl,e7,rfl⟩;rw [e7];obtain ⟨y,hy,ek'⟩:=kat j kv' hkv';rw [ek'];show Zt 0 (V.str y) _ _ _;walk_at "go";have hj:=Qw hkv';have st:(nms.take (j+1)).filter (fun y=>decide (gg y=gg s))=(nms.take j).filter (fun y=>decide (gg y=gg s))++[y].filter (fun y=>decide (gg y=gg s)):=by rw [FA,hy,ED];rfl
    have sn:=FD hs;have yn:=FD hy;have yes:gg y=gg s->CN (fun j acc σ' H'=>∃ x0:Option V,σ'=[x0,some (.str s),some (.ref d)]/\H'=H6/\acc=((nms.take j).filter fun y=>decide (gg y=gg s)).map V.str) kvs.length j (((nms.take j).filter fun y=>decide (gg y=gg s)).map V.str++[V.str y]) [some (.str y),some (.str s),some (.ref d)] H6:=fun c=>by
     refine CN.mk hj (by rw [Fv,FH];omega) ⟨_,rfl,rfl,?_⟩;rw [st];simp [c]
    have no:¬ gg y=gg s->CN (fun j acc σ' H'=>∃ x0:Option V,σ'=[x0,some (.str s),some (.ref d)]/\H'=H6/\acc=((nms.take j).filter fun y=>decide (gg y=gg s)).map V.str) kvs.length j (((nms.take j).filter fun y=>decide (gg y=gg s)).map V.str) [some (.str y),some (.str s),some (.ref d)] H6:=fun c=>by
     refine CN.mk hj (by omega) ⟨_,rfl,rfl,?_⟩;rw [st];simp [c]
    refine QK (fun c=>yes (by rw [c])) (fun c=>?_);have mu:=G.mu sn yn (fun e=>c e.symm);obtain ⟨l,ss,v1,v2,v3,v4⟩:=look5 s sn;obtain ⟨l',ss',w1,w2,w3,w4⟩:=look5 y yn;walk_at "dg";refine ⟨d,.ref l,rfl,by have:=DGet.r (k:=Sum.inr s) (.inr ⟨o,fz6⟩);rw [v1] at this;exact this,?_⟩;refine Kb (SqL.of (del_sub _ _ (o6 _ _ (Xm v2 v3)))) ?_;walk_at "go";refine QK (fun c1=>?_) (fun c1=>no fun e=>c1 ((v4 y).mpr (mu.mpr e.symm).1));walk_at "dg";refine ⟨d,.ref l',rfl,by have:=DGet.r (k:=Sum.inr y) (.inr ⟨o,fz6⟩);rw [w1] at this;exact this,?_⟩;refine Kb (SqL.of (del_sub _ _ (o6 _ _ (Xm w2 w3)))) ?_;walk_at "go";exact QK (fun c2=>yes (mu.mp ⟨(v4 y).mp c1,(w4 s).mp c2⟩).symm) (fun c2=>no fun e=>c2 ((w4 s).mpr (mu.mpr e.symm).2))
   ·rintro acc _ H7 ⟨x0,rfl,e7,rfl⟩ pk hpk;rw [e7] at hpk ⊢;rw [kvl,FC];have sn:=FD hs;obtain ⟨f,fn,f2,f3,_⟩:=JB (g:=gg) sn;obtain ⟨r,hkf⟩:=XQ f2;rw [f3] at hkf;have hko:nms.filter (fun y=>decide (gg y=gg s))=kOf gg nms (gg s):=rfl;rw [hko] at *;generalize e_np:upd H6 pk _=H7 at *;obtain ⟨np,k7⟩:=nwH hpk e_np;have pkf:pk≠pf:=QD f6 hpk;have f7:=np _ _ f6;refine Zj (SqL.of k7) (v:=.str f) (QP (j:=0) (by rw [hkf];rfl)) ?_;walk_at "go";have tk:(nms.take (i+1)).filter (isF gg nms)=(nms.take i).filter (isF gg nms)++[s].filter (isF gg nms):=by rw [FA,hs,ED];rfl
    refine QK (fun c=>?_) (fun c=>?_)
    ·refine ⟨.inl ⟨rfl,_,SqL.of f7⟩,QV f7 (QF (by omega)) ?_⟩;refine ⟨ws++[.ref pk],_,_,rfl,QB (g6.trans np) pf0,?_,Qe,?_,by rw [Fv,FH];omega⟩
     ·rw [Wi];exact o6.trans (Z1 np)
     ·rw [tk,ET (by rw [<-c];exact f2)];exact (hW.imp fun _ _ ⟨a,e,h1,h2,h3⟩=>⟨a,e,h1,h2,by rw [Qj h2];exact np _ _ h3⟩).snoc ⟨pk,rfl,g6.free hpk,pkf,by rw [Qj pkf];exact k7⟩
    ·refine ⟨ws,_,_,rfl,g6.trans np,o6.trans (Z1 np),f7,?_,by omega⟩;rw [tk,EU (fun e=>c (UK f2 e f3)),E3,Ec];exact hW.imp fun _ _ ⟨a,e,h1,h2,h3⟩=>⟨a,e,h1,h2,np _ _ h3⟩
  ·rintro _ H6 ⟨ws,y2,y4,rfl,g6,o6,f6,hW,wl⟩;rw [kvl,FC] at hW;walk_at "go";exact q pf ws H6 pf0 g6 f6 (hW.imp fun _ _ ⟨a,e,h1,_,h2⟩=>⟨a,e,h1,h2⟩)
local macro_rules | `(tactic| walk_at "dg") => `(tactic| ((try simp only [M4, d_ni', M6, M3, M5, M7, M1]); walk_at "go"))
inductive φring (K:W.Frag) (x y z:V) (H:Hp) (Q:VK):Prop
 | mk (d l:Addr) (kn nms part:List Str) (nb:Str->List Str) (a:Nat) (f:Str) (h1:x=.str f) (h2:y=.ref d) (h3:z=.ref l) (h4:Nb H d nms nb) (h5:∀ s∈part,s∈nms/\(nb s).length<=60) (h6:SqL K H l (kn.map V.str)) (h7:part.Nodup) (h8:part.length<=8) (h9:part[a]?=some f) (h10:∀ (j:Nat) s,part[j]?=some s->(nb s).filter (fun y=>decide (y∈kn))=[part.getD ((j+1) % part.length) Str.empty])
   (h11:∀ q H',H q=none->Same H H'->H' q=some (.lst ((rt part a).map V.str))->Q (.ref q) H'):φring K x y z H Q
def RiW (H:Hp) (d l pt:Addr) (f:Str) (part:List Str) (a:Nat) (n:Nat) (σ':L2.St) (H':Hp):Prop:=∃ k,σ'=[some (.str f),some (.ref d),some (.ref l),some (.ref pt),some (.str (part.getD ((a+k) % part.length) Str.empty))]/\Same H H'/\H' pt=some (.lst (((rt part a).take k).map V.str))/\k+n=part.length
theorem K3 (T:Tx K mg t) (F:Fun K "ring_from" "ring_from" Xo f fd) (bF:Cal P w K mg base 1 "counted_within" ["leaning","title","knot"] (Sp3M (φcw K))):FnOk P w K mg base CX0 2 f fd ["first","leaning","knot"] (Sp3 (φring K)):=by
 refine F.ok sc_ring_from VG (fun cdv A outer s H vs Q E hr h=>?_);obtain ⟨_,_,_,rfl,d,l,kn,nms,part,nb,a,f,rfl,rfl,rfl,hN,hp,hl,pnd,pl8,ha,hfil,q⟩:=h;have al:=Qw ha;have pne:part≠[]:=fun e=>by rw [e] at al;exact absurd al (by simp)
 refine ⟨_,((Qc (Qk (i:=3) sc_ring_from.nd rfl (Or.inl rfl) (QC Qd))
   (Qc (Qk (i:=4) sc_ring_from.nd rfl (Or.inl rfl) (pu 0))
   (Qc (XJ FL (Qq (WH K rfl) (pu 4) (pu 3) (by with_unfolding_all rfl)) (Qc (QS (Zb K rfl F3 F7 F8 QO (pu 3) (Qa (pu 4) Qd)))
   (Qf (Qk (i:=4) sc_ring_from.nd rfl (Or.inl rfl) (Qp (ixK K rfl) (Qs bF (hrm hr) rfl (Qa (pu 1) (Qa (pu 4) (Qa (pu 2) Qd)))) Qb (fun _ _=>rfl))))))
   (Qf (Qr (pu 3))))))),?_⟩
 walk_at "go";refine ⟨by decide,fun pt hpt=>?_⟩;generalize e_g1:upd H pt _=H1 at *;obtain ⟨g1,k1⟩:=nwH hpt e_g1;have rnd:(rt part a).Nodup:=(Rh al).nodup_iff.mpr pnd;have e0:part.getD ((a+0) % part.length) Str.empty=f:=by rw [Nat.add_zero,Da al];exact We ha
 refine ⟨RiW H d l pt f part a,⟨part.length,0,by rw [e0],g1,k1,by omega⟩,?_⟩;rintro n _ H2 ⟨k,rfl,g2,k2,hk⟩;generalize hR:ZH (Jo _) _=R;walk_at "go";refine XF (SqL.of k2) ?_;walk_at "go";by_cases c:k<part.length
 ·have hk':=Uo (a:=a) c;have nin:part.getD ((a+k) % part.length) Str.empty ∉ (rt part a).take k:=by
   have:=Xv (f:=id) (l:=rt part a) (by rw [Es];exact rnd) hk';rwa [Es] at this
  rw [Fs nin];refine ⟨_,fun _ _ z=>z,?_⟩;subst hR;walk_at "go";have tl:((rt part a).take k).length<=8:=by rw [FX,Wx];omega
  refine ⟨.inl ⟨rfl,_,SqL.of k2⟩,QV k2 (QF (by rw [Fo];omega)) ?_⟩;have tk:((rt part a).take k).map V.str++[.str (part.getD ((a+k) % part.length) Str.empty)]=((rt part a).take (k+1)).map V.str:=by rw [FA,hk',Fz];rfl
  rw [tk];have g3:Same H (upd H2 pt (.lst (((rt part a).take (k+1)).map V.str))):=QB g2 hpt;have k3:(upd H2 pt (.lst (((rt part a).take (k+1)).map V.str))) pt=some (.lst (((rt part a).take (k+1)).map V.str)):=Qe;generalize upd H2 pt (.lst (((rt part a).take (k+1)).map V.str))=H3 at *;have hj:=Gk (d:=Str.empty) (a+k) pne;obtain ⟨s1,s2⟩:=hp _ (FD hj);refine ⟨d,l,_,kn,nms,nb,rfl,rfl,rfl,hN.same g3,s1,s2,g3.seq hl,fun p4 hp4=>?_⟩;rw [hfil _ _ hj,Nat.mod_add_mod];have g4:=Qi hp4 (.lst (([part.getD ((a+k+1) % part.length) Str.empty]).map V.str));refine Zj (SqL.of Qe) (v:=.str (part.getD ((a+k+1) % part.length) Str.empty)) rfl ?_;refine ⟨n-1,by omega,k+1,rfl,g3.trans g4,g4 _ _ k3,by omega⟩
 ·have ek:k=part.length:=by omega
  subst ek;have yin:part.getD ((a+part.length) % part.length) Str.empty∈(rt part a).take part.length:=by
   rw [show (rt part a).take part.length=rt part a by rw [<-Wx (a:=a)];exact FC];rw [Nat.add_mod_right,Da al,We ha];exact (Rh al).mem_iff.mpr (FD ha)
  rw [Fl (fun h=>h yin)];walk_at "go";rw [show (rt part a).take part.length=rt part a by rw [<-Wx (a:=a)];exact FC] at k2;exact q pt H2 hpt g2 k2
inductive φpull (K:W.Frag) (t:Adr) (x y:V) (H:Hp) (Q:VK):Prop
 | mk (p l:Addr) (rs:List Rw) (ts:List Str) (h1:x=.ref p) (h2:y=.ref l) (h3:Of K t H rs p) (h4:SqL K H l (ts.map V.str)) (h5:Rg rs ts) (h6:∀ z H',Same H H'->Fq K H' (ZU rs ts ts.length) z->Q z H'):φpull K t x y H Q
theorem Ut (T:Tx K mg t) (F:Fun K "pull_of" "pull_of" Yl f fd) (dG:Cal P w K mg base 3 "times" ["one","other"] (Sp2M (Qop K (·*·)))) (eT:Cal P w K mg base 5 "count_rate" ["kind","title"] (Sp2M (φcr K t.aE))) (eU:UV P w K mg base 3 t.aE "greatest_rate" ["self"] (Sp1M (φgre K t.aE))) (bT:UV P w K mg base 1 t.aL "kind" ["self","title"] (Sp2M (φokind K t))):FnOk P w K mg base CX0 6 f fd ["office","titles"] (Sp2 (φpull K t)):=by
 refine F.ok sc_pull_of ZV (fun cdv A outer s H vs Q E hr h=>?_);obtain ⟨_,_,rfl,p,l,rs,ts,rfl,rfl,hO,hl,hRg,q⟩:=h;have tl8:=hRg.2.1;refine ⟨_,((Qc (Qk (i:=2) sc_pull_of.nd rfl (Or.inl rfl) (GU T.bD))
   (Qc (QG FL rfl (L7 K rfl rfl T.gL (Qa (pu 1) Qd)) (pgK (n:=2) K rfl rfl (QA (Ql (i:=3) sc_pull_of.nd rfl (Or.inl rfl)) (QA (Ql (i:=4) sc_pull_of.nd rfl (Or.inl rfl)) Q7)))
   (Qc (Qk (i:=5) sc_pull_of.nd rfl (Or.inl rfl) (Mb bT (hrm hr) T.aU (pu 0) (Qa (pu 4) Qd)))
   (Qc (Qk (i:=6) sc_pull_of.nd rfl (Or.inl rfl) (Qp (ixK K rfl) (pu 1) (Qg Qt (Qg Qv (pu 3) Qb) (Qo (YA K rfl) (by rfl) T.aP Eh (Qa (pu 1) Qd))) (fun _ _=>rfl)))
   (Qf (Qk (i:=2) sc_pull_of.nd rfl (Or.inl rfl) (Qs dG (hrm hr) rfl (Qa (pu 2) (Qa (Qs dG (hrm hr) rfl (Qa (Ga eU (hrm hr) T.aK (pu 5)) (Qa (Qs eT (hrm hr) rfl (Qa (pu 5) (Qa (pu 6) Qd))) Qd))) Qd))))))))
   (Qf (Qr (pu 2)))))),?_⟩
 walk_at "go";simp only [LC];walk_at "go";refine ⟨l,rfl,⟨_,hl⟩,?_⟩;refine HU (xs:=ts.map V.str) (fun i σ' H'=>∃ (z:V) (x3 x4 x5 x6:Option V),σ'=[some (.ref p),some (.ref l),some z,x3,x4,x5,x6]/\Same H H'/\Fq K H' (ZU rs ts i) z) ⟨_,none,none,none,none,rfl,Same.refl _,T.bD.fq1⟩ (fun i σ' H' _ h=>by obtain ⟨_,_,_,_,_,_,g,_⟩:=h;exact g.seq hl) ?_ ?_
 ·rintro i v _ H2 p2 hv ⟨z,x3,x4,x5,x6,rfl,g2,hF⟩ hp2;rw [Fx] at hv;obtain ⟨s,hs,rfl⟩:=FO.mp hv;have hi:=Qw hs;generalize e_n3:upd H2 p2 _=H3 at *;obtain ⟨n3,k_n3⟩:=nwH hp2 e_n3;have hT:SqT K H3 p2 [.int (i:Nat),.str s]:=SqT.of k_n3;have g3:=g2.trans n3;have hF3:=hF.same n3;refine ZG hT rfl ?_;walk_at "go";obtain ⟨dx,fs,lk,vs0,op,of,ok,oA,onn⟩:=id hO;refine Lz (g3 _ _ op) onn.2 ?_;walk_at "go";obtain ⟨r,rr,r1,r2,r3,r4,r5,r6,r7,_⟩:=hRg.2.2 i s hs;refine ⟨p,rs,s,r,rfl,hO.same g3,rfl,r1,fun v hv=>?_⟩;walk_at "go";refine ZL (g3.seq hl) ?_;rw [Fo];walk_at "go";have eu:((i:Int)+1) % (ts.length:Int)=(((i+1) % ts.length:Nat):Int):=by rw [Int.natCast_emod,Int.natCast_add];rfl
  refine ⟨by omega,?_⟩;rw [eu];have hy:=Gk (d:=Str.empty) (i+1) hRg.1;refine Zj (g3.seq hl) (v:=.str (ts.getD ((i+1) % ts.length) Str.empty)) (QP (by rw [Fx,hy];rfl)) ?_;walk_at "go";obtain ⟨kp,kdx,kfs,kc,ko,rfl,h1,_,_,_,_,⟨_,h6⟩,_⟩:=id hv;refine Lz h1 h6 ?_;walk_at "go";obtain ⟨gr0,grB,_⟩:=MG r5;refine ⟨r,hv,r5,r6,fun z1 f1=>⟨r,_,rr,hv,rfl,r2,r3,r7,fun z2 H4 g4 f2=>?_⟩⟩;refine ⟨gr r.os,rr,14,14,f1.same g4,f2,grB,r3,by decide,fun z3 H5 g5 f3=>?_⟩;obtain ⟨_,_,_,pB⟩:=Y4 hRg i (by omega);have g45:=g4.trans g5;refine ⟨ZU rs ts i,gr r.os*rr,28*i+1,28,hF3.same g45,f3,pB,(grB.mul r3).mono (by decide),by omega,fun z4 H6 g6 f4=>?_⟩;refine ⟨_,_,_,_,_,rfl,g3.trans (g45.trans g6),?_⟩;have e:ZU rs ts (i+1)=ZU rs ts i*(gr r.os*rr):=by
   show ZU rs ts i*rwt rs (ts.getD i Str.empty) (ts.getD ((i+1) % ts.length) Str.empty)=_;rw [We hs,Ul r1 r2]
  rw [e];exact f4
 ·rintro _ H2 ⟨z,x3,x4,x5,x6,rfl,g2,hF⟩;rw [Fo] at hF;walk_at "go";exact q z H2 g2 hF
theorem XB.back {ts:List Str}{z:Option Rat}(h:XB K H1 H' d ts z) (g:Same H H1):XB K H H' d ts z:=by
 obtain ⟨l,fs,h1,h2,h3,h4⟩:=h;exact ⟨l,fs,h1,h2,g.free h3,h4⟩
inductive φchk (K:W.Frag) (t:Adr) (x y z:V) (H:Hp) (Q:VK) (E:XK):Prop
 | mk (p l:Addr) (rs:List Rw) (ts:List Str) (r:Rat) (m:Nat) (h1:x=.ref p) (h2:y=.ref l) (h3:Of K t H rs p) (h4:H l=some (.lst (ts.map V.str))) (h5:Rg rs ts) (h6:Fq K H r z) (h7:RB m r) (h8:m<=1000)
   (h9:ts.any (Zs rs)=false->¬ (ts.length % 2=0/\¬ r<1)->∀ H',Same H H'->Q .non H')
   (h10:ts.any (Zs rs)=true->∀ d H',Same H H'->XB K H H' d ts none->E (.ref t.aB) (some d) H')
   (h11:ts.any (Zs rs)=false->ts.length % 2=0->¬ r<1->∀ d H',Same H H'->XB K H H' d ts (some r)->E (.ref t.aA) (some d) H'):φchk K t x y z H Q E
theorem JZ (T:Tx K mg t) (F:Fun K "check_ring" "check_ring" Z9 f fd) (bE:Cal P w K mg base 1 "below" ["one","other"] (Sp2M (Qlt K))) (eV:Ls P w K mg base 1 t.aA ["self","titles","pull"] (Sp3M (φwidI K t.aA))) (eW:Ls P w K mg base 1 t.aB ["self","titles"] (Sp2M (φtitI K t.aB))) (bT:UV P w K mg base 1 t.aL "kind" ["self","title"] (Sp2M (φokind K t))):FnOk P w K mg base (CXd P w) 3 f fd ["office","titles","pull"] (Rp3 (φchk K t)):=by
 refine F.okD sc_check_ring SD (fun cdv A outer s H vs Q E hr h=>?_);obtain ⟨_,_,_,rfl,p,l,rs,ts,r,m,rfl,rfl,hO,hl,hRg,hF,hB,hm,q,qj,qw⟩:=h;have tl8:=hRg.2.1;obtain ⟨dx,fs,lk,vs0,op,of,ok,oA,onn⟩:=id hO;refine ⟨_,((Qc (Y5 (i:=3) sc_check_ring.nd rfl (Or.inl rfl) (N:=["title","office"]) (caps:=[none,some 0]) rfl ZR (piK K rfl (pu 1)) (fun _ _ _ _=>Ql (i:=0) (show (["title","office"]:List Str).Nodup by decide +kernel) rfl (Or.inl rfl) (.inr rfl)) (fun _ _ _ _=>QW) (fun _ _ _ _=>(Mb bT (hrm hr) T.aU (pu 1) (Qa (pu 0) Qd))))
   (Qc (QL (Zx (Qo (Nv K rfl rfl) (by rfl) T.gK boot_any (Qa (Q8 (N:=["kind"]) (caps:=[none]) rfl ZR (piK K rfl (pu 3)) (fun _ _ _ _=>Ql (i:=0) (show (["kind"]:List Str).Nodup by decide +kernel) rfl (Or.inl rfl) (.inr rfl)) (fun _ _ _ _=>QW) (fun _ _ _ _=>(Pl (Zl Y8 (Ze K rfl (pu 0)) Zh (Qu _)) (Ju (Zl Y8 (Ze K rfl (pu 0)) Zh (Qu _)))))) Qd))) (Qf (Wz Uc rfl rfl eW (hrm hr) rfl T.cV (Qa (pu 1) Qd))) Qx)
   (Qf (QL (PW.pt (Xf (Qq (eqM K rfl hr.units) (Qg Qt (Qo (YA K rfl) (by rfl) T.aP Eh (Qa (pu 1) Qd)) Qb) Qb (Qu _)) (ZP (ZW (Zx (Qs bE (hrm hr) rfl (Qa (pu 2) (Qa (GU T.bD) Qd)))))))) (Qf (Wz Uc rfl rfl eV (hrm hr) rfl T.cW (Qa (pu 1) (Qa (pu 2) Qd)))) Qx))))),?_⟩
 walk_at "go";simp only [QU];walk_at "go";refine ⟨l,rfl,⟨_,SqL.of hl⟩,Zy (xs:=ts.map V.str) (fun i acc σ' H'=>∃ x0:Option V,σ'=[x0,some (.ref p)]/\H'=H/\All2 (fun (s:Str) v=>∃ r,(rs.find? fun r=>decide (r.nm=s))=some r/\Kn K t.aE H r v) (ts.take i) acc) ⟨none,rfl,rfl,All2.nil⟩ (fun i acc σ' H' _ h=>by obtain ⟨_,_,rfl,_⟩:=h;exact SqL.of hl) (by rw [Fo];omega) ?_ ?_⟩
 ·rintro i v acc _ H2 hv hacc ⟨x0,rfl,e2,hA⟩;rw [e2];rw [Fx] at hv;obtain ⟨s,hs,rfl⟩:=FO.mp hv;have hi:i<(ts.map V.str).length:=by rw [Fo];exact Qw hs
  simp only [ZK];walk_at "go";refine Lz op onn.2 ?_;walk_at "go";obtain ⟨r,rr,r1,_⟩:=hRg.2.2 i s hs;refine ⟨p,rs,s,r,rfl,hO,rfl,r1,fun v hv=>?_⟩;refine CN.mk hi (by rw [Fv,FH];omega) ⟨_,rfl,(by first | rfl | trivial),?_⟩;rw [FA,hs];exact hA.snoc ⟨r,r1,hv⟩
 ·rintro acc _ H2 ⟨x0,rfl,e2,hA⟩ l3 hl3;rw [e2] at hl3 ⊢;rw [Fo,FC] at hA;have al:=hA.1;generalize e_g3:upd H l3 _=H3 at *;obtain ⟨g3,k3⟩:=nwH hl3 e_g3;refine ⟨l3,rfl,⟨_,SqL.of k3⟩,Zy (xs:=acc) (fun i acc2 σ' H'=>∃ x0:Option V,σ'=[x0]/\H'=H3/\acc2=((ts.take i).map (Zs rs)).map V.bl) ⟨none,rfl,rfl,rfl⟩ (fun i acc σ' H' _ h=>by obtain ⟨_,_,rfl,_⟩:=h;exact SqL.of k3) (by omega) ?_ ?_⟩
  ·rintro i v acc2 _ H4 hv hacc ⟨x0,rfl,e4,rfl⟩;rw [e4];obtain ⟨s,hs,r,r1,hKn⟩:=hA.getV hv;obtain ⟨kp,kdx,kfs,kc,ko,rfl,h1,_,_,_,h5,⟨h6,_⟩,_⟩:=hKn.same g3;have ej:Zs rs s=(r.un.isSome||r.lm.isSome):=by unfold Zs;rw [r1]
   have put:∀ {bb:Bool},bb=Zs rs s->CN (fun i acc2 σ' H'=>∃ x0:Option V,σ'=[x0]/\H'=H3/\acc2=((ts.take i).map (Zs rs)).map V.bl) acc.length i (((ts.take i).map (Zs rs)).map V.bl++[V.bl bb]) [some (.ref kp)] H3:=fun {bb} e=>by
    refine CN.mk (Qw hv) (by rw [Fv,FH];omega) ⟨_,rfl,(by first | rfl | trivial),?_⟩;rw [FA,hs,Fz,Fz,e];rfl
   simp only [ZK];walk_at "go";refine YR h1 T.aK T.dU h6 ?_;walk_at "go";refine ⟨trivial,?_⟩;cases hu:r.un with
   | some u=>
    rw [hu] at ej;refine (Fs ?_).mpr ?_
    ·exact fun h=>nomatch h
    ·refine put ?_;rw [ej];rfl
   | none=>
    rw [hu] at ej;rw [Fl (fun h=>h rfl)];refine YR h1 T.aK T.dS h5 ⟨trivial,?_⟩;refine put ?_;rw [ej];cases r.lm with
    | none=>rfl
    | some _=>rfl
  ·rintro acc2 _ H4 ⟨x0,rfl,e4,rfl⟩ l5 hl5;rw [e4] at hl5 ⊢;rw [<-al,FC];refine ⟨l5,ts.map (Zs rs),rfl,SqL.of Qe,?_⟩;generalize e_g5:upd H3 l5 _=H5 at *;obtain ⟨g5,k_g5⟩:=nwH hl5 e_g5;have en:(ts.map (Zs rs)).any id=ts.any (Zs rs):=by rw [List.any_map];rfl
   have g35:=g3.trans g5;rw [en];cases hj:ts.any (Zs rs) with
   | true=>
    walk_at "go";simp only [Jm];walk_at "go";exact NC (g35 _ _ hl) fun d H' g' x'=>qj hj d H' (g35.trans g') (x'.back g35)
   | false=>
    walk_at "go";refine ZL (SqL.of (g35 _ _ hl)) ?_;rw [Fo];walk_at "go";have ev:((ts.length:Int) % 2=0)↔ts.length % 2=0:=by omega
    refine ⟨trivial,QK (fun c=>?_) (fun c=>q hj (fun h=>c (ev.mpr h.1)) _ g35)⟩;refine ⟨r,1,m,1,hF.same g35,T.bD.fq1,hB,RB.one (by decide),by omega,?_⟩;walk_at "go";by_cases lt:r<1
    ·rw [Fl (fun h=>h lt)];try walk_at "go"
     exact q hj (fun h=>h.2 lt) _ g35
    ·rw [Fs lt];try walk_at "go"
     simp only [Jm];walk_at "go";exact RO (g35 _ _ hl) (hF.same g35) fun d H' g' x'=>qw hj (ev.mp c) lt d H' (g35.trans g') (x'.back g35)
def BT.qo:BT->Option Rat
 | .wd _ q=>some q
 | _=>none
def BT.cl (t:Adr):BT->Addr
 | .tg=>t.aD
 | .jp _=>t.aB
 | _=>t.aA
inductive φblk (K:W.Frag) (t:Adr) (x y z:V) (H:Hp) (Q:VK) (E:XK):Prop
 | mk (p lk d:Addr) (rs:List Rw) (gg:Str->Nat) (f:Str) (kn:List Str) (h1:x=.ref p) (h2:y=.ref lk) (h3:z=.ref d) (h4:Of K t H rs p) (h5:ROk rs) (h6:Gq (nbR rs) (rs.map (·.nm)) gg) (h0:kOf gg (rs.map (·.nm)) (gg f)=kn) (h7:H lk=some (.lst (kn.map V.str))) (h8:Nb H d (rs.map (·.nm)) (nbR rs)) (h9:f∈rs.map (·.nm)) (h10:isF gg (rs.map (·.nm)) f=true)
   (h13:(bt rs kn).good=true->∀ b q z H',H b=none->(q=lk∨H q=none)->Same H H'->H' b=some (.tup [.str (bt rs kn).wd1,.ref q,z])->H' q=some (.lst (((bt rs kn).ts kn).map V.str))->Fq K H' (bt rs kn).q z->Q (.ref b) H')
   (h14:(bt rs kn).good=false->∀ d H',Same H H'->XB K H H' d ((bt rs kn).ts kn) (bt rs kn).qo->E (.ref ((bt rs kn).cl t)) (some d) H'):φblk K t x y z H Q E
theorem VP (T:Tx K mg t) (F:Fun K "block_of" "block_of" XX f fd) (eX:NA P w K mg base 3 "check_ring" ["office","titles","pull"] (Rp3M (φchk K t))) (eY:Cal P w K mg base 6 "pull_of" ["office","titles"] (Sp2M (φpull K t))) (eZ:Cal P w K mg base 2 "ring_from" ["first","leaning","knot"] (Sp3M (φring K))) (fG:Ls P w K mg base 1 t.aD ["self","titles"] (Sp2M (φtitI K t.aD))) (bF:Cal P w K mg base 1 "counted_within" ["leaning","title","knot"] (Sp3M (φcw K))):FnOk P w K mg base (CXd P w) 7 f fd ["office","knot","leaning"] (Rp3 (φblk K t)):=by
 refine F.okD sc_block_of SD (fun cdv A outer s H vs Q E hr h=>?_);obtain ⟨_,_,_,rfl,p,lk,d,rs,gg,f,kn,rfl,rfl,rfl,hO,hRO,G,hkn,hk,hN,hfn,hf,q,qe⟩:=h;have hRs:=hRO.rw;have hle:=hRs.le;have nbn:=hRs.nb;obtain ⟨kt,hkt⟩:=XQ hf;have ring:=fun h1 h2=>KL G hfn hf h1 h2
 have rgof:=fun h1 h2=>NX hRO G hfn hf h1 h2
 rw [hkn] at hkt ring rgof;have knm:∀ s∈kn,s∈rs.map (·.nm):=fun s hs=>by rw [<-hkn] at hs;exact (kOf_mem.mp hs).1
 have kl:kn.length<=8:=by
  rw [<-hkn];exact FQ (Ey _ _) (by rw [Fo];exact hle)
 refine ⟨_,((Qc (Qk (i:=3) sc_block_of.nd rfl (Or.inl rfl) (Qo (Ku K rfl rfl) (by rfl) T.dI boot_max (Qa (Q8 (N:=["title","leaning","knot"]) (caps:=[none,some 2,some 1]) rfl ZR (piK K rfl (pu 1)) (fun _ _ _ _=>Ql (i:=0) (show (["title","leaning","knot"]:List Str).Nodup by decide +kernel) rfl (Or.inl rfl) (.inr rfl)) (fun _ _ _ _=>QW) (fun _ _ _ _=>(Qo (YA K rfl) (by rfl) T.aP Eh (Qa (Qs bF (hrm hr) rfl (Qa (pu 1) (Qa (pu 0) (Qa (pu 2) Qd)))) Qd)))) Qd)))
   (Qc (QL (Qq Us (pu 3) Qb (Qu _)) (Qf (Wz Uc rfl rfl fG (hrm hr) rfl T.cU (Qa (pu 1) Qd))) Qx)
   (Qc (QL (Qq (eqM K rfl hr.units) (pu 3) Qb (Qu _)) (Qf (Qr (QE (Qa QR (Qa (pu 1) (Qa (GU T.bC) Qd)))))) Qx)
   (Qc (Qk (i:=4) sc_block_of.nd rfl (Or.inl rfl) (Qs eZ (hrm hr) rfl (Qa (Qp (ixK K rfl) (pu 1) Qb (fun _ _=>rfl)) (Qa (pu 2) (Qa (pu 1) Qd)))))
   (Qc (Qk (i:=5) sc_block_of.nd rfl (Or.inl rfl) (Qs eY (hrm hr) rfl (Qa (pu 0) (Qa (pu 4) Qd))))
   (Qc (QS (Gc eX (hrm hr) rfl (Rm fun _ _ _ h=>h) (Qa (pu 0) (Qa (pu 4) (Qa (pu 5) Qd)))))
   (Qf (Qr (QE (Qa QR (Qa (pu 4) (Qa (pu 5) Qd))))))))))))),?_⟩
 walk_at "go";simp only [QU];walk_at "go";refine ⟨lk,rfl,⟨_,SqL.of hk⟩,Zy (xs:=kn.map V.str) (fun i acc σ' H'=>∃ x0:Option V,σ'=[x0,some (.ref d),some (.ref lk)]/\Same H H'/\acc=((kn.take i).map fun s=>((wi (nbR rs) kn s).length:Int)).map V.int) ⟨none,rfl,Same.refl _,rfl⟩ (fun i acc σ' H' _ h=>by obtain ⟨_,_,g,_⟩:=h;exact SqL.of (g _ _ hk)) (by rw [Fo];omega) ?_ ?_⟩
 ·rintro i v acc _ H2 hv hacc ⟨x0,rfl,g2,rfl⟩;rw [Fx] at hv;obtain ⟨s,hs,rfl⟩:=FO.mp hv;have hi:i<(kn.map V.str).length:=by rw [Fo];exact Qw hs
  have sm:=FD hs;simp only [ZK];walk_at "go";refine ⟨d,lk,s,kn,rs.map (·.nm),nbR rs,rfl,rfl,rfl,hN.same g2,knm s sm,(nbn s (knm s sm)).2.1,SqL.of (g2 _ _ hk),fun p hp2=>?_⟩;refine ZL (SqL.of Qe) ?_;have el:(((((nbR rs s).filter fun y=>decide (y∈kn)).map V.str).length:Nat):Int)=((wi (nbR rs) kn s).length:Int):=by rw [Fo];rfl
  rw [el];refine CN.mk hi (by rw [Fv,FH];omega) ⟨_,rfl,g2.trans (Qi hp2 _),?_⟩;rw [FA,hs,Fz,Fz];rfl
 ·rintro acc _ H2 ⟨x0,rfl,g2,rfl⟩ p2 hp2;rw [Fo,FC];have g3:=g2.trans (Qi hp2 (.lst ((kn.map fun s=>((wi (nbR rs) kn s).length:Int)).map V.int)));refine ⟨p2,_,rfl,SqL.of Qe,by rw [Fo,hkt];simp,fun M hM hmax=>?_⟩;generalize upd H2 p2 (.lst ((kn.map fun s=>((wi (nbR rs) kn s).length:Int)).map V.int))=H3 at *;obtain ⟨s,hs,eM⟩:=FK.mp hM;have hmx:∀ u∈kn,((wi (nbR rs) kn u).length:Int)<=M:=fun u hu=>hmax _ (FK.mpr ⟨u,hu,rfl⟩)
  walk_at "go";refine QK (fun c=>?_) (fun c=>?_)
  ·have e:=Lg (rs:=rs) hs (by omega);rw [e] at qe;simp only [Jm];walk_at "go";exact NC (g3 _ _ hk) fun d H' g' x'=>qe rfl d H' (g3.trans g') (x'.back g3)
  refine QK (fun c0=>?_) (fun c0=>?_)
  ·have e:=Lj (rs:=rs) (kn:=kn) fun u hu=>Dq.mp (by have:=hmx u hu;omega)
   rw [e] at q;refine ⟨by decide,fun p4 hp4=>?_⟩;exact q rfl p4 lk _ _ (g3.free hp4) (.inl rfl) (g3.trans (Qi hp4 _)) Qe ((g3.trans (Qi hp4 _)) _ _ hk) T.bC.fq0
  have b1:∀ u∈kn,(wi (nbR rs) kn u).length<=1:=fun u hu=>by have:=hmx u hu;omega
  have b2:∃ u∈kn,wi (nbR rs) kn u≠[]:=⟨s,hs,fun e=>by rw [e] at eM;exact c0 eM.symm⟩
  obtain ⟨r1,r2,r3,r4,r5⟩:=ring b1 b2;have rg:=rgof b1 b2;refine Zj (SqL.of (g3 _ _ hk)) (v:=.str f) (QP (j:=0) (by rw [hkt];rfl)) ?_;walk_at "go";have r0:rt (rgo (nbR rs) kn) 0=rgo (nbR rs) kn:=by
   rw [NW (DG.mpr rg.1)];simp
  refine ⟨d,lk,kn,rs.map (·.nm),rgo (nbR rs) kn,nbR rs,0,f,rfl,rfl,rfl,hN.same g3,fun u hu=>⟨knm u ((r2 u).mp hu),(nbn u (knm u ((r2 u).mp hu))).2.1⟩,SqL.of (g3 _ _ hk),r1,by omega,r3,r5,fun lr H4 hlr g4 k4=>?_⟩;rw [r0] at k4;have g04:=g3.trans g4;have rl8:=rg.2.1;obtain ⟨_,_,_,plB⟩:=Y4 rg _ (Ft _);walk_at "go";refine ⟨p,lr,rs,rgo (nbR rs) kn,rfl,rfl,hO.same g04,SqL.of k4,rg,fun z H5 g5 f5=>?_⟩;walk_at "go";have g05:=g04.trans g5;refine ⟨p,lr,rs,rgo (nbR rs) kn,_,_,rfl,rfl,hO.same g05,g5 _ _ k4,rg,f5,plB,by omega,fun hj hn H6 g6=>?_,fun hj d H6 g6 x6=>?_,fun hj h2 hw d H6 g6 x6=>?_⟩
  ·have e:=Lh b1 b2 hj hn;rw [e] at q;walk_at "go";refine ⟨by decide,fun p7 hp7=>?_⟩;have g46:=g5.trans g6;have n7:=Qi hp7 (.tup [.str (Str.ofString "ring"),.ref lr,z]);exact q rfl p7 lr z _ ((g04.trans g46).free hp7) (.inr (g3.free hlr)) ((g04.trans g46).trans n7) Qe ((g46.trans n7) _ _ k4) (f5.same (g6.trans n7))
  ·have e:=Li b1 b2 hj;rw [e] at qe;exact qe rfl d H6 (g05.trans g6) (x6.back g05)
  ·have e:=Lf b1 b2 hj h2 hw;rw [e] at qe;exact qe rfl d H6 (g05.trans g6) (x6.back g05)
def BkQ (K:W.Frag) (rs:List Rw) (gg:Str->Nat) (nms:List Str) (H':Hp) (f:Str) (v:V) (N:Addr->Prop):Prop:=∃ b q z,v=V.ref b/\SqT K H' b [.str (bt rs (kOf gg nms (gg f))).wd1,.ref q,z]/\H' q=some (.lst (((bt rs (kOf gg nms (gg f))).ts (kOf gg nms (gg f))).map V.str))/\Fq K H' (bt rs (kOf gg nms (gg f))).q z/\N q
theorem BkQ.same {f:Str}{N:Addr->Prop}(h:BkQ K rs gg nms H f v N) (g:Same H H'):BkQ K rs gg nms H' f v N:=by
 obtain ⟨b,q,z,h1,h4,h5,h6,h7⟩:=h;exact ⟨b,q,z,h1,g.sqT h4,g _ _ h5,h6.same g,h7⟩
theorem BkQ.put {f:Str}{N:Addr->Prop}(h:BkQ K rs gg nms H f v N) (k:H l=some (.lst xs)) (n:∀ q,N q->q≠l):BkQ K rs gg nms (upd H l (.lst ys)) f v N:=by
 obtain ⟨b,q,z,h1,h4,h5,h6,h7⟩:=h;have gw:=Xk (ys:=ys) k;exact ⟨b,q,z,h1,gw.sqT h4,by rw [Qj (n q h7)];exact h5,h6.grow gw,h7⟩
inductive φord (K:W.Frag) (t:Adr) (x:V) (H:Hp) (Q:VK) (E:XK):Prop
 | mk (p:Addr) (rs:List Rw) (gg:Str->Nat) (S:List Str) (en:Option Str) (h1:x=.ref p) (h2:Of K t H rs p) (h3:ROk rs) (h4:Gq (nbR rs) (rs.map (·.nm)) gg) (h5:Fin rs gg S en)
   (h6:en=none->∀ l vs H',H l=none->Same H H'->H' l=some (.lst vs)->All2 (fun f v=>BkQ K rs gg (rs.map (·.nm)) H' f v fun q=>H q=none/\q≠l) S vs->Q (.ref l) H')
   (h7:∀ z,en=some z->∀ d H',Same H H'->XB K H H' d ((bt rs (kOf gg (rs.map (·.nm)) (gg z))).ts (kOf gg (rs.map (·.nm)) (gg z))) (bt rs (kOf gg (rs.map (·.nm)) (gg z))).qo->E (.ref ((bt rs (kOf gg (rs.map (·.nm)) (gg z))).cl t)) (some d) H'):φord K t x H Q E
theorem Fin.all {rs:List Rw}{gg:Str->Nat}{S:List Str}{en:Option Str}(h:Fin rs gg S en) {j:Nat}(hj:j<=S.length) (all:∀ x∈rs.map (·.nm),gg x∈(S.take j).map gg):j=S.length/\en=none:=by
 have e:j=S.length:=by
  rcases EY j S.length with c | c
  ·obtain ⟨z1,_,z2,_⟩:=YH (h.sq j _ (Fu c));exact absurd (all _ z1) z2
  ·omega
 subst e;rw [FC] at all;refine ⟨rfl,?_⟩;cases en with
 | none=>rfl
 | some z=>
  obtain ⟨z1,_,z2,_⟩:=YH (h.bd z rfl).1;exact absurd (all _ z1) z2
theorem Sqs.take {nb:Str->List Str}(h:Sqs nb gg nms S) (j:Nat):Sqs nb gg nms (S.take j):=fun i x hi=>by
 have hl:=Qw hi;rw [FX] at hl;rw [E4,Fs (by omega)] at hi;rw [List.take_take,Nat.min_eq_left (by omega)];exact h i x hi
def plc (gg:Str->Nat) (nms ss:List Str):List Str:=(ss.map fun f=>kOf gg nms (gg f)).flatten
theorem plc_mem:y∈plc gg nms ss↔y∈nms/\gg y∈ss.map gg:=by
 unfold plc;rw [List.mem_flatten];constructor
 ·rintro ⟨l,hl,hy⟩;obtain ⟨f,hf,rfl⟩:=FK.mp hl;obtain ⟨h1,h2⟩:=kOf_mem.mp hy;exact ⟨h1,FK.mpr ⟨f,hf,h2.symm⟩⟩
 ·rintro ⟨h1,h2⟩;obtain ⟨f,hf,e⟩:=FK.mp h2;exact ⟨_,FK.mpr ⟨f,hf,rfl⟩,kOf_mem.mpr ⟨h1,e.symm⟩⟩
theorem Y6 {f:Str}:plc gg nms (ss++[f])=plc gg nms ss++kOf gg nms (gg f):=by
 unfold plc;rw [Fz,Dj];simp
theorem MP {nb:Str->List Str}(G:Gq nb nms gg) {ss:List Str}{i:Nat}:((kOf gg nms i).all fun s=>(nb s).all fun y=>decide (y∈kOf gg nms i++plc gg nms ss))=frI nb gg nms (ss.map gg) i:=by
 unfold frI;rw [F0,Eu,Eu];have key:∀ s∈kOf gg nms i,((nb s).all fun y=>decide (y∈kOf gg nms i++plc gg nms ss))=(nb s).all fun y=>decide (gg y=i∨gg y∈ss.map gg):=fun s hs=>by
  rw [F0,Eu,Eu];refine forall_congr' fun y=>forall_congr' fun hy=>?_
  have yn:=G.cn _ (kOf_mem.mp hs).1 _ hy;rw [Em,Em,FR,kOf_mem,plc_mem];simp only [yn,true_and]
 exact ⟨fun h s hs=>by rw [<-key s hs];exact h s hs,fun h s hs=>by rw [key s hs];exact h s hs⟩
def Kt (gg:Str->Nat) (nms:List Str) (H0 H:Hp) (s:Str) (v:V):Prop:=∃ q,v=V.ref q/\H0 q=none/\H q=some (.lst ((kOf gg nms (gg s)).map V.str))
def OrW (K:W.Frag) (rs:List Rw) (gg:Str->Nat) (S:List Str) (H0 H2:Hp) (p d lp lb:Addr) (nms:List Str) (n:Nat) (σ':L2.St) (H':Hp):Prop:=∃ (j:Nat) (ss:List Str) (lw:Addr) (ws bs:List V) (x5:Option V),(j<=S.length/\ss=S.take j)/\σ'=[some (.ref p),some (.ref d),some (.ref lw),some (.ref lp),some (.ref lb),x5]/\Same H2 H'/\H' lw=some (.lst ws)/\H' lp=some (.lst ((plc gg nms ss).map V.str))/\H' lb=some (.lst bs) /\
 All2 (Kt gg nms H0 H2) ((nms.filter (isF gg nms)).filter fun s=>!decide (gg s∈ss.map gg)) ws/\All2 (fun f v=>BkQ K rs gg nms H' f v fun q=>(q≠lp/\q≠lb)/\H0 q=none) ss bs/\(plc gg nms ss).Nodup/\lw≠lp/\lw≠lb/\n=ws.length
theorem Mi (T:Tx K mg t) (F:Fun K "order" "order" W8 f fd) (fI:NA P w K mg base 7 "block_of" ["office","knot","leaning"] (Rp3M (φblk K t))) (fJ:Cal P w K mg base 2 "is_free" ["knot","leaning","placed"] (Sp3M (φfr K))) (fK:Cal P w K mg base 3 "knots" ["office"] (Sp1M (φkn K t))) (bP:Cal P w K mg base 1 "leans" ["office"] (Sp1M (φleans K t))):FnOk P w K mg base (CXd P w) 8 f fd ["office"] (Rp1 (φord K t)):=by
 refine F.okD sc_order HF (fun cdv A outer s H vs Q E hr h=>?_);obtain ⟨_,rfl,p,rs,gg,S,en,rfl,hO,hRO,G,hFin,q,qe⟩:=h;have hRs:=hRO.rw;have hle:=hRs.le;refine ⟨_,((Qc (Qk (i:=1) sc_order.nd rfl (Or.inr rfl) (Qs bP (hrm hr) rfl (Qa (pu 0) Qd)))
   (Qc (Qk (i:=2) sc_order.nd rfl (Or.inl rfl) (Qs fK (hrm hr) rfl (Qa (pu 0) Qd)))
   (Qc (Qk (i:=3) sc_order.nd rfl (Or.inr rfl) (QC Qd))
   (Qc (Qk (i:=4) sc_order.nd rfl (Or.inl rfl) (QC Qd))
   (Qc (XJ PassesOwn.leaving (ZQ (pu 2) (fun _=>rfl)) (Qc (Qk (i:=5) sc_order.nd rfl (Or.inr rfl) (Qp (ixK K rfl) (Q8 (N:=["one","leaning","placed"]) (caps:=[none,some 1,some 3]) rfl ZR (piK K rfl (pu 2)) (fun _ _ _ _=>Ql (i:=0) (show (["one","leaning","placed"]:List Str).Nodup by decide +kernel) rfl (Or.inl rfl) (.inr rfl)) (fun _ _ _ _=>Xa (Zx (Qs fJ (hrm hr) rfl (Qa (pu 0) (Qa (pu 1) (Qa (pu 2) Qd)))))) (fun _ _ _ _=>(pu 0))) Qb (fun _ _=>rfl)))
   (Qc (QS (Zb K rfl F3 F7 F8 QO (pu 4) (Qa (Gc fI (hrm hr) rfl (Rm fun _ _ _ h=>h) (Qa (pu 0) (Qa (pu 5) (Qa (pu 1) Qd)))) Qd)))
   (Qc (QS (Zb K rfl F3 PySem.F.slot_list_extend PySem.F.type_list_extend G7 (pu 3) (Qa (pu 5) Qd)))
   (Qf (Y5 (i:=2) sc_order.nd rfl (Or.inl rfl) (N:=["one","knot"]) (caps:=[none,some 5]) rfl ZR (piK K rfl (pu 2)) (fun _ _ _ _=>Ql (i:=0) (show (["one","knot"]:List Str).Nodup by decide +kernel) rfl (Or.inl rfl) (.inr rfl)) (fun _ _ _ _=>Xa (Qq (neM K rfl hr.units) (pu 0) (pu 1) (Qu _))) (fun _ _ _ _=>(pu 0))))))))
   (Qf (Qr (pu 4))))))))),?_⟩
 walk_at "go";refine ⟨p,rs,rfl,hO,hRs.nd,by omega,hRs.cl,fun d kvs H1 hd g1 kd lo _=>?_⟩;have hNb:=Jf kd lo hRs.nd;walk_at "go";refine ⟨p,rs,gg,rfl,hO.same g1,hRs,G,fun lw0 ws0 H2 hlw0 g2 kw0 hW0=>?_⟩;have hNb2:=hNb.same g2;have nbn:=hRs.nb;have nml:(rs.map (·.nm)).length=rs.length:=Fo _;have hW0:All2 (Kt gg (rs.map (·.nm)) H H2) ((rs.map (·.nm)).filter (isF gg (rs.map (·.nm)))) ws0:=hW0.imp fun _ _ ⟨a,e,h1,h2⟩=>⟨a,e,g1.free h1,h2⟩
 have gl8:∀ ss,Sqs (nbR rs) gg (rs.map (·.nm)) ss->ss.length<=8:=fun ss h=>by
  have:=ZI (l:=ss) (m:=rs.map (·.nm)) ((List.pairwise_map.mp h.nd).imp fun h e=>h (by rw [e])) fun z hz=>(h.mem hz).1
  omega
 obtain ⟨nms,hns⟩:∃ nms,rs.map (·.nm)=nms:=⟨_,rfl⟩
 have hO2:=hO.same (g1.trans g2);have all:=fun {j}=>hFin.all (j:=j)
 have at':=fun {j z}=>hFin.at (j:=j) (z:=z)
 have sqS:=hFin.sq;rw [hns] at hNb2 nbn nml hW0 gl8 q qe G all at' sqS;have nl:nms.length<=8:=by omega
 have g02:=g1.trans g2;walk_at "go";refine ⟨by decide,fun lp hlp=>⟨by decide,fun lb hlb=>?_⟩⟩;generalize e_n3:upd H2 lp _=H3 at *;obtain ⟨n3,kp3⟩:=nwH hlp e_n3;generalize e_n4:upd H3 lb _=H4 at *;obtain ⟨n4,kb4⟩:=nwH hlb e_n4;have kp4:=n4 _ _ kp3;have lb2:H2 lb=none:=n3.free hlb;have bp:lb≠lp:=QD kp3 hlb;have g24:=n3.trans n4;refine ⟨OrW K rs gg S H H2 p d lp lb nms,⟨_,0,[],lw0,ws0,[],none,⟨FZ _,rfl⟩,rfl,g24,g24 _ _ kw0,kp4,kb4,by rw [List.filter_eq_self.mpr (fun a _=>by simp)];exact hW0,All2.nil,Dw,(QD kw0 hlp).symm,(QD kw0 lb2).symm,rfl⟩,?_⟩;rintro n _ H5 ⟨j,ss,lw,ws,bs,x5,⟨hj,ess⟩,rfl,g5,kw5,kp5,kb5,hW,hB,pnd,lwp,lwb,rfl⟩;have sqs:Sqs (nbR rs) gg nms ss:=by rw [ess];exact sqS.take j
 have sl8:=gl8 ss sqs;have pl8:(plc gg nms ss).length<=8:=by
  have:=ZI pnd (m:=nms) fun z hz=>(plc_mem.mp hz).1
  omega
 generalize hR:ZH (Jo _) _=R;walk_at "go";refine ⟨!ws.isEmpty,.inl ⟨_,SqL.of kw5,rfl⟩,?_⟩;by_cases he:ws=[]
 ·subst he;rw [Fl (by simp)];walk_at "go";have al:∀ x∈nms,gg x∈ss.map gg:=fun x hx=>by
   obtain ⟨f,f1,f2,f3,_⟩:=JB (g:=gg) hx;have e:(nms.filter (isF gg nms)).filter (fun s=>!decide (gg s∈ss.map gg))=[]:=Dq.mp hW.1;have:=DE.mp e f (F1.mpr ⟨f1,f2⟩);rw [<-f3];simpa using this
  rw [ess] at al hB;obtain ⟨ej,ee⟩:=all hj al;rw [ej,FC] at hB;exact q ee lb bs H5 (g02.free lb2) (g02.trans g5) kb5 (hB.imp fun _ _ ⟨b,q,z,h1,h4,h5,h6,h7,h8⟩=>⟨b,q,z,h1,h4,h5,h6,h8,h7.2⟩)
 ·rw [Fs (by simp [he])];refine ⟨_,fun _ _ z=>z,?_⟩;obtain ⟨wn,hwn⟩:∃ wn,(nms.filter (isF gg nms)).filter (fun s=>!decide (gg s∈ss.map gg))=wn:=⟨_,rfl⟩
  rw [hwn] at hW;have hwl:=hW.1;have wl8:wn.length<=8:=by rw [<-hwn];exact FQ (Ey _ _) (FQ (Ey _ _) nl)
  have win:∀ s∈wn,s∈nms/\gg s ∉ ss.map gg/\isF gg nms s=true:=fun s hs=>by
   rw [<-hwn] at hs;have h1:=F1.mp hs;have h2:=F1.mp h1.1;exact ⟨h2.1,by have:=h1.2;rwa [EO,E8] at this,h2.2⟩
  obtain ⟨z,hz⟩:∃ z,pkI (nbR rs) gg nms (ss.map gg)=some z:=by
   cases wn with
   | nil=>exact absurd (Dq.mp hwl.symm) he
   | cons s _=>exact Jt G (win s Ea).1 (win s Ea).2.1
  obtain ⟨zn,zf,zp,za⟩:=YH hz;have sq1:=sqs.snoc hz;have hfz:(wn.filter fun s=>frI (nbR rs) gg nms (ss.map gg) (gg s)).head?=some z:=by
   rw [<-hwn,List.filter_filter,List.filter_filter,List.head?_filter];refine Eq.trans (congrArg (fun f=>nms.find? f) (funext fun s=>?_)) hz;show (_&&(!decide _)&&_)=_;cases isF gg nms s <;> simp [Bool.and_comm]
  simp only [QU];walk_at "go";refine ⟨lw,rfl,⟨_,SqL.of kw5⟩,Zy (xs:=ws) (fun i acc σ' H'=>∃ x0:Option V,σ'=[x0,some (.ref d),some (.ref lp)]/\Same H5 H'/\All2 (Kt gg nms H H2) ((wn.take i).filter fun s=>frI (nbR rs) gg nms (ss.map gg) (gg s)) acc) ⟨none,rfl,Same.refl _,All2.nil⟩ (fun i acc σ' H' _ h=>by obtain ⟨_,_,g,_⟩:=h;exact SqL.of (g _ _ kw5)) (by omega) ?_ ?_⟩
  ·rintro i v acc _ H6 hv hacc ⟨x0,rfl,g6,hA⟩;obtain ⟨s,hs,a,rfl,a1,a2⟩:=hW.getV hv;have hi:=Qw hv;have sn:=(win s (FD hs)).1;have g26:=g5.trans g6;have st:(wn.take (i+1)).filter (fun s=>frI (nbR rs) gg nms (ss.map gg) (gg s))=(wn.take i).filter (fun s=>frI (nbR rs) gg nms (ss.map gg) (gg s))++[s].filter (fun s=>frI (nbR rs) gg nms (ss.map gg) (gg s)):=by rw [FA,hs,ED];rfl
   walk_at "go";have kl8:(kOf gg nms (gg s)).length<=8:=FQ (Ey _ _) nl;refine ⟨a,d,lp,kOf gg nms (gg s),plc gg nms ss,nms,nbR rs,rfl,rfl,rfl,g26 _ _ a2,hNb2.same g26,g6 _ _ kp5,fun y hy=>(kOf_mem.mp hy).1,fun y hy=>(nbn y hy).2.1,by omega,by omega,fun H7 g7=>?_⟩;rw [MP G];walk_at "go";by_cases c:frI (nbR rs) gg nms (ss.map gg) (gg s)=true
   ·rw [Fs c];refine CN.mk hi (by rw [Fv,FH];omega) ⟨_,rfl,g6.trans g7,?_⟩;rw [st,ET (p:=fun s=>frI (nbR rs) gg nms (ss.map gg) (gg s)) c];exact hA.snoc ⟨a,rfl,a1,a2⟩
   ·rw [Fl c];refine CN.mk hi (by omega) ⟨_,rfl,g6.trans g7,?_⟩;rw [st,EU (p:=fun s=>frI (nbR rs) gg nms (ss.map gg) (gg s)) c,E3,Ec];exact hA
  rintro acc _ H6 ⟨x0,rfl,g6,hA⟩ l7 hl7;rw [<-hwl,FC] at hA;obtain ⟨rest,hrest⟩:∃ rest,(wn.filter fun s=>frI (nbR rs) gg nms (ss.map gg) (gg s))=z :: rest:=by
   cases e:wn.filter fun s=>frI (nbR rs) gg nms (ss.map gg) (gg s) with
   | nil=>rw [e] at hfz;cases hfz
   | cons x r=>rw [e] at hfz;cases hfz;exact ⟨r,rfl⟩
  rw [hrest] at hA;obtain ⟨v0,hv0⟩:∃ v0,acc[0]?=some v0:=⟨_,Fu (by rw [<-hA.1];simp)⟩
  obtain ⟨qz,rfl,qz1,qz2⟩:=hA.2 0 z v0 rfl hv0;generalize e_n7:upd H6 l7 _=H7 at *;obtain ⟨n7,k_n7⟩:=nwH hl7 e_n7;refine Zj (SqL.of k_n7) (v:=.ref qz) (QP (j:=0) hv0) ?_;have g57:=g6.trans n7;have g27:=g5.trans g57;subst hR;walk_at "go";refine ⟨.inl ⟨rfl,_,SqL.of (g57 _ _ kb5)⟩,?_⟩;have knz:(kOf gg nms (gg z)).length<=8:=FQ (Ey _ _) nl;have hzj:pkI (nbR rs) gg nms ((S.take j).map gg)=some z:=by rw [<-ess];exact hz
  refine ⟨p,qz,d,rs,gg,z,kOf gg nms (gg z),rfl,rfl,rfl,hO2.same g27,hRO,by rw [hns];exact G,by rw [hns],g27 _ _ qz2,by rw [hns];exact hNb2.same g27,by rw [hns];exact zn,by rw [hns];exact zf,fun hgd b lq zz H8 hb hlq g8 k8 kq8 fz8=>?_,fun hbd dd H8 g8 x8=>?_⟩
  rotate_left
  ·rcases at' hj hzj with ⟨_,h⟩ | ⟨_,ee,_⟩
   ·rw [hbd] at h;cases h
   ·exact qe z ee dd H8 ((g02.trans g27).trans g8) (x8.back (g02.trans g27))
  obtain ⟨hSj,_⟩:S[j]?=some z/\True:=by
   rcases at' hj hzj with ⟨h,_⟩ | ⟨_,_,h⟩
   ·exact ⟨h,trivial⟩
   ·rw [hgd] at h;cases h
  have hj1:j+1<=S.length:=Qw hSj;have ess1:ss++[z]=S.take (j+1):=by rw [FA,hSj,<-ess];rfl
  have g58:=g57.trans g8;have kb8:=g58 _ _ kb5;have kp7:=g57 _ _ kp5;have kb7:=g57 _ _ kb5;have lqp:(lq≠lp/\lq≠lb)/\H lq=none:=by
   rcases hlq with rfl | hlq
   ·exact ⟨⟨(QD qz2 hlp).symm,(QD qz2 lb2).symm⟩,qz1⟩
   ·exact ⟨⟨(fun e=>by rw [e,kp7] at hlq;cases hlq),(fun e=>by rw [e,kb7] at hlq;cases hlq)⟩,(g02.trans g27).free hlq⟩
  have bsl:bs.length<=8:=by rw [<-hB.1];omega
  refine QV kb8 (QF (by omega)) ?_;have g29:Same H2 (upd H8 lb (.lst (bs++[.ref b]))):=QB (g27.trans g8) lb2;have kp9:(upd H8 lb (.lst (bs++[.ref b]))) lp=some (.lst ((plc gg nms ss).map V.str)):=by rw [Qj bp.symm];exact g58 _ _ kp5
  have kw9:(upd H8 lb (.lst (bs++[.ref b]))) lw=some (.lst ws):=by rw [Qj lwb];exact g58 _ _ kw5
  have kb9:(upd H8 lb (.lst (bs++[.ref b]))) lb=some (.lst (bs++[.ref b])):=Qe;have new8:BkQ K rs gg nms H8 z (.ref b) (fun q=>(q≠lp/\q≠lb)/\H q=none):=⟨b,lq,zz,rfl,SqT.of k8,kq8,fz8,lqp⟩
  have hB9:All2 (fun f v=>BkQ K rs gg nms (upd H8 lb (.lst (bs++[.ref b]))) f v fun q=>(q≠lp/\q≠lb)/\H q=none) (ss++[z]) (bs++[.ref b]):=
   (hB.imp fun _ _ h=>(h.same g58).put kb8 fun _ n=>n.1.2).snoc (new8.put kb8 fun _ n=>n.1.2)
  generalize upd H8 lb (.lst (bs++[.ref b]))=H9 at *;have kzl:(kOf gg nms (gg z)).length<=8:=FQ (Ey _ _) nl;refine ⟨.inl ⟨rfl,_,SqL.of kp9⟩,lp,qz,_,_,rfl,rfl,kp9,g29 _ _ qz2,by simp only [Fo];unfold sizeLine;omega,?_⟩;have e10:(plc gg nms ss).map V.str++(kOf gg nms (gg z)).map V.str=(plc gg nms (ss++[z])).map V.str:=by rw [Y6,Fz]
  rw [e10];have pnd1:(plc gg nms (ss++[z])).Nodup:=by
   rw [Y6];refine ER.mpr ⟨pnd,G.nd.sublist Dk,fun a ha b hb e=>?_⟩;subst e;have h1:=(plc_mem.mp ha).2;rw [(kOf_mem.mp hb).2] at h1;exact zp h1
  have g210:Same H2 (upd H9 lp (.lst ((plc gg nms (ss++[z])).map V.str))):=QB g29 hlp;have kp10:(upd H9 lp (.lst ((plc gg nms (ss++[z])).map V.str))) lp=some (.lst ((plc gg nms (ss++[z])).map V.str)):=Qe;have kw10:(upd H9 lp (.lst ((plc gg nms (ss++[z])).map V.str))) lw=some (.lst ws):=by rw [Qj lwp];exact kw9
  have kb10:(upd H9 lp (.lst ((plc gg nms (ss++[z])).map V.str))) lb=some (.lst (bs++[.ref b])):=by rw [Qj bp];exact kb9
  have hB10:All2 (fun f v=>BkQ K rs gg nms (upd H9 lp (.lst ((plc gg nms (ss++[z])).map V.str))) f v fun q=>(q≠lp/\q≠lb)/\H q=none) (ss++[z]) (bs++[.ref b]):=hB9.imp fun _ _ h=>h.put kp9 fun _ n=>n.1.1
  generalize upd H9 lp (.lst ((plc gg nms (ss++[z])).map V.str))=H10 at *;simp only [QU];walk_at "go";refine ⟨lw,rfl,⟨_,SqL.of kw10⟩,Zy (xs:=ws) (fun i acc σ' H'=>∃ x0:Option V,σ'=[x0,some (.ref qz)]/\H'=H10/\All2 (Kt gg nms H H2) ((wn.take i).filter fun s=>!decide (gg s=gg z)) acc) ⟨none,rfl,rfl,All2.nil⟩ (fun i acc σ' H' _ h=>by obtain ⟨_,_,e,_⟩:=h;rw [e];exact SqL.of kw10) (by omega) ?_ ?_⟩
  ·rintro i v acc _ H11 hv hacc ⟨x0,rfl,e11,hA⟩;rw [e11];obtain ⟨s,hs,a,rfl,a1,a2⟩:=hW.getV hv;have hi:=Qw hv;have st:(wn.take (i+1)).filter (fun s=>!decide (gg s=gg z))=(wn.take i).filter (fun s=>!decide (gg s=gg z))++[s].filter (fun s=>!decide (gg s=gg z)):=by rw [FA,hs,ED];rfl
   walk_at "go";refine WW (b:=decide (gg s=gg z)) (ZF (SqL.of (g210 _ _ a2))) (ZF (SqL.of (g210 _ _ qz2))) JG (by rw [Em,<-KB,Gh (win s (FD hs)).1 zn]) ?_;walk_at "go";by_cases c:gg s=gg z
   ·rw [Fl (by simpa using c)];refine CN.mk hi (by omega) ⟨_,rfl,rfl,?_⟩;rw [st,EU (by simpa using c),E3,Ec];exact hA
   ·rw [Fs (by simpa using c)];refine CN.mk hi (by rw [Fv,FH];omega) ⟨_,rfl,rfl,?_⟩;rw [st,ET (by simpa using c)];exact hA.snoc ⟨a,rfl,a1,a2⟩
  ·rintro acc2 _ H11 ⟨x0,rfl,e11,hA2⟩ l12 hl12;rw [e11] at hl12 ⊢;rw [<-hwl,FC] at hA2;have n12:=Qi hl12 (.lst acc2);have zw:z∈wn:=by
    rw [<-hwn];exact F1.mpr ⟨F1.mpr ⟨zn,zf⟩,by rw [EO,E8];exact zp⟩
   have lt:acc2.length<ws.length:=by
    rw [<-hA2.1,<-hwl];exact List.length_filter_lt_length_iff_exists.mpr ⟨z,zw,by simp⟩
   refine ⟨acc2.length,lt,j+1,ss++[z],l12,acc2,_,_,⟨hj1,ess1⟩,rfl,g210.trans n12,Qe,n12 _ _ kp10,n12 _ _ kb10,?_,hB10.imp fun _ _ h=>h.same n12,pnd1,QD kp10 hl12,QD kb10 hl12,rfl⟩;have e:(nms.filter (isF gg nms)).filter (fun s=>!decide (gg s∈(ss++[z]).map gg))=wn.filter fun s=>!decide (gg s=gg z):=by
    rw [<-hwn,List.filter_filter (l:=nms.filter (isF gg nms))];refine List.filter_congr fun s _=>?_
    rw [<-Bool.not_or]
    congr 1
    rw [F0,Fz];simp [or_comm]
   rw [e];exact hA2
local macro_rules | `(tactic| walk_at "dg") => `(tactic| ((try simp only [M4, d_ni', M6, M3, M5, M7, M1, B5]); walk_at "go"))
inductive φreach (K:W.Frag) (x y:V) (H:Hp) (Q:VK):Prop
 | mk (lr:Addr) (rs:List Rw) (vs:List V) (z:Str) (h1:x=.ref lr) (h2:H lr=some (.lst vs)) (h3:All2 (Rr K H) rs vs) (h4:Rows rs) (h5:y=.str z) (h6:z∈rs.map (·.nm))
   (h7:∀ l (kn:List Str) H',H l=none->Same H H'->H' l=some (.lst (kn.map V.str))->kn.Nodup->(∀ x,x∈kn↔Rc (nbR rs) (nbR rs z) x)->kn.length<=60->Q (.ref l) H'):φreach K x y H Q
def Clo (nb:Str->List Str) (kn:List Str):Prop:=∀ x∈kn,∀ y∈nb x,y∈kn
structure Kw (nb:Str->List Str) (S nms kn:List Str):Prop where
 nd:kn.Nodup
 rc:∀ x∈kn,Rc nb S x
 ks:∀ x∈kn,x∈nms
 ss:∀ x∈S,x∈kn
theorem Kw.le {nb:Str->List Str}(h:Kw nb S nms kn):kn.length<=nms.length:=ZI h.nd h.ks
theorem Kw.add {nb:Str->List Str}(h:Kw nb S nms kn) (hx:x∈kn) (hy:y∈nb x) (hn:y∈nms) (c:y ∉ kn):Kw nb S nms (kn++[y]):=by
 refine ⟨?_,fun z hz=>?_,fun z hz=>?_,fun z hz=>Ez _ (h.ss z hz)⟩
 ·refine ER.mpr ⟨h.nd,Dx _ _,fun a ha b hb e=>?_⟩;rw [show b=y from FE.mp hb] at e;exact c (e ▸ ha)
 ·rcases FR.mp hz with hz | hz
  ·exact h.rc z hz
  ·rw [FE.mp hz];exact .step (h.rc x hx) hy
 ·rcases FR.mp hz with hz | hz
  ·exact h.ks z hz
  ·rw [FE.mp hz];exact hn
theorem Kw.all {nb:Str->List Str}(h:Kw nb S nms kn) (c:Clo nb kn) (x:Str):x∈kn↔Rc nb S x:=⟨h.rc x,fun r=>by
 induction r with
 | start hs=>exact h.ss _ hs
 | step _ a ih=>exact c _ ih _ a⟩
theorem full:∀ {kn nms:List Str},kn.Nodup->(∀ x∈kn,x∈nms)->nms.length<=kn.length->∀ y∈nms,y∈kn:=fun {kn nms} nd h hl y hy=>by
 by_cases c:y∈kn
 ·exact c
 ·have:=ZI (l:=y :: kn) (m:=nms) (EB.mpr ⟨c,nd⟩) (fun z hz=>by
   rcases FS.mp hz with rfl | hz
   ·exact hy
   ·exact h z hz)
  simp at this;omega
theorem G9 {r:Rw}(lo:YQ H2 (rs.take i) kvs) (k2:H2 d=some (.dK kvs)) (hr:rs[i]?=some r) (hl:H2 l=none) (g3:Same H2 H4) (k3:H4 l=some (.lst (r.cs.map fun c=>V.str c.1))) :
  YQ (upd H4 d (.dK (kvs++[(Sum.inr r.nm,.ref l)]))) (rs.take (i+1)) (kvs++[(Sum.inr r.nm,.ref l)]):=by
 obtain ⟨kl,ko⟩:=lo;have ld:l≠d:=fun e=>by rw [e,k2] at hl;cases hl
 refine ⟨?_,?_⟩
 ·rw [Fv,kl,FA,hr,Fv];rfl
 ·intro n r' hn;rw [FA,hr] at hn;rcases EY n (rs.take i).length with c | c
  ·rw [Ei c] at hn;obtain ⟨l',h',h''⟩:=ko n r' hn;refine ⟨l',by rw [Ei (by omega)];exact h',?_⟩;have:l'≠d:=fun e=>by rw [e,k2] at h'';cases h''
   rw [Qj this];exact g3 _ _ h''
  ·have hn':n=(rs.take i).length:=by
    have:=Qw hn;rw [Fv] at this;simp at this;simp at c;simp;omega
   subst hn';rw [Ed (Ft _),Er] at hn;cases hn;exact ⟨l,by rw [<-kl,Ed (Ft _),Er];rfl,by rw [Qj ld];exact k3⟩
theorem Ux (T:Tx K mg t) (F:Fun K "_law_reach" "_law_reach" Yp f fd):FnOk P w K mg base CX0 1 f fd ["_law_rows","_law_title"] (Sp2 (φreach K)):=by
 refine F.ok sc_l_reach ZV (fun cdv A outer s H vs Q E hr h=>?_);obtain ⟨_,_,rfl,lr,rs,vs,z,rfl,hlr,hA,hRs,rfl,hz,q⟩:=h;have hle:=hRs.le;have hvl:=hA.1;refine ⟨_,((Qc (Qk (i:=2) sc_l_reach.nd rfl (Or.inl rfl) Z0)
   (Qc (QG FL rfl (piK K rfl (pu 0)) (Ql (i:=3) sc_l_reach.nd rfl (Or.inl rfl))
   (Qf (Xb (Q9 hr) (pu 2) (Qp (ixK K rfl) (pu 3) Qb (fun _ _=>rfl)) (XM (N:=["_law_other","_law_rate_here"]) (caps:=[none,none]) rfl ZR (piK K rfl (Qp (ixK K rfl) (pu 3) Qb (fun _ _=>rfl))) (fun _ _ _ _=>pgK (n:=2) K rfl rfl (QA (Ql (i:=0) (show (["_law_other","_law_rate_here"]:List Str).Nodup by decide +kernel) rfl (Or.inl rfl) (.inr rfl)) (QA (Ql (i:=1) (show (["_law_other","_law_rate_here"]:List Str).Nodup by decide +kernel) rfl (Or.inl rfl) (.inr rfl)) Q7))) (fun _ _ _ _=>QW) (fun _ _ _ _=>(pu 0))) rfl)))
   (Qc (Qk (i:=4) sc_l_reach.nd rfl (Or.inl rfl) (QJ (Zf K rfl) (by rfl) T.aM Eg (Qa (Q4 (Q9 hr) (pu 2) (pu 1) (fun _ _=>rfl)) Qd)))
   (Qc (QG FL rfl (QQ rfl T.aQ (Qa (Qo (YA K rfl) (by rfl) T.aP Eh (Qa (pu 0) Qd)) Qd)) (Ql (i:=5) sc_l_reach.nd rfl (Or.inl rfl))
   (Qf (QG FL rfl (piK K rfl (QJ (Zf K rfl) (by rfl) T.aM Eg (Qa (pu 4) Qd))) (Ql (i:=6) sc_l_reach.nd rfl (Or.inl rfl))
   (Qf (QG FL rfl (piK K rfl (Q4 (Q9 hr) (pu 2) (pu 6) (fun _ _=>rfl))) (Ql (i:=7) sc_l_reach.nd rfl (Or.inl rfl))
   (Qf (QL (Qq (WH K rfl) (pu 7) (pu 4) (by with_unfolding_all rfl)) (Qf (QS (Zb K rfl F3 F7 F8 QO (pu 4) (Qa (pu 7) Qd)))) Qx)))))))
   (Qf (Qr (pu 4)))))))),?_⟩
 generalize hR:ZH (Z4 _ (Zt 4)) _=R;walk_at "go";walk_at "dg";intro d hd;generalize e_g1:upd H d _=H1 at *;obtain ⟨g1,k1⟩:=nwH hd e_g1;refine ⟨lr,rfl,⟨_,SqL.of (g1 _ _ hlr)⟩,?_⟩;refine Xn (xs:=vs) (fun i σ' H'=>∃ (kvs:List (Key×V)) (x3:Option V),σ'=[some (.ref lr),some (.str z),some (.ref d),x3,none,none,none,none]/\Same H H'/\H' d=some (.dK kvs)/\YQ H' (rs.take i) kvs) ⟨[],none,rfl,g1,k1,⟨rfl,fun i r h=>by simp at h⟩⟩ (fun i σ' H' _ h=>by obtain ⟨_,_,_,g,_⟩:=h;exact SqL.of (g _ _ hlr)) ?_ ?_
 ·rintro i v _ H2 hv ⟨kvs,x3,rfl,g2,k2,lo⟩;obtain ⟨r,hr,pr,lc,lo',rfl,hT,⟨cv,kc,hC⟩,_⟩:=hA.getV hv;have hi:=Qw hv;have hT2:=g2.sqT hT;have hcl:cv.length<=60:=by rw [<-hC.1];exact hRs.cl r (FD hr)
  walk_at "go";walk_at "dg";refine ⟨lc,rfl,⟨_,SqL.of (g2 _ _ kc)⟩,Zy (xs:=cv) (fun j acc σ' H'=>∃ x0 x1:Option V,σ'=[x0,x1]/\H'=H2/\acc=(r.cs.take j).map fun c=>V.str c.1) ⟨none,none,rfl,rfl,rfl⟩ (fun j acc σ' H' _ h=>by obtain ⟨_,_,_,rfl,_⟩:=h;exact SqL.of (g2 _ _ kc)) (by omega) ?_ ?_⟩
  ·rintro j u acc _ H3 hu hacc ⟨x0,x1,rfl,e3,rfl⟩;rw [e3];obtain ⟨c,hc,pc,zc,rfl,hTc,hzc⟩:=hC.getV hu;refine ZG (g2.sqT hTc) rfl ?_;walk_at "go";simp only [ZK];walk_at "go";refine CN.mk (Qw hu) (by simp;omega) ⟨_,_,rfl,rfl,?_⟩;rw [FA,hc,Fz];rfl
  ·rintro acc _ H3 ⟨x0,x1,rfl,e3,rfl⟩ l hl;rw [e3] at hl ⊢;rw [<-hC.1,FC];generalize e_g3:upd H2 l _=H4 at *;obtain ⟨g3,k3⟩:=nwH hl e_g3;have nin:r.nm ∉ (rs.take i).map (·.nm):=Xv hRs.nd hr;have klt:kvs.length<=8:=by rw [lo.1];have:=List.length_take_le i rs;omega
   refine ZZ (g3.sqT hT2) rfl ⟨d,_,rfl,DPut.k (k:=Sum.inr r.nm) (g3 _ _ k2) (by unfold sizeLine;omega),?_⟩;rw [Xg _ (Z3 (WJ lo) nin)];exact ⟨_,_,rfl,QB (g2.trans g3) hd,Qe,G9 lo k2 hr hl g3 k3⟩
 ·rintro _ H2 ⟨kvs,x3,rfl,g2,k2,lo⟩;rw [<-hvl,FC] at lo;have hNb:=Jf k2 lo hRs.nd;obtain ⟨kv0,e0,look⟩:=hNb;rw [k2] at e0;cases e0;obtain ⟨n1,n2,n3⟩:=hRs.nb z hz;obtain ⟨lz,vz,kz⟩:=look z hz;subst hR;walk_at "go";walk_at "dg";refine ⟨d,.ref lz,rfl,by have:=DGet.k (k:=Sum.inr z) k2;rw [vz] at this;exact this,?_⟩;refine Z2 kz fun p hp=>?_
  generalize e_g3:upd H2 p _=H3 at *;obtain ⟨g3,k3⟩:=nwH hp e_g3;have K0:Kw (nbR rs) (nbR rs z) (rs.map (·.nm)) (nbR rs z):=⟨n3,fun x hx=>.start hx,n1,fun x hx=>hx⟩
  have nml:(rs.map (·.nm)).length=rs.length:=Fo _;refine ZL (SqL.of ((g2.trans g3) _ _ hlr)) ?_;refine ⟨_,rfl,by omega,by omega,?_⟩;refine J0 (fun i σ' H'=>∃ (x5 x6 x7:Option V) (kn:List Str),σ'=[some (.ref lr),some (.str z),some (.ref d),x3,some (.ref p),x5,x6,x7]/\Same H2 H'/\H' p=some (.lst (kn.map V.str))/\Kw (nbR rs) (nbR rs z) (rs.map (·.nm)) kn/\(Clo (nbR rs) kn∨i<=kn.length)) ⟨none,none,none,_,rfl,g3,k3,K0,.inr (FZ _)⟩ ?_ ?_
  ·rintro i _ H4 hi ⟨x5,x6,x7,kn0,rfl,g4,k4,K4,pr4⟩;have kl0:=K4.le;walk_at "go";walk_at "dg";refine Z2 k4 fun pc hpc=>?_
   generalize e_g5:upd H4 pc _=H5 at *;obtain ⟨g5,k5⟩:=nwH hpc e_g5;have k5p:=g5 _ _ k4;have npc:pc≠p:=QD k4 hpc;have fpc:H2 pc=none:=g4.free hpc;refine ⟨pc,rfl,⟨_,SqL.of k5⟩,Xn (xs:=kn0.map V.str) (fun j σ' H'=>∃ (x6 x7:Option V) (kn:List Str),σ'=[some (.ref lr),some (.str z),some (.ref d),x3,some (.ref p),some (.int (0+(i:Int))),x6,x7]/\Same H2 H'/\H' p=some (.lst (kn.map V.str))/\H' pc=some (.lst (kn0.map V.str))/\Kw (nbR rs) (nbR rs z) (rs.map (·.nm)) kn/\(∀ x∈kn0,x∈kn)/\(∀ x∈kn0.take j,∀ y∈nbR rs x,y∈kn)/\(kn=kn0∨(¬ Clo (nbR rs) kn0/\kn0.length<kn.length))) ⟨x6,x7,kn0,rfl,g4.trans g5,k5p,k5,K4,(fun x h=>h),(fun x h=>by simp at h),.inl rfl⟩ (fun j σ' H' _ h=>by obtain ⟨_,_,_,_,_,_,h,_⟩:=h;exact SqL.of h) ?_ ?_⟩
   ·rintro j v _ H6 hv ⟨x6,x7,kn,rfl,g6,k6,k6c,K6,sub6,cov6,or6⟩;rw [Fx] at hv;obtain ⟨o,ho,rfl⟩:=FO.mp hv;have o0:=FD ho;have on:=K4.ks o o0;obtain ⟨lo2,vo,ko⟩:=look o on;obtain ⟨m1,m2,m3⟩:=hRs.nb o on;have lop:lo2≠p:=fun e=>by rw [e] at ko;rw [hp] at ko;cases ko
    have lopc:lo2≠pc:=fun e=>by rw [e] at ko;rw [fpc] at ko;cases ko
    walk_at "go";walk_at "dg";refine ⟨d,.ref lo2,rfl,by have:=DGet.k (k:=Sum.inr o) (g6 _ _ k2);rw [vo] at this;exact this,lo2,rfl,⟨_,SqL.of (g6 _ _ ko)⟩,?_⟩;refine Xn (xs:=(nbR rs o).map V.str) (fun l σ' H'=>∃ (x7:Option V) (kn:List Str),σ'=[some (.ref lr),some (.str z),some (.ref d),x3,some (.ref p),some (.int (0+(i:Int))),some (.str o),x7]/\Same H2 H'/\H' p=some (.lst (kn.map V.str))/\H' pc=some (.lst (kn0.map V.str))/\Kw (nbR rs) (nbR rs z) (rs.map (·.nm)) kn/\(∀ x∈kn0,x∈kn)/\(∀ x∈kn0.take j,∀ y∈nbR rs x,y∈kn)/\(kn=kn0∨(¬ Clo (nbR rs) kn0/\kn0.length<kn.length))/\∀ y∈(nbR rs o).take l,y∈kn) ⟨_,kn,rfl,g6,k6,k6c,K6,sub6,cov6,or6,fun y h=>by simp at h⟩ (fun l σ' H' _ h=>by obtain ⟨_,_,_,g,_⟩:=h;exact SqL.of (g _ _ ko)) ?_ ?_
    ·rintro l v _ H7 hv ⟨x7,kn,rfl,g7,k7,k7c,K7,sub7,cov7,or7,al7⟩;rw [Fx] at hv;obtain ⟨y,hy,rfl⟩:=FO.mp hv;have yin:=FD hy;have kl7:=K7.le;walk_at "go";refine XF (SqL.of k7) ?_;walk_at "go";have tk:∀ (kn':List Str),(∀ x∈kn,x∈kn')->y∈kn'->∀ u∈(nbR rs o).take (l+1),u∈kn':=fun kn' h1 h2 u hu=>by
      rw [FA,hy] at hu;rcases FR.mp hu with h | h
      ·exact h1 u (al7 u h)
      ·rw [show u=y by simpa using h];exact h2
     by_cases c:y∈kn
     ·rw [Fl (by simp [c])];exact ⟨_,kn,rfl,g7,k7,k7c,K7,sub7,cov7,or7,tk kn (fun x h=>h) c⟩
     ·rw [Fs (by simp [c])];refine ⟨.inl ⟨rfl,_,SqL.of k7⟩,QV k7 (QF (by rw [Fo];omega)) ?_⟩;have up:∀ x∈kn,x∈kn++[y]:=fun x h=>Ez _ h
      refine ⟨_,kn++[y],rfl,QB g7 hp,by rw [Fz];exact Qe,by rw [Qj npc];exact k7c,K7.add (sub7 o o0) yin (m1 y yin) c,fun x hx=>up x (sub7 x hx),fun x hx u hu=>up u (cov7 x hx u hu),.inr ⟨fun hc=>c (sub7 y (hc o o0 y yin)),?_⟩,tk _ up (F4 _ (FE.mpr rfl))⟩;rw [Fv,FH];rcases or7 with e | ⟨_,h⟩
      ·rw [e];exact De _
      ·omega
    ·rintro _ H7 ⟨x7,kn,rfl,g7,k7,k7c,K7,sub7,cov7,or7,al7⟩;rw [Fo,FC] at al7;refine ⟨_,_,kn,rfl,g7,k7,k7c,K7,sub7,fun x hx u hu=>?_,or7⟩;rw [FA,ho] at hx;rcases FR.mp hx with h | h
     ·exact cov7 x h u hu
     ·rw [show x=o by simpa using h] at hu;exact al7 u hu
   ·rintro _ H6 ⟨x6,x7,kn,rfl,g6,k6,k6c,K6,sub6,cov6,or6⟩;rw [Fo,FC] at cov6;refine ⟨_,_,_,kn,rfl,g6,k6,K6,?_⟩;rcases or6 with e | ⟨nc,h⟩
    ·subst e;exact .inl cov6
    ·rcases pr4 with c | c
     ·exact absurd c nc
     ·exact .inr (by omega)
  ·rintro _ H4 ⟨x5,x6,x7,kn,rfl,g4,k4,K4,pr4⟩;have kl0:=K4.le;walk_at "go";refine q p kn H4 (g2.free hp) (g2.trans g4) k4 K4.nd (K4.all ?_) (by omega);rcases pr4 with c | c
   ·exact c
   ·intro x hx y hy;exact full K4.nd K4.ks (by omega) y ((hRs.nb x (K4.ks x hx)).1 y hy)
inductive φlkn (K:W.Frag) (x:V) (H:Hp) (Q:VK):Prop
 | mk (lr:Addr) (rs:List Rw) (vs:List V) (gg:Str->Nat) (h1:x=.ref lr) (h2:H lr=some (.lst vs)) (h3:All2 (Rr K H) rs vs) (h4:Rows rs) (h5:Gq (nbR rs) (rs.map (·.nm)) gg)
   (h6:∀ l ws H',H l=none->Same H H'->H' l=some (.lst ws)->All2 (fun (s:Str) v=>∃ q,v=V.ref q/\H q=none/\H' q=some (.lst ((kOf gg (rs.map (·.nm)) (gg s)).map V.str))) ((rs.map (·.nm)).filter (isF gg (rs.map (·.nm)))) ws->Q (.ref l) H'):φlkn K x H Q
theorem Ro (nd:nms.Nodup) {i:Nat}{s:Str}(hs:nms[i]?=some s):(kOf gg nms (gg s)∈((nms.take i).filter (isF gg nms)).map fun f=>kOf gg nms (gg f))↔isF gg nms s=false:=by
 have sn:=FD hs;constructor
 ·intro h;obtain ⟨f,hf,e⟩:=FK.mp h;obtain ⟨f1,f2⟩:=F1.mp hf;have fn:=List.mem_of_mem_take f1;have eg:=(Gh fn sn).mp e;cases c:isF gg nms s with
  | false=>rfl
  | true=>
   have:=UK f2 c eg;subst this;have no:=Xv (f:=id) (l:=nms) (by rw [Es];exact nd) hs;rw [Es] at no;exact absurd f1 no
 ·intro h;obtain ⟨f,f1,f2,f3,f4⟩:=JB (g:=gg) sn;have ne:f≠s:=fun e=>by rw [e,h] at f2;cases f2
  refine FK.mpr ⟨f,F1.mpr ⟨?_,f2⟩,by rw [f3]⟩;obtain ⟨_,as,bs,e,no⟩:=List.find?_eq_some_iff_append.mp f4;have hi:as.length<i:=by
   rcases Nat.lt_trichotomy i as.length with c | c | c
   ·rw [e,Ei c] at hs;have:=no s (FD hs);simp at this
   ·rw [e,c,Ed (Ft _),Er] at hs;exact absurd (FF hs) ne
   ·exact c
  refine FD (i:=as.length) ?_;rw [E4,Fs hi,e,Ed (Ft _),Er];rfl
theorem Uz (T:Tx K mg t) (F:Fun K "_law_knots" "_law_knots" Yr f fd) (fM:Cal P w K mg base 1 "_law_reach" ["_law_rows","_law_title"] (Sp2M (φreach K))):FnOk P w K mg base CX0 2 f fd ["_law_rows"] (Sp1 (φlkn K)):=by
 refine F.ok sc_l_knots Wq (fun cdv A outer s H vs Q E hr h=>?_);obtain ⟨_,rfl,lr,rs,vs,gg,rfl,hlr,hA,hRs,G,q⟩:=h;have hle:=hRs.le;have hvl:=hA.1;refine ⟨_,((Qc (Y5 (i:=1) sc_l_knots.nd rfl (Or.inl rfl) (N:=["_law_row"]) (caps:=[none]) rfl ZR (piK K rfl (pu 0)) (fun _ _ _ _=>Ql (i:=0) (show (["_law_row"]:List Str).Nodup by decide +kernel) rfl (Or.inl rfl) (.inr rfl)) (fun _ _ _ _=>QW) (fun _ _ _ _=>(Qp (ixK K rfl) (pu 0) Qb (fun _ _=>rfl))))
   (Qc (Qk (i:=2) sc_l_knots.nd rfl (Or.inr rfl) Z0)
   (Qc (QG FL rfl (piK K rfl (pu 1)) (Ql (i:=3) sc_l_knots.nd rfl (Or.inr rfl))
   (Qf (Xb (Q9 hr) (pu 2) (pu 3) (Qs fM (hrm hr) rfl (Qa (pu 0) (Qa (pu 3) Qd))) rfl)))
   (Qc (Qk (i:=4) sc_l_knots.nd rfl (Or.inl rfl) (QC Qd))
   (Qc (QG FL rfl (piK K rfl (pu 1)) (Ql (i:=3) sc_l_knots.nd rfl (Or.inr rfl))
   (Qc (Y5 (i:=5) sc_l_knots.nd rfl (Or.inl rfl) (N:=["_law_one","_law_title","_law_reach_here"]) (caps:=[none,some 3,some 2]) rfl ZR (piK K rfl (pu 1)) (fun _ _ _ _=>Ql (i:=0) (show (["_law_one","_law_title","_law_reach_here"]:List Str).Nodup by decide +kernel) rfl (Or.inl rfl) (.inr rfl)) (fun _ _ _ _=>Xa (PW.pt (X7 (Qq (eqM K rfl hr.units) (pu 0) (pu 1) (Qu _)) (Xy (PW.pt (Xf (Qq (inK K rfl) (pu 0) (Q4 (Q9 hr) (pu 2) (pu 1) (fun _ _=>rfl)) (by with_unfolding_all rfl)) (ZP (Qq (inK K rfl) (pu 1) (Q4 (Q9 hr) (pu 2) (pu 0) (fun _ _=>rfl)) (by with_unfolding_all rfl))))))))) (fun _ _ _ _=>(pu 0)))
   (Qf (QL (Qq (Bm K rfl hr.units) (pu 5) (pu 4) (by with_unfolding_all rfl)) (Qf (QS (Zb K rfl F3 F7 F8 QO (pu 4) (Qa (pu 5) Qd)))) Qx))))
   (Qf (Qr (pu 4))))))))),?_⟩
 generalize hR:ZH (Z4 _ (Zt 4)) _=R;walk_at "go";simp only [QU];walk_at "go";refine ⟨lr,rfl,⟨_,SqL.of hlr⟩,Zy (xs:=vs) (fun i acc σ' H'=>∃ x0:Option V,σ'=[x0]/\H'=H/\acc=((rs.take i).map (·.nm)).map V.str) ⟨none,rfl,rfl,rfl⟩ (fun i acc σ' H' _ h=>by obtain ⟨_,_,rfl,_⟩:=h;exact SqL.of hlr) (by omega) ?_ ?_⟩
 ·rintro i v acc _ H2 hv hacc ⟨x0,rfl,e2,rfl⟩;rw [e2];obtain ⟨r,hr,pr,lc,lo,rfl,hT,hC,hO⟩:=hA.getV hv;simp only [ZK];walk_at "go";try refine ZZ hT rfl ?_
  refine CN.mk (Qw hv) (by rw [Fv,FH];omega) ⟨_,rfl,(by first | rfl | trivial),?_⟩;rw [FA,hr,Fz,Fz];rfl
 rintro acc _ H2 ⟨x0,rfl,e2,rfl⟩ lt hlt;rw [e2] at hlt ⊢;rw [<-hvl,FC];generalize e_n1:upd H lt _=H1 at *;obtain ⟨n1,k1⟩:=nwH hlt e_n1;have nd:=hRs.nd;obtain ⟨nms,hns⟩:∃ nms,rs.map (·.nm)=nms:=⟨_,rfl⟩
 rw [hns] at k1 nd q G;have nl:nms.length<=8:=by rw [<-hns,Fo];exact hle
 walk_at "dg";intro d hd;generalize e_n2:upd H1 d _=H2 at *;obtain ⟨n2,k2⟩:=nwH hd e_n2;have kt2:=n2 _ _ k1;have ltd:lt≠d:=(QD k1 hd).symm;have hd0:H d=none:=n1.free hd;refine ⟨lt,rfl,⟨_,SqL.of kt2⟩,?_⟩;refine Xn (xs:=nms.map V.str) (fun i σ' H'=>∃ (kvs:List (Key×V)) (x3:Option V),σ'=[some (.ref lr),some (.ref lt),some (.ref d),x3,none,none]/\Same H H'/\H' lt=some (.lst (nms.map V.str))/\H' d=some (.dK kvs)/\Lq H' (nms.take i) (nbR rs) kvs) ⟨[],none,rfl,n1.trans n2,kt2,k2,⟨rfl,fun i s h=>by simp at h⟩⟩ (fun i σ' H' _ h=>by obtain ⟨_,_,_,_,h,_⟩:=h;exact SqL.of h) ?_ ?_
 ·rintro i v _ H3 hv ⟨kvs,x3,rfl,g3,l3,d3,lo⟩;rw [Fx] at hv;obtain ⟨s,hs,rfl⟩:=FO.mp hv;have sn:s∈rs.map (·.nm):=by rw [hns];exact FD hs
  have nin:s ∉ nms.take i:=by
   have:=Xv (f:=id) (l:=nms) (by rw [Es];exact nd) hs;rwa [Es] at this
  have kl:=lo.1;rw [FX] at kl;walk_at "go";walk_at "dg";refine ⟨lr,rs,vs,s,rfl,g3 _ _ hlr,hA.imp fun _ _ y=>y.same g3,hRs,rfl,sn,fun l ss H4 hl g4 k4 _ mem _=>?_⟩;refine ⟨d,_,rfl,DPut.k (k:=Sum.inr s) (g4 _ _ d3) (by unfold sizeLine;omega),?_⟩;rw [Xg _ (Z3 (Jg lo) nin)];exact ⟨_,_,rfl,QB (g3.trans g4) hd0,by rw [Qj ltd];exact g4 _ _ l3,Qe,Gf lo d3 hs hl g4 k4 mem⟩
 ·rintro _ H3 ⟨kvs,x3,rfl,g3,l3,d3,lo⟩;rw [Fo,FC] at lo;have keys:=Jg lo;have look:∀ s∈nms,∃ l,∃ ss:List Str,Zd kvs (Sum.inr s:Key)=some (.ref l)/\H3 l=some (.lst (ss.map V.str))/\∀ x,x∈ss↔Rc (nbR rs) (nbR rs s) x:=fun s hs=>by
   obtain ⟨i,hi⟩:=Ee hs;obtain ⟨l,ss,h1,h2,h3⟩:=lo.2 i s hi;exact ⟨l,ss,YS keys nd h1,h2,h3⟩
  subst hR;walk_at "go";refine ⟨by decide,fun pf hpf=>?_⟩;generalize e_n4:upd H3 pf _=H4 at *;obtain ⟨n4,k4⟩:=nwH hpf e_n4;have pf0:H pf=none:=g3.free hpf;have g4:=g3.trans n4;have look4:∀ s∈nms,∃ l,∃ ss:List Str,Zd kvs (Sum.inr s:Key)=some (.ref l)/\del H4 pf l=some (.lst (ss.map V.str))/\∀ x,x∈ss↔Rc (nbR rs) (nbR rs s) x:=fun s hs=>by
   obtain ⟨l,ss,h1,h2,h3⟩:=look s hs;exact ⟨l,ss,h1,Xm (QD h2 hpf).symm (n4 _ _ h2),h3⟩
  have d4:del H4 pf d=some (.dK kvs):=Xm (QD d3 hpf).symm (n4 _ _ d3);have t4:del H4 pf lt=some (.lst (nms.map V.str)):=Xm (QD l3 hpf).symm (n4 _ _ l3);refine ⟨lt,rfl,⟨_,SqL.of (del_sub _ _ t4)⟩,?_⟩;refine Xn (xs:=nms.map V.str) (fun i σ' H'=>∃ (ws:List V) (x3 x5:Option V),σ'=[some (.ref lr),some (.ref lt),some (.ref d),x3,some (.ref pf),x5]/\Same H H'/\Same (del H4 pf) (del H' pf)/\H' pf=some (.lst ws)/\All2 (fun (s:Str) v=>∃ q,v=V.ref q/\H q=none/\q≠pf/\H' q=some (.lst ((kOf gg nms (gg s)).map V.str))) ((nms.take i).filter (isF gg nms)) ws/\ws.length<=i) ⟨[],x3,none,rfl,g4,Same.refl _,k4,All2.nil,Ft _⟩ (fun i σ' H' _ h=>by obtain ⟨_,_,_,_,_,g,_⟩:=h;exact SqL.of (del_sub _ _ (g _ _ t4))) ?_ ?_
  ·rintro i v _ H6 hv ⟨ws,y3,y5,rfl,g6,o6,f6,hW,wl⟩;rw [Fx] at hv;obtain ⟨s,hs,rfl⟩:=FO.mp hv;have hi:=Qw hs;have sn:=FD hs;have t6:=del_sub _ _ (o6 _ _ t4);have d6:=del_sub _ _ (o6 _ _ d4);walk_at "go";simp only [QU];walk_at "go";refine ⟨lt,rfl,⟨_,SqL.of t6⟩,Zy (xs:=nms.map V.str) (fun j acc σ' H'=>∃ x0:Option V,σ'=[x0,some (.str s),some (.ref d)]/\H'=H6/\acc=((nms.take j).filter fun y=>decide (gg y=gg s)).map V.str) ⟨none,rfl,rfl,rfl⟩ (fun j acc σ' H' _ h=>by obtain ⟨_,_,e,_⟩:=h;rw [e];exact SqL.of t6) (by rw [Fo];omega) ?_ ?_⟩
   ·rintro j v acc _ H7 hv hacc ⟨x0,rfl,e7,rfl⟩;rw [e7];rw [Fx] at hv;obtain ⟨y,hy,rfl⟩:=FO.mp hv;have hj:j<(nms.map V.str).length:=by rw [Fo];exact Qw hy
    have yn:=FD hy;have st:(nms.take (j+1)).filter (fun y=>decide (gg y=gg s))=(nms.take j).filter (fun y=>decide (gg y=gg s))++[y].filter (fun y=>decide (gg y=gg s)):=by rw [FA,hy,ED];rfl
    have yes:gg y=gg s->CN (fun j acc σ' H'=>∃ x0:Option V,σ'=[x0,some (.str s),some (.ref d)]/\H'=H6/\acc=((nms.take j).filter fun y=>decide (gg y=gg s)).map V.str) (nms.map V.str).length j (((nms.take j).filter fun y=>decide (gg y=gg s)).map V.str++[V.str y]) [some (.str y),some (.str s),some (.ref d)] H6:=fun c=>by
     refine CN.mk hj (by rw [Fv,FH];omega) ⟨_,rfl,rfl,?_⟩;rw [st];simp [c]
    have no:¬ gg y=gg s->CN (fun j acc σ' H'=>∃ x0:Option V,σ'=[x0,some (.str s),some (.ref d)]/\H'=H6/\acc=((nms.take j).filter fun y=>decide (gg y=gg s)).map V.str) (nms.map V.str).length j (((nms.take j).filter fun y=>decide (gg y=gg s)).map V.str) [some (.str y),some (.str s),some (.ref d)] H6:=fun c=>by
     refine CN.mk hj (by omega) ⟨_,rfl,rfl,?_⟩;rw [st];simp [c]
    walk_at "go";refine QK (fun c=>yes (by rw [c])) (fun c=>?_);have mu:=G.mu sn yn (fun e=>c e.symm);obtain ⟨l,ss,v1,v3,v4⟩:=look4 s sn;obtain ⟨l',ss',w1,w3,w4⟩:=look4 y yn;walk_at "dg";refine ⟨d,.ref l,rfl,by have:=DGet.k (k:=Sum.inr s) d6;rw [v1] at this;exact this,?_⟩;refine Kb (SqL.of (del_sub _ _ (o6 _ _ v3))) ?_;walk_at "go";refine QK (fun c1=>?_) (fun c1=>no fun e=>c1 ((v4 y).mpr (mu.mpr e.symm).1));walk_at "dg";refine ⟨d,.ref l',rfl,by have:=DGet.k (k:=Sum.inr y) d6;rw [w1] at this;exact this,?_⟩;refine Kb (SqL.of (del_sub _ _ (o6 _ _ w3))) ?_;walk_at "go";exact QK (fun c2=>yes (mu.mp ⟨(v4 y).mp c1,(w4 s).mp c2⟩).symm) (fun c2=>no fun e=>c2 ((w4 s).mpr (mu.mpr e.symm).2))
   ·rintro acc _ H7 ⟨x0,rfl,e7,rfl⟩ pk hpk;rw [e7] at hpk ⊢;rw [Fo,FC];have hko:nms.filter (fun y=>decide (gg y=gg s))=kOf gg nms (gg s):=rfl;rw [hko] at *;generalize e_np:upd H6 pk _=H7 at *;obtain ⟨np,k7⟩:=nwH hpk e_np;have pkf:pk≠pf:=QD f6 hpk;have f7:=np _ _ f6;have tk:(nms.take (i+1)).filter (isF gg nms)=(nms.take i).filter (isF gg nms)++[s].filter (isF gg nms):=by rw [FA,hs,ED];rfl
    have hTl:All2 (Tl K H7) (((nms.take i).filter (isF gg nms)).map fun f=>kOf gg nms (gg f)) ws:=⟨by rw [Fo];exact hW.1,fun n l v h1 h2=>by
     rw [Fx] at h1;obtain ⟨f,hf,rfl⟩:=FO.mp h1;obtain ⟨q,e,_,_,h4⟩:=hW.2 n f v hf h2;exact ⟨q,e,SqL.of (np _ _ h4)⟩⟩
    walk_at "go";refine ⟨kOf gg nms (gg s),pf,_,ws,⟨pk,rfl,SqL.of k7⟩,rfl,SqL.of f7,hTl,?_⟩;have ed:(if true=true then !decide (kOf gg nms (gg s)∈((nms.take i).filter (isF gg nms)).map fun f=>kOf gg nms (gg f)) else decide (kOf gg nms (gg s)∈((nms.take i).filter (isF gg nms)).map fun f=>kOf gg nms (gg f)))=isF gg nms s:=by
     rw [Fs rfl];cases c:isF gg nms s with
     | true=>rw [EO,E8];exact fun h=>by rw [(Ro nd hs).mp h] at c;cases c
     | false=>rw [Bool.not_eq_false',Em];exact (Ro nd hs).mpr c
    rw [ed];walk_at "go";refine QK (fun c=>?_) (fun c=>?_)
    ·refine ⟨.inl ⟨rfl,_,SqL.of f7⟩,QV f7 (QF (by omega)) ?_⟩;refine ⟨ws++[.ref pk],_,_,rfl,QB (g6.trans np) pf0,?_,Qe,?_,by rw [Fv,FH];omega⟩
     ·rw [Wi];exact o6.trans (Z1 np)
     ·rw [tk,ET c];exact (hW.imp fun _ _ ⟨a,e,h1,h2,h3⟩=>⟨a,e,h1,h2,by rw [Qj h2];exact np _ _ h3⟩).snoc ⟨pk,rfl,g6.free hpk,pkf,by rw [Qj pkf];exact k7⟩
    ·refine ⟨ws,_,_,rfl,g6.trans np,o6.trans (Z1 np),f7,?_,by omega⟩;rw [tk,EU (by simpa using c),E3,Ec];exact hW.imp fun _ _ ⟨a,e,h1,h2,h3⟩=>⟨a,e,h1,h2,np _ _ h3⟩
  ·rintro _ H6 ⟨ws,y3,y5,rfl,g6,o6,f6,hW,wl⟩;rw [Fo,FC] at hW;walk_at "go";exact q pf ws H6 pf0 g6 f6 (hW.imp fun _ _ ⟨a,e,h1,_,h2⟩=>⟨a,e,h1,h2⟩)
local macro_rules | `(tactic| walk_at "dg") => `(tactic| ((try simp only [M4, d_ni', M6, M3, M5, M7, M1]); walk_at "go"))
def Tb (K:W.Frag) (H:Hp) (rs:List Rw) (d:Addr):Prop:=∃ kvs:List (Key×V),H d=some (.dK kvs)/\∀ x r,(rs.find? fun r=>decide (r.nm=x))=some r->∃ v,Zd kvs (Sum.inr x:Key)=some v/\Rr K H r v
theorem Tb.same (h:Tb K H rs d) (g:Same H H'):Tb K H' rs d:=by
 obtain ⟨kvs,h1,h2⟩:=h;refine ⟨kvs,g _ _ h1,fun x r hx=>?_⟩;obtain ⟨v,h3,h4⟩:=h2 x r hx;exact ⟨v,h3,h4.same g⟩
theorem nx1 {ts:List Str}(h:ts≠[]):ts.drop 1++ts.take 1=rt ts 1:=by
 cases ts with
 | nil=>exact absurd rfl h
 | cons x r=>
  cases r with
  | nil=>
   show []++[x]=rt [x] 1;unfold rt;simp
  | cons y r=>exact (NW (by simp)).symm
theorem Bj {ts:List Str}(h:ts≠[]) {i:Nat}{v:V}(hv:((rt ts 1).map V.str)[i]?=some v):v=.str (ts.getD ((i+1) % ts.length) Str.empty):=by
 rw [Fx] at hv;obtain ⟨y,hy,rfl⟩:=FO.mp hv;have hl:=Qw hy;rw [Wx] at hl;rw [Uo hl,Nat.add_comm 1 i] at hy;rw [FF hy]
theorem V8 {ts:List Str}(hl:H l=some (.lst (ts.map V.str))) (ne:ts≠[]) (tl:ts.length<=8) (q:∀ a H',Same H H'->H' a=some (.lst ((rt ts 1).map V.str))->Q (.ref a) H'):N0 K (.ref l) (some 1) none H fun x H1=>N0 K (.ref l) none (some 1) H1 fun y H2=>sAdd x y H2 Q:=by
 refine Jl (SqL.of hl) fun a2 ha2=>?_
 have e1:YN (ts.map V.str) (some 1) none=(ts.drop 1).map V.str:=by rw [show (some (1:Int))=some ((1:Nat):Int) from rfl,Vo,List.map_drop]
 have e2:YN (ts.map V.str) none (some 1)=(ts.take 1).map V.str:=by rw [show (some (1:Int))=some ((1:Nat):Int) from rfl,UR,List.map_take]
 rw [e1];generalize e_g2:upd H a2 _=H2 at *;obtain ⟨g2,k2⟩:=nwH ha2 e_g2;refine Jl (SqL.of (g2 _ _ hl)) fun a3 ha3=>?_
 rw [e2];generalize e_g3:upd H2 a3 _=H3 at *;obtain ⟨g3,k3⟩:=nwH ha3 e_g3;have b1:(ts.drop 1).length<=8:=by rw [Et];omega
 have b2:(ts.take 1).length<=8:=by rw [FX];omega
 refine Vx ⟨a2,a3,_,_,rfl,rfl,g3 _ _ k2,k3,KA (by rw [Fo,Fo];omega),fun a4 ha4=>?_⟩;rw [<-Fz,nx1 ne];exact q a4 _ (g2.trans (g3.trans (Qi ha4 _))) Qe
inductive φlp (K:W.Frag) (x y:V) (H:Hp) (Q:VK):Prop
 | mk (d l:Addr) (rs:List Rw) (ts:List Str) (h1:x=.ref d) (h2:y=.ref l) (h3:Tb K H rs d) (h4:H l=some (.lst (ts.map V.str))) (h5:Rg rs ts) (h6:∀ z H',Same H H'->Fq K H' (ZU rs ts ts.length) z->Q z H'):φlp K x y H Q
theorem GY (T:Tx K mg t) (F:Fun K "_law_pull" "_law_pull" YX f fd) (dH:Cal P w K mg base 3 "_law_times" ["_law_one","_law_other"] (Sp2M (Qop K (·*·)))) (fQ:Cal P w K mg base 1 "_law_greatest" ["_law_offs_here"] (Sp1M (φlgr K))):FnOk P w K mg base CX0 4 f fd ["_law_table","_law_ring"] (Sp2 (φlp K)):=by
 refine F.ok sc_l_pull ZV (fun cdv A outer s H vs Q E hr h=>?_);obtain ⟨_,_,rfl,d,l,rs,ts,rfl,rfl,hTb,hl,hRg,q⟩:=h;have tl8:=hRg.2.1;refine ⟨_,((Qc (Qk (i:=2) sc_l_pull.nd rfl (Or.inl rfl) (QE (Qa Qb (Qa Qb Qd))))
   (Qc (QG FL rfl (N8 K rfl rfl T.dO (Qa (pu 1) (Qa (Qg Qv (Xh (slK K rfl) (pu 1) (XY Qb) XZ) (Xh (slK K rfl) (pu 1) XZ (XY Qb))) Qd))) (pgK (n:=2) K rfl rfl (QA (Ql (i:=3) sc_l_pull.nd rfl (Or.inl rfl)) (QA (Ql (i:=4) sc_l_pull.nd rfl (Or.inr rfl)) Q7)))
   (Qc (Qk (i:=5) sc_l_pull.nd rfl (Or.inl rfl) (Q4 (Q9 hr) (pu 0) (pu 3) (fun _ _=>rfl)))
   (Qc (Qk (i:=6) sc_l_pull.nd rfl (Or.inl rfl) (Qp (ixK K rfl) (XM (N:=["_law_other","_law_rate_here","_law_beyond"]) (caps:=[none,none,some 4]) rfl ZR (piK K rfl (Qp (ixK K rfl) (pu 5) Qb (fun _ _=>rfl))) (fun _ _ _ _=>pgK (n:=2) K rfl rfl (QA (Ql (i:=0) (show (["_law_other","_law_rate_here","_law_beyond"]:List Str).Nodup by decide +kernel) rfl (Or.inl rfl) (.inr rfl)) (QA (Ql (i:=1) (show (["_law_other","_law_rate_here","_law_beyond"]:List Str).Nodup by decide +kernel) rfl (Or.inl rfl) (.inr rfl)) Q7))) (fun _ _ _ _=>Xa (Qq (eqM K rfl hr.units) (pu 0) (pu 2) (Qu _))) (fun _ _ _ _=>(pu 1))) Qb (fun _ _=>rfl)))
   (Qf (Qk (i:=2) sc_l_pull.nd rfl (Or.inl rfl) (Qs dH (hrm hr) rfl (Qa (pu 2) (Qa (Qs dH (hrm hr) rfl (Qa (Qs fQ (hrm hr) rfl (Qa (Qp (ixK K rfl) (pu 5) Qb (fun _ _=>rfl)) Qd)) (Qa (pu 6) Qd))) Qd))))))))
   (Qf (Qr (pu 2)))))),?_⟩
 walk_at "go";refine ⟨by decide,fun p0 hp0=>?_⟩;generalize e_g1:upd H p0 _=H1 at *;obtain ⟨g1,k_g1⟩:=nwH hp0 e_g1;have f1:Fq K H1 1 (.ref p0):=Fq.int (i:=1) (SqT.of k_g1);unfold Bv;walk_at "go";refine V8 (g1 _ _ hl) hRg.1 tl8 fun a4 H4 g4 k4=>?_
 have g04:=g1.trans g4;refine ⟨l,a4,rfl,⟨_,SqL.of (g04 _ _ hl)⟩,⟨_,SqL.of k4⟩,?_⟩;refine S1 (xs:=ts.map V.str) (ys:=(rt ts 1).map V.str) (fun i σ' H'=>∃ (z:V) (x3 x4 x5 x6:Option V),σ'=[some (.ref d),some (.ref l),some z,x3,x4,x5,x6]/\Same H4 H'/\Fq K H' (ZU rs ts i) z) ts.length (by rw [Fo,Fo,Wx,Nat.min_self]) ⟨_,none,none,none,none,rfl,Same.refl _,f1.same g4⟩ (fun i σ' H' h=>by obtain ⟨_,_,_,_,_,_,g,_⟩:=h;exact ⟨SqL.of (g _ _ (g04 _ _ hl)),SqL.of (g _ _ k4)⟩) ?_ ?_
 ·rintro i v u _ H5 pp hv hu ⟨z,x3,x4,x5,x6,rfl,g5,hF⟩ hpp;rw [Fx] at hv;obtain ⟨s,hs,rfl⟩:=FO.mp hv;have hi:=Qw hs;obtain rfl:=Bj hRg.1 hu;obtain ⟨r,rr,r1,r2,r3,r4,r5,r6,r7,_⟩:=hRg.2.2 i s hs;generalize hy:ts.getD ((i+1) % ts.length) Str.empty=y at *;generalize e_n6:upd H5 pp _=H6 at *;obtain ⟨n6,k_n6⟩:=nwH hpp e_n6;have hT:SqT K H6 pp [.str s,.str y]:=SqT.of k_n6;have g46:=g5.trans n6;have g06:=g04.trans g46;have hF6:=hF.same n6;obtain ⟨kvs,kd,hrow⟩:=hTb;obtain ⟨v,hv1,hRr⟩:=hrow s r r1;obtain ⟨pr,lc,lo,rfl,hTr,⟨cv,kc,hC⟩,hOl⟩:=hRr.same g06;refine ZG hT rfl ?_;walk_at "dg";refine ⟨d,.ref pr,rfl,by have:=DGet.k (k:=Sum.inr s) (g06 _ _ kd);rw [hv1] at this;exact this,?_⟩;walk_at "go";try simp only [QU]
  walk_at "go";refine ⟨lc,rfl,⟨_,SqL.of kc⟩,Zy (xs:=cv) (fun i acc σ' H'=>∃ x0 x1:Option V,σ'=[x0,x1,some (.str y)]/\H'=H6/\All2 (fun (c:Str×Rat) v=>Fq K H6 c.2 v) ((r.cs.take i).filter fun c=>decide (c.1=y)) acc) ⟨none,none,rfl,rfl,All2.nil⟩ (fun i acc σ' H' _ h=>by obtain ⟨_,_,_,rfl,_⟩:=h;exact SqL.of kc) (by rw [<-hC.1];omega) ?_ ?_⟩
  ·rintro j u acc _ H7 hu hacc ⟨x0,x1,rfl,e3,hA⟩;rw [e3];obtain ⟨c,hc,pc,zc,rfl,hTc,hz⟩:=hC.getV hu;have hj:=Qw hu;have st:(r.cs.take (j+1)).filter (fun c=>decide (c.1=y))=(r.cs.take j).filter (fun c=>decide (c.1=y))++[c].filter (fun c=>decide (c.1=y)):=by rw [FA,hc,ED];rfl
   refine ZG hTc rfl ?_;walk_at "go";by_cases e:c.1=y
   ·rw [Fs e];refine CN.mk hj (by rw [Fv,FH];omega) ⟨_,_,rfl,rfl,?_⟩;rw [st,ET (by simpa using e)];exact hA.snoc hz
   ·rw [Fl e];refine CN.mk hj (by omega) ⟨_,_,rfl,rfl,?_⟩;rw [st,EU (by simpa using e),E3,Ec];exact hA
  ·rintro acc _ H7 ⟨x0,x1,rfl,e3,hA⟩ l8 hl8;rw [e3] at hl8 ⊢;rw [<-hC.1,FC,r2] at hA;obtain ⟨v,rfl⟩:∃ v,acc=[v]:=by
    have:=hA.1
    match acc,this with
    | [v],_=>exact ⟨v,rfl⟩
   generalize e_n8:upd H6 l8 _=H8 at *;obtain ⟨n8,k_n8⟩:=nwH hl8 e_n8;have fv:=(hA.2 0 (y,rr) v rfl rfl).same n8;refine Zj (SqL.of k_n8) (v:=v) rfl ?_;walk_at "go";obtain ⟨gr0,grB,_⟩:=MG r5;refine ZZ (n8.sqT hTr) rfl ?_;refine ⟨lo,r.os,rfl,hOl.same n8,r5,fun z1 H9 g9 fz1=>?_⟩;refine ⟨gr r.os,rr,14,14,fz1,fv.same g9,grB,r3,by decide,fun z3 Ha ga f3=>?_⟩;obtain ⟨_,_,_,pB⟩:=Y4 hRg i (by omega);have g6a:=n8.trans (g9.trans ga);refine ⟨ZU rs ts i,gr r.os*rr,28*i+1,28,hF6.same g6a,f3,pB,(grB.mul r3).mono (by decide),by omega,fun z4 Hb gb f4=>?_⟩;refine ⟨_,_,_,_,_,rfl,g46.trans (g6a.trans gb),?_⟩;have e:ZU rs ts (i+1)=ZU rs ts i*(gr r.os*rr):=by
    show ZU rs ts i*rwt rs (ts.getD i Str.empty) (ts.getD ((i+1) % ts.length) Str.empty)=_;rw [We hs,hy,Ul r1 r2]
   rw [e];exact f4
 ·rintro _ H5 ⟨z,x3,x4,x5,x6,rfl,g5,hF⟩;walk_at "go";exact q z H5 (g04.trans g5) hF
inductive φshape (K:W.Frag) (x:V) (H:Hp) (Q:VK):Prop
 | mk (b q:Addr) (s:Str) (z:V) (r:Rat) (ts:List Str) (h1:x=.ref b) (h2:SqT K H b [.str s,.ref q,z]) (h3:H q=some (.lst (ts.map V.str))) (h4:ts≠[]) (h5:ts.length<=8) (h6:Fq K H r z) (h7:∀ H',Same H H'->Q (.bl true) H'):φshape K x H Q
theorem Uw (T:Tx K mg t) (F:Fun K "_law_shape" "_law_shape" Yo f fd):FnOk P w K mg base CX0 1 f fd ["_law_block_here"] (Sp1 (φshape K)):=by
 refine F.ok sc_l_shape Wq (fun cdv A outer s H vs Q E hr h=>?_);obtain ⟨_,rfl,b,qq,s,z,r,ts,rfl,hT,hq,tne,tl8,hF,q⟩:=h;obtain ⟨pz,rfl,hz⟩:=hF;refine ⟨_,((Qc (QL (PW.pt (X7 (ZW (Zx (Qo (Vh K rfl) (by rfl) T.aJ boot_isinstance (Qa (pu 0) (Qa (YB T.dN boot_tuple) Qd))))) (X7 (Qq (neM K rfl hr.units) (Qo (YA K rfl) (by rfl) T.aP Eh (Qa (pu 0) Qd)) Qb (Qu _)) (Xy (ZW (Zx (Qo (Vh K rfl) (by rfl) T.aJ boot_isinstance (Qa (Qp (ixK K rfl) (pu 0) Qb (fun _ _=>rfl)) (Qa (YB T.dM boot_str) Qd))))))))) (Qf (Qr Xu)) Qx)
   (Qc (QL (PW.pt (X7 (ZW (Zx (Qo (Vh K rfl) (by rfl) T.aJ boot_isinstance (Qa (Qp (ixK K rfl) (pu 0) Qb (fun _ _=>rfl)) (Qa (YB T.aM boot_list) Qd))))) (Xy (ZW (Zx (Qo (WQ K rfl rfl) (by rfl) T.cR boot_all (Qa (Q8 (N:=["_law_title"]) (caps:=[none]) rfl ZR (piK K rfl (Qp (ixK K rfl) (pu 0) Qb (fun _ _=>rfl))) (fun _ _ _ _=>Ql (i:=0) (show (["_law_title"]:List Str).Nodup by decide +kernel) rfl (Or.inl rfl) (.inr rfl)) (fun _ _ _ _=>QW) (fun _ _ _ _=>(Qo (Vh K rfl) (by rfl) T.aJ boot_isinstance (Qa (pu 0) (Qa (YB T.dM boot_str) Qd))))) Qd))))))) (Qf (Qr Xu)) Qx)
   (Qc (Qk (i:=1) sc_l_shape.nd rfl (Or.inl rfl) (Qp (ixK K rfl) (pu 0) Qb (fun _ _=>rfl)))
   (Qc (QL (PW.pt (X7 (ZW (Zx (Qo (Vh K rfl) (by rfl) T.aJ boot_isinstance (Qa (pu 1) (Qa (YB T.dN boot_tuple) Qd))))) (X7 (Qq (neM K rfl hr.units) (Qo (YA K rfl) (by rfl) T.aP Eh (Qa (pu 1) Qd)) Qb (Qu _)) (Xy (Qq (eqM K rfl hr.units) (Qp (ixK K rfl) (pu 0) Qb (fun _ _=>rfl)) (QC Qd) (Qu _)))))) (Qf (Qr Xu)) Qx)
   (Qf (Qr (Je (U9 (Qo (Vh K rfl) (by rfl) T.aJ boot_isinstance (Qa (Qp (ixK K rfl) (pu 1) Qb (fun _ _=>rfl)) (Qa (YB T.cS boot_bool) Qd)))) (Ju (U9 (Qo (Vh K rfl) (by rfl) T.aJ boot_isinstance (Qa (Qp (ixK K rfl) (pu 1) Qb (fun _ _=>rfl)) (Qa (YB T.cS boot_bool) Qd))))))))))))),?_⟩
 generalize hR:ZH (Z4 _ _) _=R;walk_at "go";refine Jn (TyOf.str _) (by rfl) ?_;walk_at "go";refine Jn (.lst hq) (by rfl) ?_;walk_at "go";try simp only [QU]
 walk_at "go";refine ⟨qq,rfl,⟨_,SqL.of hq⟩,Zy (xs:=ts.map V.str) (fun i acc σ' H'=>∃ x0:Option V,σ'=[x0]/\H'=H/\acc=((ts.take i).map fun _=>true).map V.bl) ⟨none,rfl,rfl,rfl⟩ (fun i acc σ' H' _ h=>by obtain ⟨_,_,rfl,_⟩:=h;exact SqL.of hq) (by rw [Fo];omega) ?_ ?_⟩
 ·rintro i v acc _ H2 hv hacc ⟨x0,rfl,e2,rfl⟩;rw [e2];rw [Fx] at hv;obtain ⟨s,hs,rfl⟩:=FO.mp hv;have hi:i<(ts.map V.str).length:=by rw [Fo];exact Qw hs
  simp only [ZK];walk_at "go";refine Jn (TyOf.str _) (by rfl) ?_;refine CN.mk hi (by rw [Fv,FH];omega) ⟨_,rfl,(by first | rfl | trivial),?_⟩;rw [FA,hs,Fz,Fz];rfl
 ·rintro acc _ H2 ⟨x0,rfl,e2,rfl⟩ l3 hl3;rw [e2] at hl3 ⊢;rw [Fo,FC];refine ⟨l3,ts.map fun _=>true,rfl,SqL.of Qe,?_⟩;generalize e_g3:upd H l3 _=H3 at *;obtain ⟨g3,k_g3⟩:=nwH hl3 e_g3;have en:(ts.map fun _=>true).all id=true:=by rw [List.all_map];simp
  rw [en];have hT3:=g3.sqT hT;have hz3:=g3.sqT hz;walk_at "go";subst hR;walk_at "go";refine ⟨by decide,fun p4 hp4=>?_⟩;generalize e_g4:upd H3 p4 _=H4 at *;obtain ⟨g4,k_g4⟩:=nwH hp4 e_g4;refine UX (b:=decide (ts=[])) (ZF (SqL.of (g4 _ _ (g3 _ _ hq)))) (ZF (l:=[]) (SqL.of k_g4)) JG (by rw [EM,KB]) ?_;rw [F6 tne];have hz4:=g4.sqT hz3;walk_at "go";try refine Jn (T:="bool") (TyOf.int _) (by rfl) ?_
  walk_at "go";exact q H4 (g3.trans g4)
inductive φlnx (K:W.Frag) (x y z:V) (H:Hp) (Q:VK):Prop
 | mk (lp d pl:Addr) (rs:List Rw) (gg:Str->Nat) (ws:List V) (ss:List Str) (z0:Str) (h1:x=.ref lp) (h2:y=.ref d) (h3:z=.ref pl) (h4:H lp=some (.lst ws)) (h5:All2 (fun (s:Str) v=>∃ q,v=V.ref q/\H q=some (.lst ((kOf gg (rs.map (·.nm)) (gg s)).map V.str))) ((rs.map (·.nm)).filter (isF gg (rs.map (·.nm)))) ws) (h6:Tb K H rs d) (h7:Rows rs) (h8:Gq (nbR rs) (rs.map (·.nm)) gg) (h9:H pl=some (.lst ((plc gg (rs.map (·.nm)) ss).map V.str))) (h10:pkI (nbR rs) gg (rs.map (·.nm)) (ss.map gg)=some z0)
   (h11:∀ q,V.ref q∈ws->H q=some (.lst ((kOf gg (rs.map (·.nm)) (gg z0)).map V.str))->Q (.ref q) H):φlnx K x y z H Q
def LnI (a b c e:V) (H:Hp) (k:V) (fr:Bool) (σ':L2.St) (H':Hp):Prop:=∃ x5 x6 x7:Option V,σ'=[some a,some b,some c,some k,some (.bl fr),x5,x6,x7]/\H'=H
theorem G0 (T:Tx K mg t) (F:Fun K "_law_next" "_law_next" YZ f fd):FnOk P w K mg base CX0 1 f fd ["_law_parts","_law_table","_law_placed"] (Sp3 (φlnx K)):=by
 refine F.ok sc_l_next VG (fun cdv A outer s H vs Q E hr h=>?_);obtain ⟨_,_,_,rfl,lp,d,pl,rs,gg,ws,ss,z0,rfl,rfl,rfl,hlp,hW,hTb,hRs,G,hpl,hz,q⟩:=h;obtain ⟨kvs,kd,hrow⟩:=hTb;have hle:=hRs.le;have rowat:=fun {s} (hs:s∈rs.map (·.nm))=>KJ hRs hs
 have nd:=hRs.nd;refine ⟨_,((Qc (QG FL rfl (piK K rfl (pu 0)) (Ql (i:=3) sc_l_next.nd rfl (Or.inl rfl))
   (Qc (Qk (i:=4) sc_l_next.nd rfl (Or.inl rfl) (Zl (WH K rfl) (Qp (ixK K rfl) (pu 3) Qb (fun _ _=>rfl)) (pu 2) (by with_unfolding_all rfl)))
   (Qc (QG FL rfl (piK K rfl (pu 3)) (Ql (i:=5) sc_l_next.nd rfl (Or.inl rfl))
   (Qf (QG FL rfl (piK K rfl (Qp (ixK K rfl) (Q4 (Q9 hr) (pu 1) (pu 5) (fun _ _=>rfl)) Qb (fun _ _=>rfl))) (pgK (n:=2) K rfl rfl (QA (Ql (i:=6) sc_l_next.nd rfl (Or.inl rfl)) (QA (Ql (i:=7) sc_l_next.nd rfl (Or.inl rfl)) Q7)))
   (Qf (QL (PW.pt (Xf (Qq (WH K rfl) (pu 6) (pu 2) (by with_unfolding_all rfl)) (ZP (Qq (WH K rfl) (pu 6) (pu 3) (by with_unfolding_all rfl))))) (Qf (Qk (i:=4) sc_l_next.nd rfl (Or.inl rfl) Xu)) Qx)))))
   (Qf (QL (ZQ (pu 4) (fun _=>rfl)) (Qf (Qr (pu 3))) Qx)))))
   (Qf (Qr (QC Qd))))),?_⟩
 obtain ⟨nms,hns⟩:∃ nms,rs.map (·.nm)=nms:=⟨_,rfl⟩
 rw [hns] at hW G hpl hz q nd;simp only [hns] at rowat;have wl:=hW.1;have frq:=fun {i}=>MP G (ss:=ss) (i:=i)
 have fz:(nms.filter (isF gg nms)).find? (fun s=>!decide (gg s∈ss.map gg)&&frI (nbR rs) gg nms (ss.map gg) (gg s))=some z0:=by
  rw [List.find?_filter];refine Eq.trans (congrArg (fun f=>nms.find? f) (funext fun a=>?_)) hz;rw [F0,Em];simp only [Eo]
 walk_at "go";refine ⟨lp,rfl,⟨_,SqL.of hlp⟩,?_⟩;refine Xn (xs:=ws) (fun i σ' H'=>∃ x3 x4 x5 x6 x7:Option V,σ'=[some (.ref lp),some (.ref d),some (.ref pl),x3,x4,x5,x6,x7]/\H'=H/\∀ s∈(nms.filter (isF gg nms)).take i,(!decide (gg s∈ss.map gg)&&frI (nbR rs) gg nms (ss.map gg) (gg s))=false) ⟨none,none,none,none,none,rfl,rfl,fun s h=>by simp at h⟩ (fun i σ' H' _ h=>by obtain ⟨_,_,_,_,_,_,e,_⟩:=h;rw [e];exact SqL.of hlp) ?_ ?_
 ·rintro i v _ H1 hv ⟨x3,x4,x5,x6,x7,rfl,e1,no⟩;rw [e1];obtain ⟨s,hs,qk,rfl,hk⟩:=hW.getV hv;obtain ⟨sn,sf⟩:=F1.mp (FD hs);obtain ⟨kt,hkt⟩:=XQ sf;obtain ⟨kn,hkn⟩:∃ kn,kOf gg nms (gg s)=kn:=⟨_,rfl⟩
  have kmem:∀ u∈kn,u∈nms:=fun u hu=>by rw [<-hkn] at hu;exact (kOf_mem.mp hu).1
  have frq:=frq (i:=gg s);rw [hkn] at hk hkt frq;generalize hR:ZH (LH _ _ _) _=R;walk_at "go";refine Zj (SqL.of hk) (v:=.str s) (QP (j:=0) (by rw [hkt];rfl)) ?_;refine XF (SqL.of hpl) ?_;walk_at "go";have e0:(!decide (s∈plc gg nms ss))=!decide (gg s∈ss.map gg):=by
   congr 1
   rw [F0,Em,Em,plc_mem];exact ⟨fun h=>h.2,fun h=>⟨sn,h⟩⟩
  rw [e0];generalize hf0:(!decide (gg s∈ss.map gg))=f0 at *;subst hR;walk_at "go";refine ⟨qk,rfl,⟨_,SqL.of hk⟩,?_⟩;refine Xn (xs:=kn.map V.str) (fun a σ' H'=>LnI (.ref lp) (.ref d) (.ref pl) (.ref qk) H (.ref qk) (f0&&(kn.take a).all fun u=>(nbR rs u).all fun y=>decide (y∈kn++plc gg nms ss)) σ' H') ⟨x5,x6,x7,by simp,rfl⟩ (fun a σ' H' _ h=>by obtain ⟨_,_,_,_,e⟩:=h;rw [e];exact SqL.of hk) ?_ ?_
  ·rintro a u _ H2 hu ⟨y5,y6,y7,rfl,e2⟩;rw [e2];rw [Fx] at hu;obtain ⟨u,hu',rfl⟩:=FO.mp hu;obtain ⟨r,r1,r2,r3,r4⟩:=rowat (kmem u (FD hu'));obtain ⟨v,hv1,pr,lc,lo,rfl,hTr,⟨cv,kc,hC⟩,hOl⟩:=hrow u r r3;generalize hf1:(f0&&(kn.take a).all fun u=>(nbR rs u).all fun y=>decide (y∈kn++plc gg nms ss))=f1 at *;walk_at "go";walk_at "dg";refine ⟨d,.ref pr,rfl,by have:=DGet.k (k:=Sum.inr u) kd;rw [hv1] at this;exact this,?_⟩;refine ZZ hTr rfl ?_;refine ⟨lc,rfl,⟨_,SqL.of kc⟩,?_⟩;refine Xn (xs:=cv) (fun b σ' H'=>LnI (.ref lp) (.ref d) (.ref pl) (.ref qk) H (.ref qk) (f1&&((r.cs.take b).map (·.1)).all fun y=>decide (y∈kn++plc gg nms ss)) σ' H') ⟨some (.str u),y6,y7,by simp,rfl⟩ (fun b σ' H' _ h=>by obtain ⟨_,_,_,_,e⟩:=h;rw [e];exact SqL.of kc) ?_ ?_
   ·rintro b v _ H3 hv ⟨z5,z6,z7,rfl,e3⟩;rw [e3];obtain ⟨c,hc,pc,zc,rfl,hTc,hz⟩:=hC.getV hv;refine ZG hTc rfl ?_;walk_at "go";have st:((r.cs.take (b+1)).map (·.1)).all (fun y=>decide (y∈kn++plc gg nms ss))=(((r.cs.take b).map (·.1)).all (fun y=>decide (y∈kn++plc gg nms ss))&&decide (c.1∈kn++plc gg nms ss)):=by
     rw [FA,hc,Fz,List.all_append];simp
    refine XF (SqL.of hpl) ?_;walk_at "go";refine QK (fun c1=>?_) (fun c1=>?_)
    ·have c1:c.1 ∉ plc gg nms ss:=by simpa using c1
     refine XF (SqL.of hk) ?_;walk_at "go";refine QK (fun c2=>?_) (fun c2=>?_)
     ·have c2:c.1 ∉ kn:=by simpa using c2
      refine ⟨z5,some (.str c.1),some zc,?_,(by first | rfl | trivial)⟩;rw [st,F6 (show c.1 ∉ kn++plc gg nms ss from fun h=>(FR.mp h).elim c2 c1),EL,EL]
     ·have c2:c.1∈kn:=by simpa using c2
      refine ⟨z5,some (.str c.1),some zc,?_,(by first | rfl | trivial)⟩;rw [st,EC (show c.1∈kn++plc gg nms ss from Ez _ c2),Bool.and_true]
    ·have c1:c.1∈plc gg nms ss:=by simpa using c1
     refine ⟨z5,some (.str c.1),some zc,?_,(by first | rfl | trivial)⟩;rw [st,EC (show c.1∈kn++plc gg nms ss from F4 _ c1),Bool.and_true]
   ·rintro _ H3 ⟨z5,z6,z7,rfl,e3⟩;refine ⟨z5,z6,z7,?_,e3⟩;rw [<-hC.1,FC,<-r4,FA,hu',List.all_append,<-hf1,Bool.and_assoc];simp
  ·rintro _ H2 ⟨y5,y6,y7,rfl,e2⟩;rw [e2,Fo,FC,frq];walk_at "go";refine ⟨f0&&frI (nbR rs) gg nms (ss.map gg) (gg s),rfl,?_⟩;refine QK (fun c=>?_) (fun c=>?_)
   ·have ez:z0=s:=by
     have es:nms.filter (isF gg nms)=(nms.filter (isF gg nms)).take i++s :: (nms.filter (isF gg nms)).drop (i+1):=by
      have hi:=Qw hs;have:=FF ((Fu hi).symm.trans hs);rw [<-this,<-List.drop_eq_getElem_cons hi,ES]
     rw [es,List.find?_append,Dy.mpr (fun x hx=>by rw [no x hx];exact FT),List.find?_cons_of_pos (by rw [hf0];exact c)] at fz;exact (FF fz).symm
    rw [ez,hkn] at q;exact q qk (FD hv) hk
   ·refine ⟨_,_,_,_,_,rfl,(by first | rfl | trivial),fun x hx=>?_⟩;rw [FA,hs] at hx;rcases FR.mp hx with h | h
    ·exact no x h
    ·rw [show x=s by simpa using h,hf0];simpa using c
 ·rintro _ H1 ⟨x3,x4,x5,x6,x7,rfl,e1,no⟩;rw [<-wl,FC] at no;have h1:=Dr fz;have h2:=Ds fz;rw [no z0 h1] at h2;cases h2
def BY (H:Hp) (nms:List Str) (w:Str->List Str) (kvs:List (Key×V)):Prop:=kvs.length=nms.length/\∀ (i:Nat) s,nms[i]?=some s->∃ l,kvs[i]?=some (Sum.inr s,.ref l)/\H l=some (.lst ((w s).map V.str))
theorem UY {w:Str->List Str}(h:BY H nms w kvs):kvs.map (·.1)=nms.map Sum.inr:=by
 obtain ⟨kl,ko⟩:=h;apply EE;intro n;rw [Fx,Fx];cases e:nms[n]? with
 | some r'=>obtain ⟨l',h',_⟩:=ko n r' e;rw [h'];rfl
 | none=>
  have:kvs[n]?=none:=by rw [Dv] at e ⊢;omega
  rw [this];rfl
theorem LD {w:Str->List Str}{s:Str}(lo:BY H2 (nms.take i) w kvs) (k2:H2 d=some (.dK kvs)) (hs:nms[i]?=some s) (hl:H2 l=none) (g3:Same H2 H4) (k3:H4 l=some (.lst ((w s).map V.str))) :
  BY (upd H4 d (.dK (kvs++[(Sum.inr s,.ref l)]))) (nms.take (i+1)) w (kvs++[(Sum.inr s,.ref l)]):=by
 obtain ⟨kl,ko⟩:=lo;have ld:l≠d:=fun e=>by rw [e,k2] at hl;cases hl
 refine ⟨?_,?_⟩
 ·rw [Fv,kl,FA,hs,Fv];rfl
 ·intro n r' hn;rw [FA,hs] at hn;rcases Yc hn with ⟨h1,hlt⟩ | ⟨h1,e⟩
  ·obtain ⟨l',h',h''⟩:=ko n r' h1;refine ⟨l',by rw [Ei (by have:=Qw h1;omega)];exact h',?_⟩;have:l'≠d:=fun e=>by rw [e,k2] at h'';cases h''
   rw [Qj this];exact g3 _ _ h''
  ·subst e;exact ⟨l,by rw [h1,<-kl,Ed (Ft _),Er];rfl,by rw [Qj ld];exact k3⟩
def PwV (K:W.Frag) (H:Hp) (b:BT) (w:V):Prop:=match b.qo with
 | some r=>Fq K H r w
 | none=>w=.non
theorem rge_one {q:Rat}:q.num ≥ (q.den:Int)↔¬ q<1:=by
 rw [Rat.lt_iff];have e1:(1:Rat).den=1:=rfl;have e2:(1:Rat).num=1:=rfl;rw [e1,e2];omega
theorem Bt {nb:Str->List Str}{f:Str}{kt:List Str}(hk:kn=f :: kt) {j:Nat}(hj:j<kn.length):(rgo nb kn)[j]?=some (itO nb kn f j):=by
 unfold rgo;rw [Fx,Dm hj,show kn.headD Str.empty=f by rw [hk];rfl];rfl
inductive φlbk (K:W.Frag) (x y:V) (H:Hp) (Q:VK):Prop
 | mk (lk d:Addr) (rs:List Rw) (gg:Str->Nat) (f:Str) (kn:List Str) (h1:x=.ref lk) (h2:y=.ref d) (h3:Tb K H rs d) (h4:ROk rs) (h5:Gq (nbR rs) (rs.map (·.nm)) gg) (h6:kOf gg (rs.map (·.nm)) (gg f)=kn) (h7:H lk=some (.lst (kn.map V.str))) (h8:f∈rs.map (·.nm)) (h9:isF gg (rs.map (·.nm)) f=true)
   (h10:(bt rs kn).good=true->∀ pt pb q z H',Same H H'->(q=lk∨H q=none)->SqT K H' pt [.str (Str.ofString "block"),.ref pb,.non]->SqT K H' pb [.str (bt rs kn).wd1,.ref q,z]->H' q=some (.lst (((bt rs kn).ts kn).map V.str))->Fq K H' (bt rs kn).q z->Q (.ref pt) H')
   (h11:(bt rs kn).good=false->∀ pt q w H',Same H H'->SqT K H' pt [.str (bt rs kn).wd1,.ref q,w]->H' q=some (.lst (((bt rs kn).ts kn).map V.str))->PwV K H' (bt rs kn) w->Q (.ref pt) H'):φlbk K x y H Q
theorem UA (T:Tx K mg t) (F:Fun K "_law_block" "_law_block" Ys f fd) (fR:Cal P w K mg base 4 "_law_pull" ["_law_table","_law_ring"] (Sp2M (φlp K))):FnOk P w K mg base CX0 5 f fd ["_law_knot","_law_table"] (Sp2 (φlbk K)):=by
 refine F.ok sc_l_block ZV (fun cdv A outer s H vs Q E hr h=>?_);obtain ⟨_,_,rfl,lk,d,rs,gg,f,kn,rfl,rfl,hTb,hRO,G,hkn,hk,hfn,hf,q,qb⟩:=h;have hRs:=hRO.rw;have hle:=hRs.le;have nbn:=hRs.nb;obtain ⟨kt,hkt⟩:=XQ hf;have ring:=fun h1 h2=>KL G hfn hf h1 h2
 have rgof:=fun h1 h2=>NX hRO G hfn hf h1 h2
 have knd:(kOf gg (rs.map (·.nm)) (gg f)).Nodup:=G.nd.sublist Dk;rw [hkn] at hkt ring rgof knd;have knm:∀ s∈kn,s∈rs.map (·.nm):=fun s hs=>by rw [<-hkn] at hs;exact (kOf_mem.mp hs).1
 have kl:kn.length<=8:=by
  rw [<-hkn];exact FQ (Ey _ _) (by rw [Fo];exact hle)
 obtain ⟨tkv,tkd,hrow⟩:=id hTb;refine ⟨_,((Qc (Qk (i:=2) sc_l_block.nd rfl (Or.inr rfl) Z0)
   (Qc (QG FL rfl (piK K rfl (pu 0)) (Ql (i:=3) sc_l_block.nd rfl (Or.inl rfl))
   (Qf (Xb (Q9 hr) (pu 2) (pu 3) (XM (N:=["_law_other","_law_rate_here","_law_knot"]) (caps:=[none,none,some 0]) rfl ZR (piK K rfl (Qp (ixK K rfl) (Q4 (Q9 hr) (pu 1) (pu 3) (fun _ _=>rfl)) Qb (fun _ _=>rfl))) (fun _ _ _ _=>pgK (n:=2) K rfl rfl (QA (Ql (i:=0) (show (["_law_other","_law_rate_here","_law_knot"]:List Str).Nodup by decide +kernel) rfl (Or.inl rfl) (.inr rfl)) (QA (Ql (i:=1) (show (["_law_other","_law_rate_here","_law_knot"]:List Str).Nodup by decide +kernel) rfl (Or.inl rfl) (.inr rfl)) Q7))) (fun _ _ _ _=>Xa (Qq (inK K rfl) (pu 0) (pu 2) (by with_unfolding_all rfl))) (fun _ _ _ _=>(pu 0))) rfl)))
   (Qc (Qk (i:=4) sc_l_block.nd rfl (Or.inl rfl) (Qo (Ku K rfl rfl) (by rfl) T.dI boot_max (Qa (Q8 (N:=["_law_title","_law_within"]) (caps:=[none,some 2]) rfl ZR (piK K rfl (pu 0)) (fun _ _ _ _=>Ql (i:=0) (show (["_law_title","_law_within"]:List Str).Nodup by decide +kernel) rfl (Or.inl rfl) (.inr rfl)) (fun _ _ _ _=>QW) (fun _ _ _ _=>(Qo (YA K rfl) (by rfl) T.aP Eh (Qa (Q4 (Q9 hr) (pu 1) (pu 0) (fun _ _=>rfl)) Qd)))) Qd)))
   (Qc (QL (Qq (eqM K rfl hr.units) (pu 4) Qb (Qu _)) (Qf (Qr (QE (Qa QR (Qa (QE (Qa QR (Qa (pu 0) (Qa (QE (Qa Qb (Qa Qb Qd))) Qd)))) (Qa Zh Qd)))))) Qx)
   (Qc (QL (Qq Us (pu 4) Qb (Qu _)) (Qf (Qr (QE (Qa QR (Qa (pu 0) (Qa Zh Qd)))))) Qx)
   (Qc (Qk (i:=5) sc_l_block.nd rfl (Or.inl rfl) (QC (Qa (Qp (ixK K rfl) (pu 0) Qb (fun _ _=>rfl)) Qd)))
   (Qc (QG FL rfl (QQ rfl T.aQ (Qa (Qg Bf (Qo (YA K rfl) (by rfl) T.aP Eh (Qa (pu 0) Qd)) Qb) Qd)) (Ql (i:=6) sc_l_block.nd rfl (Or.inl rfl))
   (Qf (QS (Zb K rfl F3 F7 F8 QO (pu 5) (Qa (Qp (ixK K rfl) (Q4 (Q9 hr) (pu 2) (Qp (ixK K rfl) (pu 5) (Rl U2 Qb) (fun _ _=>rfl)) (fun _ _=>rfl)) Qb (fun _ _=>rfl)) Qd)))))
   (Qc (QL (Qq (neM K rfl hr.units) (Q8 (N:=["_law_title","_law_table"]) (caps:=[none,some 1]) rfl ZR (piK K rfl (pu 5)) (fun _ _ _ _=>Ql (i:=0) (show (["_law_title","_law_table"]:List Str).Nodup by decide +kernel) rfl (Or.inl rfl) (.inr rfl)) (fun _ _ _ _=>Xa (PW.pt (X7 (Qq Y8 (Qp (ixK K rfl) (Q4 (Q9 hr) (pu 1) (pu 0) (fun _ _=>rfl)) Qb (fun _ _=>rfl)) Zh (Qu _)) (Xy (Qq Y8 (Qp (ixK K rfl) (Q4 (Q9 hr) (pu 1) (pu 0) (fun _ _=>rfl)) Qb (fun _ _=>rfl)) Zh (Qu _)))))) (fun _ _ _ _=>(pu 0))) (QC Qd) (Qu _)) (Qf (Qr (QE (Qa QR (Qa (pu 5) (Qa Zh Qd)))))) Qx)
   (Qc (Qk (i:=7) sc_l_block.nd rfl (Or.inl rfl) (Qs fR (hrm hr) rfl (Qa (pu 1) (Qa (pu 5) Qd))))
   (Qc (QL (PW.pt (Xf (Qq (eqM K rfl hr.units) (Qg Qt (Qo (YA K rfl) (by rfl) T.aP Eh (Qa (pu 5) Qd)) Qb) Qb (Qu _)) (ZP (Qq Pq (Qp (ixK K rfl) (pu 7) Qb (fun _ _=>rfl)) (Qp (ixK K rfl) (pu 7) Qb (fun _ _=>rfl)) (Qu _))))) (Qf (Qr (QE (Qa QR (Qa (pu 5) (Qa (pu 7) Qd)))))) Qx)
   (Qf (Qr (QE (Qa QR (Qa (QE (Qa QR (Qa (pu 5) (Qa (pu 7) Qd)))) (Qa Zh Qd))))))))))))))))),?_⟩
 generalize hR:ZH (Z4 _ (Zt 4)) _=R;walk_at "go";walk_at "dg";intro dw hdw;generalize e_n1:upd H dw _=H1 at *;obtain ⟨n1,k1⟩:=nwH hdw e_n1;refine ⟨lk,rfl,⟨_,SqL.of (n1 _ _ hk)⟩,?_⟩;refine Xn (xs:=kn.map V.str) (fun i σ' H'=>∃ (kvs:List (Key×V)) (x3:Option V),σ'=[some (.ref lk),some (.ref d),some (.ref dw),x3,none,none,none,none]/\Same H H'/\H' dw=some (.dK kvs)/\BY H' (kn.take i) (wi (nbR rs) kn) kvs) ⟨[],none,rfl,n1,k1,⟨rfl,fun i s h=>by simp at h⟩⟩ (fun i σ' H' _ h=>by obtain ⟨_,_,_,g,_⟩:=h;exact SqL.of (g _ _ hk)) ?_ ?_
 ·rintro i v _ H3 hv ⟨kvs,x3,rfl,g3,d3,lo⟩;rw [Fx] at hv;obtain ⟨s,hs,rfl⟩:=FO.mp hv;have sk:=FD hs;have nin:s ∉ kn.take i:=by
   have:=Xv (f:=id) (l:=kn) (by rw [Es];exact knd) hs;rwa [Es] at this
  have kvl:=lo.1;rw [FX] at kvl;obtain ⟨r,r1,r2,r3,r4⟩:=KJ hRs (knm s sk);obtain ⟨v,hv1,hRr⟩:=hrow s r r3;obtain ⟨pr,lc,lo',rfl,hTr,⟨cv,kc,hC⟩,hOl⟩:=hRr.same g3;have cl60:=hRs.cl r r1;walk_at "go";try simp only [QU]
  walk_at "dg";refine ⟨d,.ref pr,rfl,by have:=DGet.k (k:=Sum.inr s) (g3 _ _ tkd);rw [hv1] at this;exact this,?_⟩;walk_at "go";refine ⟨lc,rfl,⟨_,SqL.of kc⟩,Zy (xs:=cv) (fun j acc σ' H'=>∃ x0 x1:Option V,σ'=[x0,x1,some (.ref lk)]/\H'=H3/\acc=(((r.cs.take j).map (·.1)).filter fun y=>decide (y∈kn)).map V.str) ⟨none,none,rfl,rfl,rfl⟩ (fun i acc σ' H' _ h=>by obtain ⟨_,_,_,rfl,_⟩:=h;exact SqL.of kc) (by rw [<-hC.1];omega) ?_ ?_⟩
  ·rintro j u acc _ H4 hu hacc ⟨x0,x1,rfl,e4,rfl⟩;rw [e4];obtain ⟨c,hc,pc,zc,rfl,hTc,hz⟩:=hC.getV hu;have hj:=Qw hu;have st:((r.cs.take (j+1)).map (·.1)).filter (fun y=>decide (y∈kn))=((r.cs.take j).map (·.1)).filter (fun y=>decide (y∈kn))++[c.1].filter (fun y=>decide (y∈kn)):=by rw [FA,hc,Fz,ED];rfl
   refine ZG hTc rfl ?_;walk_at "go";refine Kb (SqL.of (g3 _ _ hk)) ?_;walk_at "go";refine QK (fun c1=>?_) (fun c1=>?_)
   ·refine CN.mk hj (by rw [Fv,FH];omega) ⟨_,_,rfl,rfl,?_⟩;rw [st,ET (by simpa using c1),Fz];rfl
   ·refine CN.mk hj (by omega) ⟨_,_,rfl,rfl,?_⟩;rw [st,EU (by simpa using c1),E3,Ec]
  ·rintro acc _ H4 ⟨x0,x1,rfl,e4,rfl⟩ l5 hl5;rw [e4] at hl5 ⊢;rw [<-hC.1,FC,<-r4];generalize e_n5:upd H3 l5 _=H5 at *;obtain ⟨n5,k5⟩:=nwH hl5 e_n5;have k5:H5 l5=some (.lst ((wi (nbR rs) kn s).map V.str)):=k5;walk_at "dg";refine ⟨dw,_,rfl,DPut.k (k:=Sum.inr s) (n5 _ _ d3) (by unfold sizeLine;omega),?_⟩;rw [Xg _ (Z3 (UY lo) nin)];exact ⟨_,_,rfl,QB (g3.trans n5) hdw,Qe,LD lo d3 hs hl5 n5 k5⟩
 ·rintro _ H3 ⟨kvs,x3,rfl,g3,d3,lo⟩;rw [Fo,FC] at lo;have look:∀ s∈kn,∃ l,Zd kvs (Sum.inr s:Key)=some (.ref l)/\H3 l=some (.lst ((wi (nbR rs) kn s).map V.str)):=fun s hs=>by
   obtain ⟨i,hi⟩:=Ee hs;obtain ⟨l,h1,h2⟩:=lo.2 i s hi;exact ⟨l,YS (UY lo) knd h1,h2⟩
  subst hR;generalize hR:ZH (Z4 _ (Zt 5)) _=R;walk_at "go";simp only [QU];walk_at "go";refine ⟨lk,rfl,⟨_,SqL.of (g3 _ _ hk)⟩,Zy (xs:=kn.map V.str) (fun i acc σ' H'=>∃ x0:Option V,σ'=[x0,some (.ref dw)]/\H'=H3/\acc=((kn.take i).map fun s=>((wi (nbR rs) kn s).length:Int)).map V.int) ⟨none,rfl,rfl,rfl⟩ (fun i acc σ' H' _ h=>by obtain ⟨_,_,e,_⟩:=h;rw [e];exact SqL.of (g3 _ _ hk)) (by rw [Fo];omega) ?_ ?_⟩
  ·rintro i v acc _ H4 hv hacc ⟨x0,rfl,e4,rfl⟩;rw [e4];rw [Fx] at hv;obtain ⟨s,hs,rfl⟩:=FO.mp hv;have hi:i<(kn.map V.str).length:=by rw [Fo];exact Qw hs
   obtain ⟨l,v1,v2⟩:=look s (FD hs);simp only [ZK];walk_at "dg";refine ⟨dw,.ref l,rfl,by have:=DGet.k (k:=Sum.inr s) d3;rw [v1] at this;exact this,?_⟩;refine ZL (SqL.of v2) ?_;have el:((((wi (nbR rs) kn s).map V.str).length:Nat):Int)=((wi (nbR rs) kn s).length:Int):=by rw [Fo]
   rw [el];refine CN.mk hi (by rw [Fv,FH];omega) ⟨_,rfl,(by first | rfl | trivial),?_⟩;rw [FA,hs,Fz,Fz];rfl
  rintro acc _ H4 ⟨x0,rfl,e4,rfl⟩ p5 hp5;rw [e4] at hp5 ⊢;rw [Fo,FC];generalize e_n5:upd H3 p5 _=H5 at *;obtain ⟨n5,k_n5⟩:=nwH hp5 e_n5;refine ⟨p5,_,rfl,SqL.of k_n5,by rw [Fo,hkt];simp,fun M hM hmax=>?_⟩;have g5:=g3.trans n5;obtain ⟨s,hs,eM⟩:=FK.mp hM;have hmx:∀ u∈kn,((wi (nbR rs) kn u).length:Int)<=M:=fun u hu=>hmax _ (FK.mpr ⟨u,hu,rfl⟩)
  have hk5:=g5 _ _ hk;walk_at "go";refine QK (fun c0=>?_) (fun c0=>?_)
  ·have e:=Lj (rs:=rs) (kn:=kn) fun u hu=>Dq.mp (by have:=hmx u hu;omega)
   rw [e] at q;refine ⟨by decide,fun p6 hp6=>?_⟩;generalize e_n6:upd H5 p6 _=H6 at *;obtain ⟨n6,k_n6⟩:=nwH hp6 e_n6;have f6:Fq K H6 0 (.ref p6):=Fq.int (i:=0) (SqT.of k_n6);refine ⟨by decide,fun p7 hp7=>?_⟩;generalize e_n7:upd H6 p7 _=H7 at *;obtain ⟨n7,k_n7⟩:=nwH hp7 e_n7;have k7:SqT K H7 p7 [.str (Str.ofString "alone"),.ref lk,.ref p6]:=SqT.of k_n7;refine ⟨by decide,fun p8 hp8=>?_⟩;have n8:=Qi hp8 (.tup [.str (Str.ofString "block"),.ref p7,.non]);exact q rfl p8 p7 lk (.ref p6) _ (g5.trans (n6.trans (n7.trans n8))) (.inl rfl) (SqT.of Qe) (n8.sqT k7) ((n6.trans (n7.trans n8)) _ _ hk5) (f6.same (n7.trans n8))
  walk_at "go";refine QK (fun c=>?_) (fun c=>?_)
  ·have c:M > 1:=by first | exact Dp c | exact c
   have e:=Lg (rs:=rs) hs (by omega);rw [e] at qb;walk_at "go";refine ⟨by decide,fun p6 hp6=>?_⟩;have n6:=Qi hp6 (.tup [.str (Str.ofString "tangled"),.ref lk,.non]);exact qb rfl p6 lk .non _ (g5.trans n6) (SqT.of Qe) (n6 _ _ hk5) rfl
  have c:¬ M > 1:=fun h=>by first | exact c (EC h) | exact c h
  have b1:∀ u∈kn,(wi (nbR rs) kn u).length<=1:=fun u hu=>by have:=hmx u hu;omega
  have b2:∃ u∈kn,wi (nbR rs) kn u≠[]:=⟨s,hs,fun e=>by rw [e] at eM;exact c0 eM.symm⟩
  obtain ⟨r1,r2,r3,r4,r5⟩:=ring b1 b2;have rg:=rgof b1 b2;have it0:=fun {j:Nat} (hj:j<kn.length)=>Bt (nb:=nbR rs) hkt hj
  have klp:0<kn.length:=by rw [hkt];simp
  subst hR;generalize hR:ZH (Ud _ _ _) _=R;walk_at "go";refine Zj (SqL.of hk5) (v:=.str f) (QP (j:=0) (by rw [hkt];rfl)) ?_;walk_at "go";refine ⟨by decide,fun lr hlr=>?_⟩;generalize e_n6:upd H5 lr _=H6 at *;obtain ⟨n6,k6⟩:=nwH hlr e_n6;have g6:=g5.trans n6;have lr0:H lr=none:=g5.free hlr;have lr3:H3 lr=none:=n5.free hlr;walk_at "go";refine ZL (SqL.of (g6 _ _ hk)) ?_;rw [Fo];walk_at "go";have en:((kn.length:Int)-1).toNat=kn.length-1:=by omega
  refine ⟨by omega,by omega,?_⟩;try rw [en]
  refine J0 (fun i σ' H'=>∃ x6:Option V,σ'=[some (.ref lk),some (.ref d),some (.ref dw),x3,some (.int M),some (.ref lr),x6,none]/\Same H3 H'/\H' lr=some (.lst (((rgo (nbR rs) kn).take (i+1)).map V.str))) ⟨none,rfl,n5.trans n6,?_⟩ ?_ ?_
  ·rw [k6,FA,r3];rfl
  ·rintro i _ H7 hi ⟨x6,rfl,g7,k7⟩;have hi':i<kn.length:=by omega
   have hi1:i+1<kn.length:=by omega
   have ati:=it0 hi';have atn:=it0 hi1;have inK:itO (nbR rs) kn f i∈kn:=(r2 _).mp (FD ati);obtain ⟨l,v1,v2⟩:=look _ inK;have wv:=r5 i _ ati;have wn:wi (nbR rs) kn (itO (nbR rs) kn f i)=[itO (nbR rs) kn f (i+1)]:=by
    rw [wv,r4,Da hi1,We atn]
   rw [wn] at v2;have tl:((rgo (nbR rs) kn).take (i+1)).length=i+1:=by rw [FX,r4];omega
   walk_at "go";refine ⟨.inl ⟨rfl,_,SqL.of k7⟩,?_⟩;refine Zj (SqL.of k7) (v:=.str (itO (nbR rs) kn f i)) (BU (by rw [Fx,Fo,tl,Nat.add_sub_cancel,E4,Fs (by omega),ati];rfl)) ?_;walk_at "dg";refine ⟨dw,.ref l,rfl,by have:=DGet.k (k:=Sum.inr (itO (nbR rs) kn f i)) (g7 _ _ d3);rw [v1] at this;exact this,?_⟩;refine Zj (SqL.of (g7 _ _ v2)) (v:=.str (itO (nbR rs) kn f (i+1))) rfl ?_;refine QV k7 (QF (by rw [Fo];omega)) ?_;refine ⟨_,rfl,QB g7 lr3,?_⟩;rw [Qe,FA (i:=i+1),atn,Fz];rfl
  ·rintro _ H7 ⟨x6,rfl,g7,k7⟩;have et:(rgo (nbR rs) kn).take (kn.length-1+1)=rgo (nbR rs) kn:=by rw [show kn.length-1+1=kn.length by omega,<-r4,FC]
   rw [et] at k7;obtain ⟨ts,hts⟩:∃ ts,rgo (nbR rs) kn=ts:=⟨_,rfl⟩
   have tnm:∀ s∈ts,s∈rs.map (·.nm):=fun s hs=>knm s ((r2 s).mp (by rw [hts];exact hs))
   have bjp:=Li b1 b2;have bwd:=Lf b1 b2;have brg:=Lh b1 b2;rw [hts] at k7 rg bjp bwd brg;have g07:=g3.trans g7;have tl8:=rg.2.1;subst hR;walk_at "go";simp only [QU];walk_at "go";refine ⟨lr,rfl,⟨_,SqL.of k7⟩,Zy (xs:=ts.map V.str) (fun i acc σ' H'=>∃ x0:Option V,σ'=[x0,some (.ref d)]/\H'=H7/\acc=((ts.take i).filter (Zs rs)).map V.str) ⟨none,rfl,rfl,rfl⟩ (fun i acc σ' H' _ h=>by obtain ⟨_,_,e,_⟩:=h;rw [e];exact SqL.of k7) (by rw [Fo];omega) ?_ ?_⟩
   ·rintro i v acc _ H8 hv hacc ⟨x0,rfl,e8,rfl⟩;rw [e8];rw [Fx] at hv;obtain ⟨s,hs,rfl⟩:=FO.mp hv;have hi:i<(ts.map V.str).length:=by rw [Fo];exact Qw hs
    obtain ⟨r,q1,q2,q3,q4⟩:=KJ hRs (tnm s (FD hs));obtain ⟨v,hv1,hRr⟩:=hrow s r q3;obtain ⟨pr,lc,lo',rfl,hTr,_,_⟩:=hRr.same g07;have ej:Zs rs s=(r.un.isSome||r.lm.isSome):=by unfold Zs;rw [q3]
    have st:(ts.take (i+1)).filter (Zs rs)=(ts.take i).filter (Zs rs)++[s].filter (Zs rs):=by rw [FA,hs,ED];rfl
    have yes:Zs rs s=true->CN (fun i acc σ' H'=>∃ x0:Option V,σ'=[x0,some (.ref d)]/\H'=H7/\acc=((ts.take i).filter (Zs rs)).map V.str) (ts.map V.str).length i (((ts.take i).filter (Zs rs)).map V.str++[V.str s]) [some (.str s),some (.ref d)] H7:=fun c=>by
     refine CN.mk hi (by rw [Fv,FH];omega) ⟨_,rfl,rfl,?_⟩;rw [st,ET c,Fz];rfl
    have no:Zs rs s=false->CN (fun i acc σ' H'=>∃ x0:Option V,σ'=[x0,some (.ref d)]/\H'=H7/\acc=((ts.take i).filter (Zs rs)).map V.str) (ts.map V.str).length i (((ts.take i).filter (Zs rs)).map V.str) [some (.str s),some (.ref d)] H7:=fun c=>by
     refine CN.mk hi (by omega) ⟨_,rfl,rfl,?_⟩;rw [st,EU (by rw [c];decide),E3,Ec]
    walk_at "dg";refine ⟨d,.ref pr,rfl,by have:=DGet.k (k:=Sum.inr s) (g07 _ _ tkd);rw [hv1] at this;exact this,?_⟩;refine ZZ hTr rfl ?_;refine ⟨trivial,QK (fun c=>yes ?_) (fun c=>?_)⟩
    ·rw [ej];cases hl:r.lm with
     | none=>rw [hl] at c;exact absurd rfl c
     | some _=>simp
    walk_at "dg";refine ⟨d,.ref pr,rfl,by have:=DGet.k (k:=Sum.inr s) (g07 _ _ tkd);rw [hv1] at this;exact this,?_⟩;refine ZZ hTr rfl ?_;have hl:r.lm=none:=by
     cases hl:r.lm with
     | none=>rfl
     | some _=>rw [hl] at c;exact absurd (fun h=>nomatch h) c
    refine ⟨trivial,QK (fun c=>yes ?_) (fun c=>no ?_)⟩
    ·rw [ej];cases hu:r.un with
     | none=>rw [hu] at c;exact absurd rfl c
     | some _=>simp
    ·rw [ej,hl];cases hu:r.un with
     | none=>rfl
     | some _=>rw [hu] at c;exact absurd (fun h=>nomatch h) c
   ·rintro acc _ H8 ⟨x0,rfl,e8,rfl⟩ l8 hl8;rw [e8] at hl8 ⊢;rw [Fo,FC];generalize e_n8:upd H7 l8 _=H8 at *;obtain ⟨n8,k8⟩:=nwH hl8 e_n8;refine ⟨by decide,fun p9 hp9=>?_⟩;generalize e_n9:upd H8 p9 _=H9 at *;obtain ⟨n9,k_n9⟩:=nwH hp9 e_n9;refine WW (b:=decide (ts.filter (Zs rs)=[])) (ZF (SqL.of (n9 _ _ k8))) (ZF (l:=[]) (SqL.of k_n9)) JG (by rw [EM,KB]) ?_;have g79:=n8.trans n9;have g09:=g07.trans g79;have k9:=g79 _ _ k7;have anyj:ts.any (Zs rs)=!decide (ts.filter (Zs rs)=[]):=by
     rw [F0,EO,E8,DE,List.any_eq_true];exact ⟨fun ⟨x,h1,h2⟩ h=>h x h1 h2,fun h=>Ex fun no=>h fun x h1 h2=>no ⟨x,h1,h2⟩⟩
    walk_at "go";refine QK (fun c=>?_) (fun c=>?_)
    ·have hj:ts.any (Zs rs)=true:=by rw [anyj];simpa using c
     have e:=bjp hj;rw [e] at qb;refine ⟨by decide,fun pa hpa=>?_⟩;have na:=Qi hpa (.tup [.str (Str.ofString "jumps"),.ref lr,.non]);exact qb rfl pa lr .non _ (g09.trans na) (SqT.of Qe) (na _ _ k9) rfl
    have hj:ts.any (Zs rs)=false:=by rw [anyj];simpa using c
    walk_at "go";refine ⟨d,lr,rs,ts,rfl,rfl,hTb.same g09,k9,rg,fun z Ha ga fa=>?_⟩;have g0a:=g09.trans ga;have ka:=ga _ _ k9;obtain ⟨pz,rfl,hz⟩:=id fa;walk_at "go";refine ZL (SqL.of ka) ?_;rw [Fo];walk_at "go";have ev:((ts.length:Int) % 2=0)↔ts.length % 2=0:=by omega
    refine ⟨trivial,QK (fun c=>?_) (fun c=>?_)⟩
    ·refine ZZ hz rfl ?_;refine ZZ hz rfl ?_;walk_at "go";refine QK (fun c2=>?_) (fun c2=>?_)
     ·have c2:¬ ZU rs ts ts.length<1:=rge_one.mp (by simpa using c2);have e:=bwd hj (ev.mp c) c2;rw [e] at qb;refine ⟨by decide,fun pb hpb=>?_⟩;have nb:=Qi hpb (.tup [.str (Str.ofString "widens"),.ref lr,.ref pz]);exact qb rfl pb lr (.ref pz) _ (g0a.trans nb) (SqT.of Qe) (nb _ _ ka) (fa.same nb)
     ·have hn:¬ (ts.length % 2=0/\¬ JU rs ts<1):=fun h=>c2 (by have:=rge_one (q:=ZU rs ts ts.length) |>.mpr h.2;simpa using this)
      walk_at "go";have e:=brg hj hn;rw [e] at q;refine ⟨show 3<=sizeLine by decide,fun pb hpb=>?_⟩;generalize e_nb:upd Ha pb _=Hb at *;obtain ⟨nb,k_nb⟩:=nwH hpb e_nb;have kb:SqT K Hb pb [.str (Str.ofString "ring"),.ref lr,.ref pz]:=SqT.of k_nb;refine ⟨show 3<=sizeLine by decide,fun pc hpc=>?_⟩;have nc:=Qi hpc (.tup [.str (Str.ofString "block"),.ref pb,.non]);exact q rfl pc pb lr (.ref pz) _ (g0a.trans (nb.trans nc)) (.inr lr0) (SqT.of Qe) (nc.sqT kb) ((nb.trans nc) _ _ ka) (fa.same (nb.trans nc))
    ·have hn:¬ (ts.length % 2=0/\¬ JU rs ts<1):=fun h=>c (ev.mpr h.1)
     walk_at "go";have e:=brg hj hn;rw [e] at q;refine ⟨show 3<=sizeLine by decide,fun pb hpb=>?_⟩;generalize e_nb:upd Ha pb _=Hb at *;obtain ⟨nb,k_nb⟩:=nwH hpb e_nb;have kb:SqT K Hb pb [.str (Str.ofString "ring"),.ref lr,.ref pz]:=SqT.of k_nb;refine ⟨show 3<=sizeLine by decide,fun pc hpc=>?_⟩;have nc:=Qi hpc (.tup [.str (Str.ofString "block"),.ref pb,.non]);exact q rfl pc pb lr (.ref pz) _ (g0a.trans (nb.trans nc)) (.inr lr0) (SqT.of Qe) (nc.sqT kb) ((nb.trans nc) _ _ ka) (fa.same (nb.trans nc))
theorem Hi (K:W.Frag) {X:Cx}(h:X.K=K):OpR X (binaryOp .Add) (Rj K):=by subst h;exact Bg
theorem UZ {b:BT}(h:b.good=false):b.wd1≠Str.ofString "block"/\b.wd1≠Str.ofString "told":=by
 cases b with
 | al=>cases h
 | rg _ _=>cases h
 | tg=>exact ⟨by show Str.ofString "tangled"≠_;decide +kernel,by show Str.ofString "tangled"≠_;decide +kernel⟩
 | jp _=>exact ⟨by show Str.ofString "jumps"≠_;decide +kernel,by show Str.ofString "jumps"≠_;decide +kernel⟩
 | wd _ _=>exact ⟨by show Str.ofString "widens"≠_;decide +kernel,by show Str.ofString "widens"≠_;decide +kernel⟩
inductive φdue (K:W.Frag) (x y:V) (H:Hp) (Q:VK):Prop
 | mk (lr d:Addr) (rs:List Rw) (vs:List V) (gg:Str->Nat) (S:List Str) (en:Option Str) (h1:x=.ref lr) (h2:y=.ref d) (h3:H lr=some (.lst vs)) (h4:All2 (Rr K H) rs vs) (h5:Tb K H rs d) (h6:ROk rs) (h7:Gq (nbR rs) (rs.map (·.nm)) gg) (h8:Fin rs gg S en)
   (h9:en=none->∀ pt l ws H',Same H H'->SqT K H' pt [.str (Str.ofString "told"),.ref l,.non,.bl true]->H' l=some (.lst ws)->All2 (fun f v=>BkQ K rs gg (rs.map (·.nm)) H' f v fun _=>True) S ws->Q (.ref pt) H')
   (h10:∀ z,en=some z->∀ pt q w H',Same H H'->SqT K H' pt [.str (bt rs (kOf gg (rs.map (·.nm)) (gg z))).wd1,.ref q,w,.bl true]->H' q=some (.lst (((bt rs (kOf gg (rs.map (·.nm)) (gg z))).ts (kOf gg (rs.map (·.nm)) (gg z))).map V.str))->PwV K H' (bt rs (kOf gg (rs.map (·.nm)) (gg z))) w->Q (.ref pt) H'):φdue K x y H Q
theorem PwV.same {b:BT}{w:V}(h:PwV K H b w) (g:Same H H'):PwV K H' b w:=by
 unfold PwV at *;cases e:b.qo with
 | none=>rw [e] at h;exact h
 | some r=>rw [e] at h;exact (show Fq K H r w from h).same g
theorem Mm (T:Tx K mg t) (F:Fun K "_law_due" "_law_due" Jb f fd) (fU:Cal P w K mg base 5 "_law_block" ["_law_knot","_law_table"] (Sp2M (φlbk K))) (fW:Cal P w K mg base 1 "_law_next" ["_law_parts","_law_table","_law_placed"] (Sp3M (φlnx K))) (fX:Cal P w K mg base 2 "_law_knots" ["_law_rows"] (Sp1M (φlkn K))):FnOk P w K mg base CX0 6 f fd ["_law_rows","_law_table"] (Sp2 (φdue K)):=by
 refine F.ok sc_l_due ZV (fun cdv A outer s H vs Q E hr h=>?_);obtain ⟨_,_,rfl,lr,d,rs,vs,gg,S,en,rfl,rfl,hlr,hA,hTb,hRO,G,hFin,q,qb⟩:=h;have hRs:=hRO.rw;have hle:=hRs.le;refine ⟨_,((Qc (Qk (i:=2) sc_l_due.nd rfl (Or.inl rfl) (Qs fX (hrm hr) rfl (Qa (pu 0) Qd)))
   (Qc (Qk (i:=3) sc_l_due.nd rfl (Or.inl rfl) (QC Qd))
   (Qc (Qk (i:=4) sc_l_due.nd rfl (Or.inl rfl) (QC Qd))
   (Qc (QG FL rfl (QQ rfl T.aQ (Qa (Qo (YA K rfl) (by rfl) T.aP Eh (Qa (pu 2) Qd)) Qd)) (Ql (i:=5) sc_l_due.nd rfl (Or.inl rfl))
   (Qc (Qk (i:=6) sc_l_due.nd rfl (Or.inl rfl) (Qs fW (hrm hr) rfl (Qa (pu 2) (Qa (pu 1) (Qa (pu 3) Qd)))))
   (Qc (Qk (i:=7) sc_l_due.nd rfl (Or.inl rfl) (Qs fU (hrm hr) rfl (Qa (pu 6) (Qa (pu 1) Qd))))
   (Qc (QL (Qq (neM K rfl hr.units) (Qp (ixK K rfl) (pu 7) Qb (fun _ _=>rfl)) QR (Qu _)) (Qf (Qr (Qg (Hi K rfl) (pu 7) (QE (Qa Xu Qd))))) Qx)
   (Qc (QS (Zb K rfl F3 F7 F8 QO (pu 4) (Qa (Qp (ixK K rfl) (pu 7) Qb (fun _ _=>rfl)) Qd)))
   (Qf (Qk (i:=3) sc_l_due.nd rfl (Or.inl rfl) (Qg Qv (pu 3) (pu 6)))))))))
   (Qf (Qr (QE (Qa QR (Qa (pu 4) (Qa Zh (Qa Xu Qd)))))))))))),?_⟩
 walk_at "go";refine ⟨lr,rs,vs,gg,rfl,hlr,hA,hRs,G,fun lp ws H2 hlp g2 kp2 hW=>?_⟩;have all:=fun {j}=>hFin.all (j:=j)
 have at':=fun {j z}=>hFin.at (j:=j) (z:=z)
 have sqS:=hFin.sq;have hTb2:=hTb.same g2;have wl:=hW.1;have wnew:∀ a,V.ref a∈ws->∃ o,H2 a=some o:=fun a ha=>by
  obtain ⟨i,hi⟩:=Ee ha;obtain ⟨s,hs,a',e,_,h2⟩:=hW.getV hi;cases e;exact ⟨_,h2⟩
 have hW':=hW.imp (S:=fun (s:Str) v=>∃ q,v=V.ref q/\H2 q=some (.lst ((kOf gg (rs.map (·.nm)) (gg s)).map V.str))) fun _ _ ⟨a,e,_,h2⟩=>⟨a,e,h2⟩
 obtain ⟨nms,hns⟩:∃ nms,rs.map (·.nm)=nms:=⟨_,rfl⟩
 have nml:nms.length<=8:=by rw [<-hns,Fo];exact hle
 rw [hns] at q qb G all at' sqS wl;have full:=fun {ss} (h:Sqs (nbR rs) gg nms ss)=>h.full G.nd
 have Sl:S.length<=8:=by
  have:=ZI sqS.snd (m:=nms) fun z hz=>(sqS.mem hz).1
  omega
 walk_at "go";refine ⟨by decide,fun pl0 hpl0=>⟨by decide,fun lb hlb=>?_⟩⟩;generalize e_n3:upd H2 pl0 _=H3 at *;obtain ⟨n3,kp3⟩:=nwH hpl0 e_n3;generalize e_n4:upd H3 lb _=H4 at *;obtain ⟨n4,kb4⟩:=nwH hlb e_n4;have kp4:=n4 _ _ kp3;have lb2:H2 lb=none:=n3.free hlb;have plb:pl0≠lb:=(QD kp3 hlb).symm;have g24:=n3.trans n4;refine ZL (SqL.of (g24 _ _ kp2)) ?_;walk_at "go";have wl8:ws.length<=8:=by
  rw [<-wl];exact FQ (Ey _ _) nml
 refine ⟨by omega,by omega,?_⟩;refine J0 (fun i σ' H'=>∃ (pl:Addr) (bs:List V) (x5 x6 x7:Option V),i<=S.length/\σ'=[some (.ref lr),some (.ref d),some (.ref lp),some (.ref pl),some (.ref lb),x5,x6,x7]/\Same H2 H'/\H' pl=some (.lst ((plc gg nms (S.take i)).map V.str))/\H' lb=some (.lst bs)/\All2 (fun f v=>BkQ K rs gg nms H' f v fun q=>q≠lb) (S.take i) bs/\(plc gg nms (S.take i)).Nodup/\pl≠lb) ⟨pl0,[],none,none,none,FZ _,rfl,g24,kp4,kb4,All2.nil,Dw,plb⟩ ?_ ?_
 ·rintro i _ H5 hi ⟨pl,bs,x5,x6,x7,hiS,rfl,g5,kpl,kb,hB,pnd,plb'⟩;have hi':i<(nms.filter (isF gg nms)).length:=by rw [wl];omega
  have sqi:=sqS.take i;have il:(S.take i).length=i:=by rw [FX];omega
  obtain ⟨x,hx,no⟩:∃ x∈nms,gg x ∉ (S.take i).map gg:=Ex fun no=>by
   have:=(full sqi).mp fun x hx=>Ex fun h=>no ⟨x,hx,h⟩
   omega
  obtain ⟨z,hz⟩:=Jt G hx no;obtain ⟨zn,zf,zp,_⟩:=YH hz;have g25:=g5;walk_at "go";refine ⟨lp,d,pl,rs,gg,ws,S.take i,z,rfl,rfl,rfl,g5 _ _ kp2,hW'.imp fun _ _ ⟨a,e,h⟩=>⟨a,e,g5 _ _ h⟩,hTb2.same g5,hRs,by rw [hns];exact G,by rw [hns];exact kpl,by rw [hns];exact hz,fun q0 hq0 kq0=>?_⟩;rw [hns] at kq0;have q0b:q0≠lb:=by
   obtain ⟨o,ho⟩:=wnew q0 hq0;exact (QD ho lb2).symm
  walk_at "go";refine ⟨q0,d,rs,gg,z,kOf gg nms (gg z),rfl,rfl,hTb2.same g5,hRO,by rw [hns];exact G,by rw [hns],kq0,by rw [hns];exact zn,by rw [hns];exact zf,fun hgd pt pb qq zz H6 g6 hqq hT hTb' kqq fz=>?_,fun hbd pt qq w H6 g6 hT kqq hw=>?_⟩
  ·obtain ⟨hSi,_⟩:S[i]?=some z/\True:=by
    rcases at' hiS hz with ⟨h,_⟩ | ⟨_,_,h⟩
    ·exact ⟨h,trivial⟩
    ·rw [hgd] at h;cases h
   have hi1:i+1<=S.length:=Qw hSi;have eS:S.take (i+1)=S.take i++[z]:=by rw [FA,hSi];rfl
   have qqb:qq≠lb:=by
    rcases hqq with rfl | h
    ·exact q0b
    ·exact fun e=>by rw [e,kb] at h;cases h
   walk_at "go";refine ⟨.inl ⟨rfl,_,SqL.of (g6 _ _ kb)⟩,?_⟩;walk_at "go";have kb6:=g6 _ _ kb;have kpl6:=g6 _ _ kpl;have bsl:bs.length<=8:=by rw [<-hB.1];omega
   refine QV kb6 (QF (by omega)) ?_;have new6:BkQ K rs gg nms H6 z (.ref pb) (fun q=>q≠lb):=⟨pb,qq,zz,rfl,hTb',kqq,fz,qqb⟩
   have hB7:All2 (fun f v=>BkQ K rs gg nms (upd H6 lb (.lst (bs++[.ref pb]))) f v fun q=>q≠lb) (S.take i++[z]) (bs++[.ref pb]):=(hB.imp fun _ _ h=>(h.same g6).put kb6 fun _ n=>n).snoc (new6.put kb6 fun _ n=>n);have g27:Same H2 (upd H6 lb (.lst (bs++[.ref pb]))):=QB (g5.trans g6) lb2;have kpl7:(upd H6 lb (.lst (bs++[.ref pb]))) pl=some (.lst ((plc gg nms (S.take i)).map V.str)):=by rw [Qj plb'];exact kpl6
   have kb7:(upd H6 lb (.lst (bs++[.ref pb]))) lb=some (.lst (bs++[.ref pb])):=Qe;have kq7:(upd H6 lb (.lst (bs++[.ref pb]))) q0=some (.lst ((kOf gg nms (gg z)).map V.str)):=by rw [Qj q0b];exact g6 _ _ kq0
   generalize upd H6 lb (.lst (bs++[.ref pb]))=H7 at *;have pll:(plc gg nms (S.take i)).length<=8:=by
    have:=ZI pnd (m:=nms) fun z hz=>(plc_mem.mp hz).1
    omega
   have kzl:(kOf gg nms (gg z)).length<=8:=FQ (Ey _ _) nml;refine Vx ⟨pl,q0,_,_,rfl,rfl,kpl7,kq7,by simp only [Fo];unfold sizeLine;omega,fun pn hpn=>?_⟩;rw [<-Fz,<-Y6,<-eS];have n8:=Qi hpn (.lst ((plc gg nms (S.take (i+1))).map V.str));have hB8:All2 (fun f v=>BkQ K rs gg nms H7 f v fun q=>q≠lb) (S.take (i+1)) (bs++[.ref pb]):=by rw [eS];exact hB7
   refine ⟨pn,bs++[.ref pb],_,_,_,hi1,rfl,g27.trans n8,Qe,n8 _ _ kb7,hB8.imp fun _ _ h=>h.same n8,?_,QD kb7 hpn⟩;rw [eS,Y6];refine ER.mpr ⟨pnd,G.nd.sublist Dk,fun a ha b hb e=>?_⟩;subst e;have h1:=(plc_mem.mp ha).2;rw [(kOf_mem.mp hb).2] at h1;exact zp h1
  ·obtain ⟨ee,_⟩:en=some z/\True:=by
    rcases at' hiS hz with ⟨_,h⟩ | ⟨_,h,_⟩
    ·rw [hbd] at h;cases h
    ·exact ⟨h,trivial⟩
   have nb:=(UZ hbd).1;walk_at "go";rw [Fs nb];walk_at "go";refine ⟨by decide,fun p7 hp7=>?_⟩;generalize e_n7:upd H6 p7 _=H7 at *;obtain ⟨n7,k_n7⟩:=nwH hp7 e_n7;have k7:SqT K H7 p7 [.bl true]:=SqT.of k_n7;refine ⟨pt,p7,_,_,rfl,rfl,n7.sqT hT,k7,(fun h=>nomatch h),by show 4<=sizeLine;decide,(fun h=>nomatch h),fun _ p8 hp8=>?_⟩;have n8:=Qi hp8 (.tup ([.str (bt rs (kOf gg nms (gg z))).wd1,.ref qq,w]++[.bl true]));exact qb z ee p8 qq w _ (g2.trans (g5.trans (g6.trans (n7.trans n8)))) (SqT.of Qe) ((n7.trans n8) _ _ kqq) (hw.same (n7.trans n8))
 ·rintro _ H5 ⟨pl,bs,x5,x6,x7,hiS,rfl,g5,kpl,kb,hB,pnd,plb'⟩;have hn:ws.length<=S.length:=by omega
  have en':(S.take ws.length).length=(nms.filter (isF gg nms)).length:=by rw [FX,wl];omega
  obtain ⟨eS,ee⟩:=all hn ((full (sqS.take ws.length)).mpr en');have hB:All2 (fun f v=>BkQ K rs gg nms H5 f v fun q=>q≠lb) (S.take ws.length) bs:=by simpa using hB
  rw [eS,FC] at hB;walk_at "go";refine ⟨by decide,fun p6 hp6=>?_⟩;have n6:=Qi hp6 (.tup [.str (Str.ofString "told"),.ref lb,.non,.bl true]);exact q ee p6 lb bs _ (g2.trans (g5.trans n6)) (SqT.of Qe) (n6 _ _ kb) (hB.imp fun _ _ h=>by
   obtain ⟨b,q,z,h1,h2,h3,h4,_⟩:=h.same n6;exact ⟨b,q,z,h1,h2,h3,h4,trivial⟩)
structure JC (K:W.Frag) (t:Adr) (C:Addr) (f1 f2 f3:Bool):Prop where
 e:Zi K C
 x:WV K C
 n:NoAttr K C "titles"
 y1:W.kitOne K (.ref C) (.ref t.aD)=some f1
 y2:W.kitOne K (.ref C) (.ref t.aB)=some f2
 y3:W.kitOne K (.ref C) (.ref t.aA)=some f3
 y4:W.kitOne K (.ref C) (.ref t.bY)=some false
 y5:W.kitOne K (.ref C) (.ref t.bZ)=some false
 y6:W.kitOne K (.ref C) (.ref t.c6)=some false
 y7:W.kitOne K (.ref C) (.ref t.c7)=some false
 y8:W.kitOne K (.ref C) (.ref t.bW)=some false
 y9:W.kitOne K (.ref C) (.ref t.bV)=some false
 ya:W.kitOne K (.ref C) (.ref t.bX)=some false
 yb:W.kitOne K (.ref C) (.ref t.c4)=some false
 yc:W.kitOne K (.ref C) (.ref t.c8)=some false
 yh:W.kitOne K (.ref C) (.ref t.bU)=some true
 yv:W.kitOne K (.ref C) (.type "ValueError")=some true
def bI (b:Bool):Int:=if b=true then 1 else 0
inductive φjust (K:W.Frag) (t:Adr) (ea:Addr) (x:V) (H:Hp) (Q:VK):Prop
 | mk (C d l:Addr) (f1 f2 f3:Bool) (fs:List (Str×V)) (vs:List V) (h1:x=.ref ea) (h2:H ea=some (.ext (ExcD ea (.ref C) (some d)))) (h3:JC K t C f1 f2 f3) (h4:bI f1+bI f2+bI f3=1) (h5:H d=some (.ext (XD d fs))) (h6:fs.lookup (Str.ofString "titles")=some (.ref l)) (h7:H l=some (.lst vs))
   (h8:∀ H',Same H H'->Q (.bl true) H'):φjust K t ea x H Q
theorem G2 (T:Tx K mg t) (F:Fun K "_law_just" "_law_just" Y1 f fd):FnOkH P w K mg base 1 f fd ["_law_e"] (fun ea=>Sp1 (φjust K t ea)):=by
 refine F.okH sc_l_just (fun _=>Wq) (fun cdv A ea outer s H vs Q E hr h=>?_);obtain ⟨_,rfl,C,d,l,f1,f2,f3,fs,vs,rfl,he,J,hs,hd,hfl,hl,q⟩:=h;refine ⟨_,((Qc (Qk (i:=1) sc_l_just.nd rfl (Or.inl rfl) (QC (Qa (Qo (Xw K rfl) (by rfl) T.aJ boot_isinstance (Qa (pu 0) (Qa (Zo (v:=.ref _) rfl T.cU rfl) Qd))) (Qa (Qo (Xw K rfl) (by rfl) T.aJ boot_isinstance (Qa (pu 0) (Qa (Zo (v:=.ref _) rfl T.cV rfl) Qd))) (Qa (Qo (Xw K rfl) (by rfl) T.aJ boot_isinstance (Qa (pu 0) (Qa (Zo (v:=.ref _) rfl T.cW rfl) Qd))) (Qa (Qo (Xw K rfl) (by rfl) T.aJ boot_isinstance (Qa (pu 0) (Qa (Zo (v:=.ref _) rfl T.gR rfl) Qd))) Qd))))))
   (Qc (Qk (i:=1) sc_l_just.nd rfl (Or.inl rfl) (Qg Qv (pu 1) (QC (Qa (Qo (Xw K rfl) (by rfl) T.aJ boot_isinstance (Qa (pu 0) (Qa (Zo (v:=.ref _) rfl T.gS rfl) Qd))) (Qa (Qo (Xw K rfl) (by rfl) T.aJ boot_isinstance (Qa (pu 0) (Qa (Zo (v:=.ref _) rfl T.gU rfl) Qd))) (Qa (Qo (Xw K rfl) (by rfl) T.aJ boot_isinstance (Qa (pu 0) (Qa (Zo (v:=.ref _) rfl T.gV rfl) Qd))) (Qa (Qo (Xw K rfl) (by rfl) T.aJ boot_isinstance (Qa (pu 0) (Qa (Zo (v:=.ref _) rfl T.gP rfl) Qd))) Qd)))))))
   (Qc (Qk (i:=1) sc_l_just.nd rfl (Or.inl rfl) (Qg Qv (pu 1) (QC (Qa (Qo (Xw K rfl) (by rfl) T.aJ boot_isinstance (Qa (pu 0) (Qa (Zo (v:=.ref _) rfl T.gO rfl) Qd))) (Qa (Qo (Xw K rfl) (by rfl) T.aJ boot_isinstance (Qa (pu 0) (Qa (Zo (v:=.ref _) rfl T.gQ rfl) Qd))) (Qa (Qo (Xw K rfl) (by rfl) T.aJ boot_isinstance (Qa (pu 0) (Qa (Zo (v:=.ref _) rfl T.gT rfl) Qd))) (Qa (Qo (Xw K rfl) (by rfl) T.aJ boot_isinstance (Qa (pu 0) (Qa (Zo (v:=.ref _) rfl T.gW rfl) Qd))) Qd)))))))
   (Qc (QL (PW.pt (X7 (ZW (Zx (Qo (Xw K rfl) (by rfl) T.aJ boot_isinstance (Qa (pu 0) (Qa (Zo (v:=.ref _) rfl T.gN rfl) Qd))))) (Xy (ZW (Zx (Qo (Xw K rfl) (by rfl) T.aJ boot_isinstance (Qa (pu 0) (Qa (YB T.gJ W5) Qd)))))))) (Qf (Qr Xu)) Qx)
   (Qf (Qr (Je (Qo (Vh K rfl) (by rfl) T.aJ boot_isinstance (Qa (Y7 K rfl (pu 0)) (Qa (YB T.aM boot_list) Qd))) (Ju (Zl (eqM K rfl hr.units) (Qo (Nr (ea:=ea) K rfl hr.hd) (by rfl) T.gM boot_sum (Qa (Me (ea:=ea) (N:=["_law_flag"]) (caps:=[none]) hr.hd ZR (SR (ea:=ea) K rfl (pu 1)) (fun _ _ _ _=>Ql (i:=0) (show (["_law_flag"]:List Str).Nodup by decide +kernel) rfl (Or.inl rfl) (.inr rfl)) (fun _ _ _ _=>QW) (fun _ _ _ _=>(QJ WO (by rfl) T.cT boot_int (Qa (pu 0) Qd)))) Qd)) Qb (Qu _))))))))))),?_⟩
 walk_at "go";refine XG he J.e J.y1 ?_;refine XG he J.e J.y2 ?_;refine XG he J.e J.y3 ?_;refine XG he J.e J.y4 ?_;refine ⟨by show 4<=sizeLine;decide,fun p1 hp1=>?_⟩;generalize e_n1:upd H p1 _=H1 at *;obtain ⟨n1,k1⟩:=nwH hp1 e_n1;have he1:=n1 _ _ he;walk_at "go";refine XG he1 J.e J.y5 ?_;refine XG he1 J.e J.y6 ?_;refine XG he1 J.e J.y7 ?_;refine XG he1 J.e J.y8 ?_;refine ⟨by show 4<=sizeLine;decide,fun p2 hp2=>?_⟩;generalize e_n2:upd H1 p2 _=H2 at *;obtain ⟨n2,k2⟩:=nwH hp2 e_n2;refine Vx ⟨p1,p2,_,_,rfl,rfl,n2 _ _ k1,k2,by show 8<=sizeLine;decide,fun p3 hp3=>?_⟩;generalize e_n3:upd H2 p3 _=H3 at *;obtain ⟨n3,k3⟩:=nwH hp3 e_n3;have k3:H3 p3=some (.lst [.bl f1,.bl f2,.bl f3,.bl false,.bl false,.bl false,.bl false,.bl false]):=k3;have g3:=n1.trans (n2.trans n3);have he3:=g3 _ _ he;walk_at "go";refine XG he3 J.e J.y9 ?_;refine XG he3 J.e J.ya ?_;refine XG he3 J.e J.yb ?_;refine XG he3 J.e J.yc ?_;refine ⟨by show 4<=sizeLine;decide,fun p4 hp4=>?_⟩;generalize e_n4:upd H3 p4 _=H4 at *;obtain ⟨n4,k4⟩:=nwH hp4 e_n4;refine Vx ⟨p3,p4,_,_,rfl,rfl,n4 _ _ k3,k4,by show 12<=sizeLine;decide,fun p5 hp5=>?_⟩;generalize e_n5:upd H4 p5 _=H5 at *;obtain ⟨n5,k5⟩:=nwH hp5 e_n5;have k5:H5 p5=some (.lst ([f1,f2,f3,false,false,false,false,false,false,false,false,false].map V.bl)):=k5;have g5:=g3.trans (n4.trans n5);have he5:=g5 _ _ he;obtain ⟨fl,hfl'⟩:∃ fl,[f1,f2,f3,false,false,false,false,false,false,false,false,false]=fl:=⟨_,rfl⟩
 have fll:fl.length=12:=by rw [<-hfl'];rfl
 have fls:(fl.map bI).sum=1:=by
  rw [<-hfl'];show bI f1+(bI f2+(bI f3+(0+(0+(0+(0+(0+(0+(0+(0+(0+0)))))))))))=1;omega
 rw [hfl'] at k5;walk_at "go";refine XG he5 J.e J.yh ?_;walk_at "go";refine RW he5 J.e J.yv ?_;walk_at "go";refine ⟨ea,C,d,fs,.ref l,rfl,he5,g5 _ _ hd,J.e,J.x,J.n,hfl,?_⟩;refine Jn (.lst (g5 _ _ hl)) (by rfl) ?_;walk_at "go";simp only [QU,NF];walk_at "go";refine ⟨p5,rfl,⟨_,SqL.of k5⟩,PZ (xs:=fl.map V.bl) (fun i acc σ' H'=>∃ x0:Option V,σ'=[x0]/\H'=H5/\acc=((fl.take i).map bI).map V.int) ⟨none,rfl,rfl,rfl⟩ (fun i acc σ' H' _ h=>by obtain ⟨_,_,e,_⟩:=h;rw [e];exact SqL.of k5) (fun i acc σ' H' h=>by obtain ⟨_,_,e,_⟩:=h;rw [e];exact ME he5) (by rw [Fo];omega) ?_ ?_⟩
 ·rintro i v acc _ H6 hv hacc ⟨x0,rfl,e6,rfl⟩;rw [e6];rw [Fx] at hv;obtain ⟨b,hb,rfl⟩:=FO.mp hv;have hi:i<(fl.map V.bl).length:=by rw [Fo];exact Qw hb
  simp only [ZK];walk_at "go";refine .inr ⟨b,rfl,?_⟩;refine CN.mk hi (by rw [Fv,FH];omega) ⟨_,rfl,(by first | rfl | trivial),?_⟩;rw [FA,hb,Fz,Fz];rfl
 ·rintro acc _ H6 ⟨x0,rfl,e6,rfl⟩ p6 hp6;rw [e6] at hp6 ⊢;rw [Fo,FC];have n6:=Qi hp6 (.lst ((fl.map bI).map V.int));refine ⟨p6,fl.map bI,rfl,SqL.of Qe,ME (n6 _ _ he5),?_⟩;rw [fls];walk_at "go";exact q _ (g5.trans n6)
inductive φtold (K:W.Frag) (t:Adr) (x:V) (H:Hp) (Q:VK):Prop
 | mk (p:Addr) (rs:List Rw) (gg:Str->Nat) (S:List Str) (en:Option Str) (h1:x=.ref p) (h2:Of K t H rs p) (h3:ROk rs) (h4:Gq (nbR rs) (rs.map (·.nm)) gg) (h5:Fin rs gg S en)
   (h6:en=none->∀ pt l vs H',Same H H'->H l=none->SqT K H' pt [.str (Str.ofString "told"),.ref l,.non,.bl true]->H' l=some (.lst vs)->All2 (fun f v=>BkQ K rs gg (rs.map (·.nm)) H' f v fun q=>H q=none/\q≠l) S vs->Q (.ref pt) H')
   (h7:∀ z,en=some z->∀ pt l w H',Same H H'->H l=none->SqT K H' pt [.str (bt rs (kOf gg (rs.map (·.nm)) (gg z))).wd1,.ref l,w,.bl true]->H' l=some (.lst (((bt rs (kOf gg (rs.map (·.nm)) (gg z))).ts (kOf gg (rs.map (·.nm)) (gg z))).map V.str))->PwV K H' (bt rs (kOf gg (rs.map (·.nm)) (gg z))) w->Q (.ref pt) H'):φtold K t x H Q
theorem GW (T:Tx K mg t) (F:Fun K "_law_told" "_law_told" YV f fd) (fY:NA P w K mg base 8 "order" ["office"] (Rp1M (φord K t))) (cD:Ta P w K mg base 1 "_law_just" ["_law_e"] (fun ea=>Sp1M (φjust K t ea))):FnOk P w K mg base CX0 10 f fd ["_law_office_here"] (Sp1 (φtold K t)):=by
 refine F.ok sc_l_told Wq (fun cdv A outer s H vs Q E hr h=>?_);obtain ⟨_,rfl,p,rs,gg,S,en,rfl,hO,hRO,G,hFin,q,qb⟩:=h;refine ⟨_,((Qc (N5 (i:=2) UJ UJ UJ ⟨rfl,rfl,rfl⟩ rfl T.cU rfl T.cV rfl T.cW sc_l_told.nd rfl rfl (L5 (i:=1) sc_l_told.nd rfl (Or.inl rfl) (L4 fY (hrm hr) rfl rfl (Qa (pu 0) Qd))) (fun ea=>(Qf (Qr (QE (Qa QR (Qa (Y7 K rfl (pu 2)) (Qa Zh (Qa (KY cD (hr.hand ea (by decide)) rfl (Qa (pu 2) Qd)) Qd)))))))) (fun ea=>(Qf (Qr (QE (Qa QR (Qa (Y7 K rfl (pu 2)) (Qa Zh (Qa (KY cD (hr.hand ea (by decide)) rfl (Qa (pu 2) Qd)) Qd)))))))) (fun ea=>(Qf (Qr (QE (Qa QR (Qa (Y7 K rfl (pu 2)) (Qa (Y7 K rfl (pu 2)) (Qa (KY cD (hr.hand ea (by decide)) rfl (Qa (pu 2) Qd)) Qd)))))))))
   (Qf (Qr (QE (Qa QR (Qa (pu 1) (Qa Zh (Qa Xu Qd))))))))),?_⟩
 have jt:JC K t t.aD true false false:=⟨T.dQ,T.dA,T.dB,T.iK,T.iL,T.iM,T.iG,T.iH,T.iJ,T.iN,T.iE,T.iD,T.iF,T.iI,T.iO,T.iP,T.jN⟩
 have jj:JC K t t.aB false true false:=⟨T.dR,T.dC,T.dD,T.iY,T.iZ,T.j6,T.iT,T.iV,T.iX,T.j7,T.iR,T.iQ,T.iS,T.iW,T.j8,T.j9,T.jO⟩
 have jw:JC K t t.aA false false true:=⟨T.cX,T.bO,T.dE,T.jH,T.jI,T.jJ,T.jD,T.jE,T.jG,T.jK,T.jB,T.jA,T.jC,T.jF,T.jL,T.jM,T.jP⟩
 walk_at "go";simp only [Lw];walk_at "go";refine ⟨p,rs,gg,S,en,rfl,hO,hRO,G,hFin,fun ee l vs H1 hl g1 kl hB=>?_,fun z ee d H1 g1 xb=>?_⟩
 ·walk_at "go";refine ⟨by show 4<=sizeLine;decide,fun pt hpt=>?_⟩;have n2:=Qi hpt (.tup [.str (Str.ofString "told"),.ref l,.non,.bl true]);exact q ee pt l vs _ (g1.trans n2) hl (SqT.of Qe) (n2 _ _ kl) (hB.imp fun _ _ h=>h.same n2)
 ·have qb:=qb z ee;have bad:=(hFin.bd z ee).2;obtain ⟨l,fs,h1,h2,h3,h4,h5⟩:=xb;cases hb:bt rs (kOf gg (rs.map (·.nm)) (gg z)) with
  | al=>rw [hb] at bad;cases bad
  | rg _ _=>rw [hb] at bad;cases bad
  | tg=>
   rw [hb] at h4 h5 qb;rw [show BT.cl t BT.tg=t.aD from rfl];refine ⟨true,T.i7,?_⟩;rw [Fs rfl];intro e he;generalize e_n2:upd H1 e _=H2 at *;obtain ⟨n2,ke⟩:=nwH he e_n2;have ke:H2 e=some (.ext (ExcD e (.ref t.aD) (some d))):=ke;simp only [Wh];walk_at "go";refine ⟨e,t.aD,d,fs,.ref l,rfl,ke,n2 _ _ h1,T.dQ,T.dA,T.dB,h2,?_⟩;walk_at "go";refine ⟨t.aD,d,l,true,false,false,fs,_,rfl,ke,jt,by decide,n2 _ _ h1,h2,n2 _ _ h4,fun H3 g3=>?_⟩;walk_at "go";refine ⟨by show 4<=sizeLine;decide,fun pt hpt=>?_⟩;have n4:=Qi hpt (.tup [.str (Str.ofString "tangled"),.ref l,.non,.bl true]);exact qb pt l .non _ (g1.trans (n2.trans (g3.trans n4))) h3 (SqT.of Qe) ((n2.trans (g3.trans n4)) _ _ h4) rfl
  | jp ts=>
   rw [hb] at h4 h5 qb;rw [show BT.cl t (BT.jp ts)=t.aB from rfl];refine ⟨false,T.i8,?_⟩;rw [Fl (by decide)];refine ⟨true,T.i9,?_⟩;rw [Fs rfl];intro e he;generalize e_n2:upd H1 e _=H2 at *;obtain ⟨n2,ke⟩:=nwH he e_n2;have ke:H2 e=some (.ext (ExcD e (.ref t.aB) (some d))):=ke;simp only [Wh];walk_at "go";refine ⟨e,t.aB,d,fs,.ref l,rfl,ke,n2 _ _ h1,T.dR,T.dC,T.dD,h2,?_⟩;walk_at "go";refine ⟨t.aB,d,l,false,true,false,fs,_,rfl,ke,jj,by decide,n2 _ _ h1,h2,n2 _ _ h4,fun H3 g3=>?_⟩;walk_at "go";refine ⟨by show 4<=sizeLine;decide,fun pt hpt=>?_⟩;have n4:=Qi hpt (.tup [.str (Str.ofString "jumps"),.ref l,.non,.bl true]);exact qb pt l .non _ (g1.trans (n2.trans (g3.trans n4))) h3 (SqT.of Qe) ((n2.trans (g3.trans n4)) _ _ h4) rfl
  | wd ts r=>
   rw [hb] at h4 h5 qb;rw [show BT.cl t (BT.wd ts r)=t.aA from rfl];obtain ⟨v,v1,v2⟩:=h5 r rfl;refine ⟨false,T.iA,?_⟩;rw [Fl (by decide)];refine ⟨false,T.iB,?_⟩;rw [Fl (by decide)];refine ⟨T.iC,fun e he=>?_⟩;generalize e_n2:upd H1 e _=H2 at *;obtain ⟨n2,ke⟩:=nwH he e_n2;have ke:H2 e=some (.ext (ExcD e (.ref t.aA) (some d))):=ke;simp only [Wh];walk_at "go";refine ⟨e,t.aA,d,fs,.ref l,rfl,ke,n2 _ _ h1,T.cX,T.bO,T.dE,h2,?_⟩;walk_at "go";refine ⟨e,t.aA,d,fs,v,rfl,ke,n2 _ _ h1,T.cX,T.bO,T.dX,v1,?_⟩;walk_at "go";refine ⟨t.aA,d,l,false,false,true,fs,_,rfl,ke,jw,by decide,n2 _ _ h1,h2,n2 _ _ h4,fun H3 g3=>?_⟩;walk_at "go";refine ⟨by show 4<=sizeLine;decide,fun pt hpt=>?_⟩;have n4:=Qi hpt (.tup [.str (Str.ofString "widens"),.ref l,v,.bl true]);exact qb pt l v _ (g1.trans (n2.trans (g3.trans n4))) h3 (SqT.of Qe) ((n2.trans (g3.trans n4)) _ _ h4) (v2.same (n2.trans (g3.trans n4)))
def cpD (c:Str×Rat):D:=.tup [.str c.1,fr c.2.num c.2.den]
theorem Cp.rep {c:Str×Rat}(h:Cp K H c v):Rep K H (cpD c) v:=by
 obtain ⟨a,y,rfl,h1,h2⟩:=h;obtain ⟨b,rfl,r⟩:=h2.rep;refine .tup h1 rfl fun i d x e1 e2=>?_
 match i,e1,e2 with
 | 0,e1,e2=>cases e1;cases e2;exact .str _
 | 1,e1,e2=>cases e1;cases e2;exact r
 | k+2,e1,e2=>simp at e1
theorem Cl.rep (h:Cl K H cs l):Rep K H (.lst (cs.map cpD)) (.ref l):=by
 obtain ⟨vs,h1,h2⟩:=h;refine .lst (SqL.of h1) (by rw [Fo,h2.1]) fun i d x e1 e2=>?_
 rw [Fx] at e1;cases q:cs[i]? with
 | none=>rw [q] at e1;cases e1
 | some p=>
  rw [q] at e1;cases e1;exact (h2.2 i p x q e2).rep
theorem Hg:DB 30 (.lst (cs.map cpD)):=.lst fun d hd=>by
 obtain ⟨p,_,rfl⟩:=FK.mp hd;exact .tup fun d hd=>by
  simp at hd;rcases hd with rfl | rfl
  ·exact .str _
  ·exact RC
theorem Ol.rep (h:Ol K H os l):Rep K H (.lst (os.map prD)) (.ref l):=by
 obtain ⟨vs,h1,h2⟩:=h;refine .lst (SqL.of h1) (by rw [Fo,h2.1]) fun i d x e1 e2=>?_
 rw [Fx] at e1;cases q:os[i]? with
 | none=>rw [q] at e1;cases e1
 | some p=>
  rw [q] at e1;cases e1;obtain ⟨a,rfl,r⟩:=(h2.2 i p x q e2).rep;exact r
theorem Hf:DB 30 (.lst (os.map prD)):=.lst fun d hd=>by
 obtain ⟨p,_,rfl⟩:=FK.mp hd;exact .tup fun d hd=>by
  simp at hd;rcases hd with rfl | rfl
  ·exact .int _
  ·exact RC
def bkD (rs:List Rw) (gg:Str->Nat) (nms:List Str) (f:Str):D:=.tup [.str (bt rs (kOf gg nms (gg f))).wd1,.lst (((bt rs (kOf gg nms (gg f))).ts (kOf gg nms (gg f))).map D.str),fr (bt rs (kOf gg nms (gg f))).q.num (bt rs (kOf gg nms (gg f))).q.den]
theorem Pd {f:Str}{N:Addr->Prop}(h:BkQ K rs gg nms H f v N):Rep K H (bkD rs gg nms f) v:=by
 obtain ⟨b,q,z,rfl,h1,h2,h3,_⟩:=h;obtain ⟨pz,rfl,r⟩:=h3.rep;refine .tup h1 rfl fun i d x e1 e2=>?_
 match i,e1,e2 with
 | 0,e1,e2=>cases e1;cases e2;exact .str _
 | 1,e1,e2=>cases e1;cases e2;exact ZF (SqL.of h2)
 | 2,e1,e2=>cases e1;cases e2;exact r
 | k+3,e1,e2=>simp at e1
theorem db_txs' {l:List Str}:DB (n+1) (.lst (l.map D.str)):=.lst fun d hd=>by obtain ⟨z,_,rfl⟩:=FK.mp hd;exact .str _
theorem db_fr' {a:Int}:DB (n+1) (fr a b):=.tup fun d hd=>by
 simp at hd;rcases hd with rfl | rfl <;> exact .int _
def toD (rs:List Rw) (gg:Str->Nat) (nms S:List Str):D:=.tup [.str (Str.ofString "told"),.lst (S.map (bkD rs gg nms)),.non,.int 1]
theorem KM {pt:Addr}{N:Addr->Prop}(h1:SqT K H pt [.str (Str.ofString "told"),.ref l,.non,.bl true]) (h2:H l=some (.lst vs)) (h3:All2 (fun f v=>BkQ K rs gg nms H f v N) S vs):Rep K H (toD rs gg nms S) (.ref pt):=by
 refine .tup h1 rfl fun i d x e1 e2=>?_
 match i,e1,e2 with
 | 0,e1,e2=>cases e1;cases e2;exact .str _
 | 1,e1,e2=>
  cases e1;cases e2;refine .lst (SqL.of h2) (by rw [Fo,h3.1]) fun j d x f1 f2=>?_
  rw [Fx] at f1;obtain ⟨f,hf,rfl⟩:=FO.mp f1;exact Pd (h3.2 j f x hf f2)
 | 2,e1,e2=>cases e1;cases e2;exact .non
 | 3,e1,e2=>cases e1;cases e2;exact .bl true
 | k+4,e1,e2=>simp at e1
theorem RA:DB 30 (toD rs gg nms S):=.tup fun d hd=>by
 simp at hd;rcases hd with rfl | rfl | rfl | rfl
 ·exact .str _
 ·refine .lst fun d hd=>?_
  obtain ⟨f,_,rfl⟩:=FK.mp hd;exact .tup fun d hd=>by
   simp at hd;rcases hd with rfl | rfl | rfl
   ·exact .str _
   ·exact db_txs'
   ·exact db_fr'
 ·exact .non
 ·exact .int _
def pwD (b:BT):D:=match b.qo with
 | some r=>fr r.num r.den
 | none=>.non
theorem Pb {b:BT}{w:V}(h:PwV K H b w):Rep K H (pwD b) w:=by
 unfold PwV at h;unfold pwD;cases e:b.qo with
 | none=>rw [e] at h;rw [show w=V.non from h];exact .non
 | some r=>rw [e] at h;obtain ⟨p,rfl,z⟩:=(show Fq K H r w from h).rep;exact z
def baD (b:BT) (kn:List Str):D:=.tup [.str b.wd1,.lst ((b.ts kn).map D.str),pwD b,.int 1]
theorem KN {b:BT}{pt:Addr}{w:V}(h1:SqT K H pt [.str b.wd1,.ref l,w,.bl true]) (h2:H l=some (.lst ((b.ts kn).map V.str))) (h3:PwV K H b w):Rep K H (baD b kn) (.ref pt):=by
 refine .tup h1 rfl fun i d x e1 e2=>?_
 match i,e1,e2 with
 | 0,e1,e2=>cases e1;cases e2;exact .str _
 | 1,e1,e2=>cases e1;cases e2;exact ZF (SqL.of h2)
 | 2,e1,e2=>cases e1;cases e2;exact Pb h3
 | 3,e1,e2=>cases e1;cases e2;exact .bl true
 | k+4,e1,e2=>simp at e1
theorem RD {b:BT}:DB 30 (baD b kn):=.tup fun d hd=>by
 simp at hd;rcases hd with rfl | rfl | rfl | rfl
 ·exact .str _
 ·exact db_txs'
 ·unfold pwD;cases b.qo with
  | none=>exact .non
  | some r=>exact db_fr'
 ·exact .int _
theorem P0:((bt rs kn).ts kn).length=kn.length:=by
 have e:(rgo (nbR rs) kn).length=kn.length:=by unfold rgo;rw [Fo,E9]
 unfold bt;split
 ·rfl
 split
 ·rfl
 split
 ·exact e
 split
 ·exact e
 ·exact e
theorem Bz (hR:ROk rs) {g:Str->Nat}(G:Gq (nbR rs) (rs.map (·.nm)) g) {f:Str}(hf:f∈rs.map (·.nm)) (hi:isF g (rs.map (·.nm)) f=true) (hg:(bt rs (kOf g (rs.map (·.nm)) (g f))).good=true) :
  (bt rs (kOf g (rs.map (·.nm)) (g f))).ts (kOf g (rs.map (·.nm)) (g f))≠[]/\((bt rs (kOf g (rs.map (·.nm)) (g f))).ts (kOf g (rs.map (·.nm)) (g f))).length<=8/\RB 300 (bt rs (kOf g (rs.map (·.nm)) (g f))).q/\∃ rb:Bool,(bt rs (kOf g (rs.map (·.nm)) (g f))).wd1=if rb=true then Str.ofString "ring" else Str.ofString "alone":=by
 obtain ⟨kt,hkt⟩:=XQ hi;have kl:(kOf g (rs.map (·.nm)) (g f)).length<=8:=FQ (Ey _ _) (by rw [Fo];exact hR.rw.le);have rgof:=fun h1 h2=>NX hR G hf hi h1 h2
 generalize kOf g (rs.map (·.nm)) (g f)=kn at *;by_cases c1:∃ s∈kn,1<(wi (nbR rs) kn s).length
 ·obtain ⟨s,h1,h2⟩:=c1;rw [Lg h1 h2] at hg;cases hg
 by_cases c2:∀ s∈kn,wi (nbR rs) kn s=[]
 ·rw [Lj c2];exact ⟨(by show kn≠[];rw [hkt];exact List.cons_ne_nil _ _),kl,RB.zero (by decide),false,rfl⟩
 have b1:∀ u∈kn,(wi (nbR rs) kn u).length<=1:=fun u hu=>DC.mp fun h=>c1 ⟨u,hu,h⟩
 have b2:∃ u∈kn,wi (nbR rs) kn u≠[]:=Ex fun no=>c2 fun s hs=>Ex fun h=>no ⟨s,hs,h⟩
 have rg:=rgof b1 b2;cases hj:(rgo (nbR rs) kn).any (Zs rs) with
 | true=>rw [Li b1 b2 hj] at hg;cases hg
 | false=>
  by_cases c3:(rgo (nbR rs) kn).length % 2=0/\¬ JU rs (rgo (nbR rs) kn)<1
  ·rw [Lf b1 b2 hj c3.1 c3.2] at hg;cases hg
  ·rw [Lh b1 b2 hj c3];obtain ⟨_,_,_,pB⟩:=Y4 rg _ (Ft _);have:=rg.2.1;exact ⟨rg.1,rg.2.1,pB.mono (by omega),true,rfl⟩
theorem LQ {q:Rat}:decide (q.num<(q.den:Int))=decide (q<1):=by
 rw [F0,Em,Em];have:=rge_one (q:=q);constructor
 ·exact fun h=>Ex fun c=>by have:=this.mpr c;omega
 ·exact fun h=>Ex fun c=>this.mp (by omega) h
def Jq (K:W.Frag):Sp:=Sp1 fun x H Q=>∃ (a:Addr) (ns:List Int),x=.ref a/\SqL K H a (ns.map V.int)/\ns.length<=63/\Ka ns/\∀ H',Q (.bl true) H'
theorem KC (hl:ns.length<=63) (hB:Ka ns) (_:B0 H) (hS:SqL K H a (ns.map V.int)):Jq K [.ref a] H (fun v _=>v=.bl true) fun _ _ _=>False:=⟨_,rfl,a,ns,rfl,hS,hl,hB,fun _=>rfl⟩
theorem Py (T:Tx K mg t) (F:Fun K "law" "law" Jr f fd) (cE:Cal P w K mg base 10 "_law_told" ["_law_office_here"] (Sp1M (φtold K t))) (fZ:Cal P w K mg base 2 "narrows" ["block"] (Sp1M (φnar K))) (gA:Cal P w K mg base 1 "_law_shape" ["_law_block_here"] (Sp1M (φshape K))) (gC:Cal P w K mg base 6 "_law_due" ["_law_rows","_law_table"] (Sp2M (φdue K))) (gD:Cal P w K mg base 5 "_law_office" ["_law_rows","_law_cell"] (Sp2M (φoffice K t))) (aI:Cal P w K mg base 1 "_law_cell_at" ["_law_script","_law_k"] (Sp2M (φcell K))) (gE:Cal P w K mg base 5 "_law_free" ["_law_script","_law_many","_law_names_here"] (Sp3M (φfree K))) (gF:Cal P w K mg base 5 "_law_planted" ["_law_script","_law_many","_law_names_here","_law_calm"] (Sp4M (φplant K))) (gG:Cal P w K mg base 1 "_law_names" ["_law_cell"] (Sp1M (φnames K))):FnOk P w K mg base CX0 12 f fd ["_law_script"] (Jq K):=by
 refine F.ok sc_law (fun vs H Q E h=>by obtain ⟨_,rfl,_⟩:=h;rfl) (fun cdv A outer s H vs Q E hr h=>?_);obtain ⟨_,rfl,a,ns,rfl,hS,hnl,hB,q⟩:=h;refine ⟨_,((Qc (Qk (i:=1) sc_law.nd rfl (Or.inl rfl) (Qs aI (hrm hr) rfl (Qa (pu 0) (Qa Qb Qd))))
   (Qc (Qk (i:=2) sc_law.nd rfl (Or.inl rfl) (Qg Qt (pu 1) Qb))
   (Qc (Qk (i:=3) sc_law.nd rfl (Or.inl rfl) (Qs gG (hrm hr) rfl (Qa (Qs aI (hrm hr) rfl (Qa (pu 0) (Qa Qb Qd))) Qd)))
   (Qc (QL (Qq (eqM K rfl hr.units) (Qg Qt (Qg Qz (pu 1) Qb) Qb) Qb (Qu _)) (Qf (Qk (i:=4) sc_law.nd rfl (Or.inl rfl) (Qs gE (hrm hr) rfl (Qa (pu 0) (Qa (pu 2) (Qa (pu 3) Qd)))))) (Qf (Qk (i:=4) sc_law.nd rfl (Or.inl rfl) (Qs gF (hrm hr) rfl (Qa (pu 0) (Qa (pu 2) (Qa (pu 3) (Qa (Zl (eqM K rfl hr.units) (Qg Qt (Qg Qz (pu 1) Qb) Qb) Qb (Qu _)) Qd))))))))
   (Qc (Qk (i:=5) sc_law.nd rfl (Or.inl rfl) Z0)
   (Qc (QG FL rfl (piK K rfl (pu 4)) (Ql (i:=6) sc_law.nd rfl (Or.inl rfl))
   (Qf (Xb (Q9 hr) (pu 5) (Qp (ixK K rfl) (pu 6) Qb (fun _ _=>rfl)) (pu 6) rfl)))
   (Qc (Qk (i:=7) sc_law.nd rfl (Or.inl rfl) (Qs gD (hrm hr) rfl (Qa (pu 4) (Qa (Qs aI (hrm hr) rfl (Qa (pu 0) (Qa Qb Qd))) Qd))))
   (Qc (Qk (i:=8) sc_law.nd rfl (Or.inl rfl) (Qs gC (hrm hr) rfl (Qa (pu 4) (Qa (pu 5) Qd))))
   (Qc (Qk (i:=9) sc_law.nd rfl (Or.inl rfl) (Qs cE (hrm hr) rfl (Qa (pu 7) Qd)))
   (Qc (QL (PW.pt (X7 (Qq (neM K rfl hr.units) (pu 9) (pu 8) (Qu _)) (Xy (PW.pt (Xf (Qq (eqM K rfl hr.units) (Qp (ixK K rfl) (pu 8) Qb (fun _ _=>rfl)) QR (Qu _)) (ZP (ZW (Zx (Qo (WQ K rfl rfl) (by rfl) T.cR boot_all (Qa (Q8 (N:=["_law_block_here"]) (caps:=[none]) rfl ZR (piK K rfl (Qp (ixK K rfl) (pu 9) Qb (fun _ _=>rfl))) (fun _ _ _ _=>Ql (i:=0) (show (["_law_block_here"]:List Str).Nodup by decide +kernel) rfl (Or.inl rfl) (.inr rfl)) (fun _ _ _ _=>QW) (fun _ _ _ _=>(Qs gA (hrm hr) rfl (Qa (pu 0) Qd)))) Qd)))))))))) (Qf (Qr Xu)) Qx)
   (Qc (QG FL rfl (N8 K rfl rfl T.dO (Qa (Ze K rfl (pu 7)) (Qa (pu 4) Qd))) (pgK (n:=2) K rfl rfl (QA (Ql (i:=10) sc_law.nd rfl (Or.inl rfl)) (QA (Ql (i:=6) sc_law.nd rfl (Or.inl rfl)) Q7)))
   (Qf (QL (PW.pt (X7 (Qq (neM K rfl hr.units) (Ze K rfl (pu 10)) (Qp (ixK K rfl) (pu 6) Qb (fun _ _=>rfl)) (Qu _)) (Xy (Qq (neM K rfl hr.units) (Ze K rfl (pu 10)) (Qp (ixK K rfl) (pu 6) Qb (fun _ _=>rfl)) (Qu _))))) (Qf (Qr Xu)) Qx)))
   (Qc (QL (Qq (neM K rfl hr.units) (Qp (ixK K rfl) (pu 8) Qb (fun _ _=>rfl)) QR (Qu _)) (Qc (QS (Zb K rfl F3 F7 F8 QO (Qp (ixK K rfl) (pu 9) Qb (fun _ _=>rfl)) (Qa QR Qd)))
   (Qf (Qr (Zl (eqM K rfl hr.units) (Qs cE (hrm hr) rfl (Qa (pu 7) Qd)) (pu 8) (Qu _))))) Qx)
   (Qc (QG FL rfl (piK K rfl (Qp (ixK K rfl) (pu 9) Qb (fun _ _=>rfl))) (Ql (i:=11) sc_law.nd rfl (Or.inl rfl))
   (Qc (Qk (i:=12) sc_law.nd rfl (Or.inl rfl) (Qs fZ (hrm hr) rfl (Qa (pu 11) Qd)))
   (Qf (QL (PW.pt (X7 (ZW (Zx (Qo (Vh K rfl) (by rfl) T.aJ boot_isinstance (Qa (pu 12) (Qa (YB T.cS boot_bool) Qd))))) (Xy (Qq (neM K rfl hr.units) (pu 12) (Je (Zl (eqM K rfl hr.units) (Qp (ixK K rfl) (pu 11) Qb (fun _ _=>rfl)) QR (Qu _)) (Ju (Zl Jv (Qp (ixK K rfl) (Qp (ixK K rfl) (pu 11) Qb (fun _ _=>rfl)) Qb (fun _ _=>rfl)) (Qp (ixK K rfl) (Qp (ixK K rfl) (pu 11) Qb (fun _ _=>rfl)) Qb (fun _ _=>rfl)) (Qu _)))) (Qu _))))) (Qf (Qr Xu)) Qx))))
   (Qc (QG FL rfl (piK K rfl (Qp (ixK K rfl) (pu 9) Qb (fun _ _=>rfl))) (Ql (i:=11) sc_law.nd rfl (Or.inl rfl))
   (Qf (QS (Zb K rfl F3 F7 F8 QO (Qp (ixK K rfl) (pu 11) Qb (fun _ _=>rfl)) (Qa QR Qd)))))
   (Qf (Qr (Zl (eqM K rfl hr.units) (Qs cE (hrm hr) rfl (Qa (pu 7) Qd)) (pu 8) (Qu _))))))))))))))))))),?_⟩
 generalize hR:ZH (Z4 _ (Zt 5)) _=R;have key:∀ (D:Q3) (lr pn:Addr) (rs:List Rw) (vs:List V) (nms:List Str) (H2:Hp) (c:V) (m:Nat),D.rt=Q->SqL K H2 a (ns.map V.int)->H2 lr=some (.lst vs)->All2 (Rr K H2) rs vs->ROk rs->(∀ r∈rs,r.cs.length<=60/\r.os.length<=60)->R D [some (.ref a),some c,some (.int m),some (.ref pn),some (.ref lr),none,none,none,none,none,none,none,none] H2:=by
  intro D lr pn rs vs nms H2 c m hD hS2 klr hA hRO rok;have hRs:=hRO.rw;have hle:=hRs.le;have hvl:=hA.1;have rnd:=hRs.nd;have G:=SZ (nb:=nbR rs) hRs.nd fun x hx y hy=>(hRs.nb x hx).1 y hy
  obtain ⟨S,en,hFin⟩:=PU G;subst hR;generalize hR:ZH (Z4 _ (Zt 7)) _=R;walk_at "go";walk_at "dg";intro d hd;generalize e_g3:upd H2 d _=H3 at *;obtain ⟨g3,k3⟩:=nwH hd e_g3;refine ⟨lr,rfl,⟨_,SqL.of (g3 _ _ klr)⟩,Xn (xs:=vs) (fun i σ' H'=>∃ (kvs:List (Key×V)) (x6:Option V),σ'=[some (.ref a),some c,some (.int m),some (.ref pn),some (.ref lr),some (.ref d),x6,none,none,none,none,none,none]/\Same H2 H'/\H' d=some (.dK kvs)/\kvs.map (·.1)=((rs.map (·.nm)).take i).map Sum.inr/\kvs.map (·.2)=vs.take i) ⟨[],none,rfl,g3,k3,rfl,rfl⟩ (fun i σ' H' _ h=>by obtain ⟨_,_,_,g,_⟩:=h;exact SqL.of (g _ _ klr)) ?_ ?_⟩
  ·rintro i v _ H4 hv ⟨kvs,x6,rfl,g4,k4,ky,vl⟩;obtain ⟨r,hr,hRr⟩:=hA.getV hv;obtain ⟨pr,lc,lo,rfl,hT,_,_⟩:=hRr.same g4;have hrn:(rs.map (·.nm))[i]?=some r.nm:=by rw [Fx,hr];rfl
   have nin:r.nm ∉ (rs.map (·.nm)).take i:=by
    have:=Xv (f:=id) (l:=rs.map (·.nm)) (by rw [Es];exact rnd) hrn;rwa [Es] at this
   have kl:kvs.length<=8:=by
    have:=congrArg List.length ky;rw [Fo,Fo,FX,Fo] at this;omega
   walk_at "go";walk_at "dg";refine ⟨d,_,rfl,DPut.k (k:=Sum.inr r.nm) k4 (by unfold sizeLine;omega),?_⟩;rw [Xg _ (Z3 ky nin)];exact ⟨_,_,rfl,QB g4 hd,Qe,by rw [Fz,ky,FA,hrn,Fz];rfl,by rw [Fz,vl,FA,hv];rfl⟩
  rintro _ H4 ⟨kvs,x6,rfl,g4,k4,ky,vl⟩;rw [<-hvl,<-Fo (f:=(·.nm)),FC] at ky;rw [FC] at vl;have hTb:Tb K H4 rs d:=⟨kvs,k4,fun x r hx=>by
   have hr:=Dr hx;have ex:r.nm=x:=by simpa using Ds hx
   obtain ⟨n,hn⟩:=Ee hr;obtain ⟨v,hv⟩:∃ v,vs[n]?=some v:=⟨_,Fu (by rw [<-hvl];exact Qw hn)⟩
   refine ⟨v,?_,(hA.2 n r v hn hv).same g4⟩;rw [<-ex];refine YS ky rnd (i:=n) ?_;have h1:=congrArg (fun l:List Key=>l[n]?) ky;have h2:=congrArg (fun l:List V=>l[n]?) vl;simp only [Fx,hn,hv,EV] at h1 h2;obtain ⟨kv,e1,e2⟩:=FO.mp h2;rw [e1] at h1;rw [e1,<-e2];have h1:=FF h1;show some kv=some (Sum.inr r.nm,kv.2);rw [<-h1]⟩
  show R _ _ _;subst hR;generalize hR3:ZH (Ud _ (ZH (Jo _) _) _) _=R3;generalize hZ:ZH (LH (Bv K _) _ _) _=Z;walk_at "go";refine ⟨a,ns,60,rfl,rfl,g4.seq hS2,by decide,lr,rs,vs,_,rfl,g4 _ _ klr,hA.imp fun _ _ y=>y.same g4,rfl,(X4 hB 60).mono (by decide),hle,rok,fun po H6 g6 hof=>?_⟩;have klr6:=(g4.trans g6) _ _ klr;have hA6:=hA.imp fun _ _ y=>Rr.same y (g4.trans g6)
  have hTb6:=hTb.same g6;have zip:∀ (D':Q3) (xd xt:V) (Hx:Hp),D'.rt=Q->Same H6 Hx->(∀ (y6 y10:Option V) (Hy:Hp),Same Hx Hy->R3 D' [some (.ref a),some c,some (.int m),some (.ref pn),some (.ref lr),some (.ref d),y6,some (.ref po),some xd,some xt,y10,none,none] Hy)->Z D' [some (.ref a),some c,some (.int m),some (.ref pn),some (.ref lr),some (.ref d),x6,some (.ref po),some xd,some xt,none,none,none] Hx:=by
   intro D' xd xt Hx hD' gx k;obtain ⟨dx,fs,lk,ks,hp,hf,hk,hK,hnn⟩:=id hof;have hkl:=hK.1;subst hZ;walk_at "go";unfold Bv;walk_at "go";refine YR (gx _ _ hp) T.aU T.bN hf ?_;walk_at "go";refine ⟨lk,lr,rfl,⟨_,SqL.of (gx _ _ hk)⟩,⟨_,SqL.of (gx _ _ klr6)⟩,?_⟩;refine S1 (xs:=ks) (ys:=vs) (fun i σ' H'=>∃ y6 y10:Option V,σ'=[some (.ref a),some c,some (.int m),some (.ref pn),some (.ref lr),some (.ref d),y6,some (.ref po),some xd,some xt,y10,none,none]/\Same Hx H') rs.length (by omega) ⟨x6,none,rfl,Same.refl _⟩ (fun i σ' H' h=>by obtain ⟨_,_,_,g'⟩:=h;exact ⟨SqL.of ((gx.trans g') _ _ hk),SqL.of ((gx.trans g') _ _ klr6)⟩) ?_ ?_
   ·rintro i v v' _ H12 pp hv hv' ⟨y6,y10,rfl,g12⟩ hpp;obtain ⟨r,hr',kp,kdx,kfs,lc,lo,rfl,h1,h2,h3,h4,h5,h6,h7,h8⟩:=hK.getV hv;obtain ⟨r2,hr2,p,lc2,lo2,rfl,hT,hC,hO⟩:=hA6.getV hv';have er:r2=r:=FF (hr2.symm.trans hr');subst er;have g13:=(gx.trans g12).trans (Qi hpp (.tup [V.ref kp,.ref p]));have gx13:=g12.trans (Qi hpp (.tup [V.ref kp,.ref p]));have hT2:SqT K (upd H12 pp (.tup [V.ref kp,.ref p])) pp [V.ref kp,.ref p]:=SqT.of Qe;generalize upd H12 pp (.tup [V.ref kp,.ref p])=H13 at *;refine ZG hT2 rfl ?_;walk_at "go";refine YR (g13 _ _ h1) T.aK T.cA h3 ?_;walk_at "go";refine ZZ (g13.sqT hT) rfl ?_;refine WW (b:=true) (h7.same g13).rep (hC.same g13).rep Hg (by simp) ?_;walk_at "go";refine YR (g13 _ _ h1) T.aK T.bM h4 ?_;walk_at "go";refine ZZ (g13.sqT hT) rfl ?_;refine WW (b:=true) (h8.same g13).rep (hO.same g13).rep Hf (by simp) ?_;walk_at "go";exact ⟨_,_,rfl,gx13⟩
   ·rintro _ H12 ⟨y6,y10,rfl,g12⟩;exact k y6 y10 H12 g12
  walk_at "go";refine ⟨lr,d,rs,vs,gx (nbR rs) (rs.map (·.nm)),S,en,rfl,rfl,klr6,hA6,hTb6,hRO,G,hFin,fun ee pd ld wd H7 g7 hTd kld hBd=>?_,fun z ee pd qd w H7 g7 hTd kqd hw=>?_⟩
  ·have Fm:∀ f∈S,f∈rs.map (·.nm)/\isF (gx (nbR rs) (rs.map (·.nm))) (rs.map (·.nm)) f=true:=fun f hf=>hFin.sq.mem hf
   have gts:=fun f hf=>Bz hRO G (Fm f hf).1 (Fm f hf).2 (hFin.gd f hf)
   have hof7:=hof.same g7;have Sl:S.length<=8:=by
    have:=ZI hFin.sq.snd (m:=rs.map (·.nm)) fun z hz=>(Fm z hz).1
    rw [Fo] at this;omega
   generalize gx (nbR rs) (rs.map (·.nm))=gg at *;walk_at "go";refine ⟨po,rs,gg,S,en,rfl,hof7,hRO,G,hFin,fun _ pt lt vt H8 g8 hlt hTt klt hBt=>?_,fun z ez=>by rw [ee] at ez;cases ez⟩;have vl8:=hBt.1;walk_at "go";refine WW (b:=true) (KM hTt klt hBt) (KM (g8.sqT hTd) (g8 _ _ kld) (hBd.imp fun _ _ h=>h.same g8)) RA (by simp) ?_;walk_at "go";refine ZZ (g8.sqT hTd) rfl ?_;walk_at "go";try simp only [QU]
   walk_at "go";refine ⟨lt,rfl,⟨_,SqL.of klt⟩,Zy (xs:=vt) (fun i acc σ' H'=>∃ x0:Option V,σ'=[x0]/\Same H8 H'/\acc=((S.take i).map fun _=>true).map V.bl) ⟨none,rfl,Same.refl _,rfl⟩ (fun i acc σ' H' _ h=>by obtain ⟨_,_,g,_⟩:=h;exact SqL.of (g _ _ klt)) (by omega) ?_ ?_⟩
   ·rintro i v acc _ H9 hv hacc ⟨x0,rfl,g9,rfl⟩;obtain ⟨f,hf,b,qq,zz,rfl,hTb',hqq,hFz,_⟩:=hBt.getV hv;obtain ⟨t1,t2,t3,_⟩:=gts f (FD hf);simp only [ZK];walk_at "go";refine ⟨b,qq,_,zz,_,_,rfl,g9.sqT hTb',g9 _ _ hqq,t1,t2,hFz.same g9,fun Ha ga=>?_⟩;refine CN.mk (Qw hv) (by rw [Fv,FH];omega) ⟨_,rfl,g9.trans ga,?_⟩;rw [FA,hf,Fz,Fz];rfl
   rintro acc _ H9 ⟨x0,rfl,g9,rfl⟩ p9 hp9;rw [<-vl8,FC];refine ⟨p9,S.map fun _=>true,rfl,SqL.of Qe,?_⟩;generalize e_n9:upd H9 p9 _=Ha at *;obtain ⟨n9,k_n9⟩:=nwH hp9 e_n9;have en1:(S.map fun _=>true).all id=true:=by rw [List.all_map];simp
   rw [en1];have g8a:=g9.trans n9;walk_at "go";refine zip D _ _ Ha hD ((g7.trans g8).trans g8a) fun y6 y10 Hb gb=>?_
   have g8b:=g8a.trans gb;have g7b:=g8.trans g8b;subst hR3;walk_at "go";refine ZZ (g7b.sqT hTd) rfl ?_;walk_at "go";refine ZZ (g8b.sqT hTt) rfl ?_;refine ⟨lt,rfl,⟨_,SqL.of (g8b _ _ klt)⟩,?_⟩;refine Xn (xs:=vt) (fun i σ' H'=>∃ y11 y12:Option V,σ'=[some (.ref a),some c,some (.int m),some (.ref pn),some (.ref lr),some (.ref d),y6,some (.ref po),some (.ref pd),some (.ref pt),y10,y11,y12]/\H'=Hb) ⟨none,none,rfl,rfl⟩ (fun i σ' H' _ h=>by obtain ⟨_,_,_,e⟩:=h;rw [e];exact SqL.of (g8b _ _ klt)) ?_ ?_
   ·rintro i v _ Hc hv ⟨y11,y12,rfl,ec⟩;rw [ec];obtain ⟨f,hf,b,qq,zz,rfl,hTb',hqq,hFz,_⟩:=hBt.getV hv;obtain ⟨t1,t2,t3,rb,t4⟩:=gts f (FD hf);rw [t4] at hTb';have hTc:=g8b.sqT hTb';have hFc:=hFz.same g8b;obtain ⟨pz,rfl,hz⟩:=id hFc;generalize (bt rs (kOf gg (rs.map (·.nm)) (gg f))).q=r at *;walk_at "go";refine ⟨b,rb,_,_,r,300,rfl,hTc,hFc,t3,by decide,?_⟩;cases rb with
    | true=>
     have hTc:SqT K Hb b [.str (Str.ofString "ring"),.ref qq,.ref pz]:=hTc;walk_at "go";rw [Fl (by rw [LQ];simp)]
     first | exact ⟨_,_,rfl,rfl⟩ | exact ⟨_,_,rfl,trivial⟩
    | false=>
     have hTc:SqT K Hb b [.str (Str.ofString "alone"),.ref qq,.ref pz]:=hTc;walk_at "go";rw [Fl (by decide +kernel)];walk_at "go";try rw [Fl (by simp)]
     first | exact ⟨_,_,rfl,rfl⟩ | exact ⟨_,_,rfl,trivial⟩
   ·rintro _ Hc ⟨y11,y12,rfl,ec⟩;rw [ec];walk_at "go";refine ZZ (g8b.sqT hTt) rfl ?_;refine ⟨lt,rfl,⟨_,SqL.of (g8b _ _ klt)⟩,?_⟩;refine Xn (xs:=vt) (fun i σ' H'=>∃ y11 y12:Option V,σ'=[some (.ref a),some c,some (.int m),some (.ref pn),some (.ref lr),some (.ref d),y6,some (.ref po),some (.ref pd),some (.ref pt),y10,y11,y12]/\Same H7 H'/\H' lt=some (.lst vt)/\All2 (fun (f:Str) v=>∃ b q s z us,v=V.ref b/\SqT K H' b [s,.ref q,z]/\H' q=some (.lst us)/\us.length<=8+i/\H7 q=none/\q≠lt) S vt) ⟨y11,y12,rfl,g7b,g8b _ _ klt,?_⟩ (fun i σ' H' _ h=>by obtain ⟨_,_,_,_,h,_⟩:=h;exact SqL.of h) ?_ ?_
    ·refine ⟨hBt.1,fun k f v h1 h2=>?_⟩;obtain ⟨b,qq,zz,rfl,hTb',hqq,hFz,n1,n2⟩:=hBt.2 k f v h1 h2;obtain ⟨_,t2,_⟩:=gts f (FD h1);exact ⟨b,qq,_,zz,_,rfl,g8b.sqT hTb',g8b _ _ hqq,by rw [Fo];omega,n1,n2⟩
    ·rintro i v _ Hd hv ⟨z11,z12,rfl,gd,kd',hZ'⟩;obtain ⟨f,hf,b,qq,s,zz,us,rfl,hTb',hqq,ul,n1,n2⟩:=hZ'.getV hv;have hi:=Qw hv;walk_at "go";refine ⟨.inl ⟨rfl,_,SqL.of hqq⟩,QV hqq (QF (by omega)) ?_⟩;have gw:=Xk (ys:=us++[.str (Str.ofString "z")]) hqq;refine ⟨_,_,rfl,QB gd n1,by rw [Qj n2.symm];exact kd',hZ'.1,fun k f' v' h1 h2=>?_⟩;obtain ⟨b',q',s',z',us',e',hT',hq',ul',m1,m2⟩:=hZ'.2 k f' v' h1 h2;by_cases eq:q'=qq
     ·subst eq;exact ⟨b',q',s',z',us++[.str (Str.ofString "z")],e',gw.sqT hT',Qe,by rw [Fv,FH];omega,m1,m2⟩
     ·exact ⟨b',q',s',z',us',e',gw.sqT hT',by rw [Qj eq];exact hq',by omega,m1,m2⟩
    ·rintro _ Hd ⟨z11,z12,rfl,gd,kd',hZ'⟩;walk_at "go";refine ⟨po,rs,gg,S,en,rfl,hof7.same gd,hRO,G,hFin,fun _ pt2 lt2 vt2 He ge hlt2 hT2 kl2 hB2=>?_,fun z ez=>by rw [ee] at ez;cases ez⟩;refine UX (b:=true) (KM hT2 kl2 hB2) (KM ((gd.trans ge).sqT hTd) ((gd.trans ge) _ _ kld) (hBd.imp fun _ _ h=>h.same (gd.trans ge))) RA (by simp) ?_;rw [hD];exact q _
  ·have bad:=(hFin.bd z ee).2;have wn:=(UZ bad).2;have hof7:=hof.same g7;generalize gx (nbR rs) (rs.map (·.nm))=gg at *;walk_at "go";refine ⟨po,rs,gg,S,en,rfl,hof7,hRO,G,hFin,fun e0=>(by rw [ee] at e0;cases e0),fun z' ez pt lt w' H8 g8 hlt hTt klt hw'=>?_⟩;have ezz:z'=z:=by rw [ee] at ez;exact (FF ez).symm
   subst ezz;walk_at "go";refine WW (b:=true) (KN hTt klt hw') (KN (g8.sqT hTd) (g8 _ _ kqd) (hw.same g8)) RD (by simp) ?_;walk_at "go";refine ZZ (g8.sqT hTd) rfl ?_;walk_at "go";rw [Fl wn];walk_at "go";refine zip D _ _ H8 hD (g7.trans g8) fun y6 y10 Hb gb=>?_
   have g7b:=g8.trans gb;subst hR3;walk_at "go";refine ZZ (g7b.sqT hTd) rfl ?_;walk_at "go";rw [Fs wn];walk_at "go";have kltb:=gb _ _ klt;have tl:((bt rs (kOf gg (rs.map (·.nm)) (gg z'))).ts (kOf gg (rs.map (·.nm)) (gg z'))).length<=8:=by
    rw [P0];exact FQ (Ey _ _) (by rw [Fo];exact hle)
   refine ZZ (gb.sqT hTt) rfl ?_;refine ⟨.inl ⟨rfl,_,SqL.of kltb⟩,QV kltb (QF (by rw [Fo];omega)) ?_⟩;have g7c:=QB (o:=.lst (((bt rs (kOf gg (rs.map (·.nm)) (gg z'))).ts (kOf gg (rs.map (·.nm)) (gg z'))).map V.str++[.str (Str.ofString "z")])) g7b hlt;refine ⟨po,rs,gg,S,en,rfl,hof7.same g7c,hRO,G,hFin,fun e0=>(by rw [ee] at e0;cases e0),fun z2 ez2 pt2 lt2 w2 He ge hlt2 hT2 kl2 hw2=>?_⟩;have ezz:z2=z':=by rw [ee] at ez2;exact (FF ez2).symm
   subst ezz;have g7e:=g7c.trans ge;refine UX (b:=true) (KN hT2 kl2 hw2) (KN (g7e.sqT hTd) (g7e _ _ kqd) (hw.same g7e)) RD (by simp) ?_;rw [hD];exact q _
 walk_at "go";refine ⟨a,ns,0,rfl,rfl,hS,by decide,?_⟩;generalize cl ns 0=c;walk_at "go";refine ⟨trivial,a,ns,1,rfl,rfl,hS,by decide,_,rfl,X4 hB 1,fun pn nms H1 hpn g1 kn nl nd nz=>?_⟩;obtain ⟨m,hm⟩:∃ m:Nat,c % 9=(m:Int):=⟨(c % 9).toNat,by omega⟩
 have hm8:m<=8:=by omega
 rw [hm];have go:∀ l rs vs H',H1 l=none->Same H1 H'->H' l=some (.lst vs)->All2 (Rr K H') rs vs->rs.map (·.nm)=nms.take m->(∀ r∈rs,Ny (nms.take m) r)->R { nx:=fun x H'=>Q V.non H',rt:=Q } [some (.ref a),some (.int c),some (.int m),some (.ref pn),some (.ref l),none,none,none,none,none,none,none,none] H':=by
  intro l rs vs H' hl g' kl hA rn rok;have hl2:=congrArg List.length rn;rw [Fo,FX] at hl2;have hRs:Rows rs:=⟨by rw [rn];exact nd.sublist (List.take_sublist _ _),by omega,fun r hr=>(rok r hr).cl,fun r hr=>(rok r hr).nd,fun r hr c hc=>by rw [rn];exact ((rok r hr).cs c hc).1⟩
  exact key _ l pn rs vs nms H' _ m rfl ((g1.trans g').seq hS) kl hA ⟨hRs,fun r hr=>⟨fun c hc=>((rok r hr).cs c hc).2,fun o ho=>((rok r hr).os o ho).2,FQ (rok r hr).ol (by decide)⟩⟩ fun r hr'=>⟨(rok r hr').cl,FQ (rok r hr').ol (by decide)⟩
 refine ⟨CDivB.small (by decide) (by decide),trivial,QK (fun _=>?_) (fun _=>⟨CDivB.small (by decide) (by decide),trivial,?_⟩)⟩
 ·exact ⟨a,pn,ns,m,nms,rfl,rfl,rfl,g1.seq hS,hB,hm8,SqL.of kn,nl,go⟩
 ·exact ⟨a,pn,ns,m,nms,_,rfl,rfl,rfl,rfl,g1.seq hS,hB,hm8,SqL.of kn,nl,nd,go⟩
theorem Kj {S:Setting}{o:Obj}(l:K.lookup a=some o) {e k}:W.peek K S (Sem.load a e k:Sem α)=W.peek K S (k o):=by
 simp only [W.peek];rw [l]
theorem UT {da:Addr}{o:Obj}(l:K.lookup da=some o) (h:∀ us:List Value,us.length=ps.length->∃ e k,bindArgs fd ⟨us,[]⟩=Sem.load da e k/\∀ S,W.peek K S (k o)=some (ps.zip us)):Binds K fd ps []:=fun s us kIn hl=>by
 rw [Ec] at hl ⊢;obtain ⟨e,k,e1,e2⟩:=h us hl;exact W.kp_binds kIn fun S=>by rw [e1,Kj l];exact e2 S
end
abbrev nK (K:W.Frag) (a:Addr) (f:Str):Prop:=W.findIn K (.ref a) f=some none
abbrev mK (K:W.Frag) (n:Str) (a:Addr):Prop:=W.nsIn K mainGlobals n=some (some (.ref a))
abbrev zK (K:W.Frag) (n:Str):Prop:=W.nsIn K mainGlobals n=some none
def FdG (K:W.Frag) (n:Str) (st:Stmt):Prop:=∃ f fd,W.nsIn K mainGlobals n=some (some (.ref f))/\Fun K n n st f fd
def FdM (K:W.Frag) (C:Addr) (n q:Str) (st:Stmt):Prop:=∃ f fd,W.findIn K (.ref C) n=some (some (.ref f))/\W.isFn K (.ref f)=true/\Fun K n q st f fd
section
variable {P:Program} {w:World} {K:W.Frag} {mg:Str->Option Value} {base h:Heap} {k:Nat} {n q:Str} {C:Addr} {st:Stmt} {ps:List Str} {sp:Sp}
theorem Fb (X:K.In h) (G:h.Ns mainGlobals mg) (e:FdG K n st) (b:∀ (kV doc pm:Value) (an:Option Addr) (cdv ct:Value) (us:List Value),us.length=ps.length->bindArgs (W.fnOf n n (Za st) (QT st) (Qh st) .none kV doc pm an cdv ct) ⟨us,[]⟩=pure (ps.zip us)) (ok:∀ f fd,Fun K n n st f fd->FnOk P w K mg base CX0 k f fd ps sp):Cal P w K mg base k n ps sp:=by
 obtain ⟨f,fd,a,F⟩:=e;exact ⟨f,fd,ok f fd F,F.binds b,F.kp,W.mg_of X G a⟩
theorem HX (e:FdM K C n q st) (b:∀ (kV doc pm:Value) (an:Option Addr) (cdv ct:Value) (us:List Value),us.length=ps.length->bindArgs (W.fnOf n q (Za st) (QT st) (Qh st) .none kV doc pm an cdv ct) ⟨us,[]⟩=pure (ps.zip us)) (ok:∀ f fd,Fun K n q st f fd->FnOk P w K mg base CX0 k f fd ps sp):UV P w K mg base k C n ps sp:=by
 obtain ⟨f,fd,a,i,F⟩:=e;exact ⟨f,fd,ok f fd F,F.binds b,⟨a,i,F.kp⟩⟩
theorem HY (mm:W.makesIn K C=true) (mk:W.keepIn K (.ref C)=true) (e:FdM K C "__init__" q st) (b:∀ (kV doc pm:Value) (an:Option Addr) (cdv ct:Value) (us:List Value),us.length=ps.length->bindArgs (W.fnOf "__init__" q (Za st) (QT st) (Qh st) .none kV doc pm an cdv ct) ⟨us,[]⟩=pure (ps.zip us)) (ok:∀ f fd,Fun K "__init__" q st f fd->FnOk P w K mg base CX0 k f fd ps sp):JQ P w K mg base k C ps sp:=by
 obtain ⟨f,fd,a,i,F⟩:=e;exact ⟨f,fd,ok f fd F,F.binds b,⟨mm,a,i,mk⟩⟩
theorem Fc (X:K.In h) (G:h.Ns mainGlobals mg) (e:FdG K n st) (b:∀ (kV doc pm:Value) (an:Option Addr) (cdv ct:Value) (us:List Value),us.length=ps.length->bindArgs (W.fnOf n n (Za st) (QT st) (Qh st) .none kV doc pm an cdv ct) ⟨us,[]⟩=pure (ps.zip us)) (ok:∀ f fd,Fun K n n st f fd->FnOk P w K mg base (CXd P w) k f fd ps sp):NA P w K mg base k n ps sp:=by
 obtain ⟨f,fd,a,F⟩:=e;exact ⟨f,fd,ok f fd F,F.binds b,F.kp,W.mg_of X G a⟩
theorem HZ {sp:Addr->Sp}(X:K.In h) (G:h.Ns mainGlobals mg) (e:FdG K n st) (b:∀ (kV doc pm:Value) (an:Option Addr) (cdv ct:Value) (us:List Value),us.length=ps.length->bindArgs (W.fnOf n n (Za st) (QT st) (Qh st) .none kV doc pm an cdv ct) ⟨us,[]⟩=pure (ps.zip us)) (ok:∀ f fd,Fun K n n st f fd->FnOkH P w K mg base k f fd ps sp):Ta P w K mg base k n ps sp:=by
 obtain ⟨f,fd,a,F⟩:=e;exact ⟨f,fd,ok f fd F,F.binds b,F.kp,W.mg_of X G a⟩
theorem HW (xm:WL K C=true) (mk:W.keepIn K (.ref C)=true) (e:FdM K C "__init__" q st) (b:∀ (kV doc pm:Value) (an:Option Addr) (cdv ct:Value) (us:List Value),us.length=ps.length->bindArgs (W.fnOf "__init__" q (Za st) (QT st) (Qh st) .none kV doc pm an cdv ct) ⟨us,[]⟩=pure (ps.zip us)) (ok:∀ f fd,Fun K "__init__" q st f fd->FnOk P w K mg base CX0 k f fd ps sp):Ls P w K mg base k C ps sp:=by
 obtain ⟨f,fd,a,i,F⟩:=e;exact ⟨f,fd,ok f fd F,F.binds b,⟨xm,a,i,mk⟩⟩
end
local macro_rules | `(tactic| walk_at "b1") => `(tactic| exact fun _ _ _ _ _ _ us hl => Hd.len1 (P := fun us => bindArgs _ ⟨us, []⟩ = pure (List.zip _ us)) (fun _ => rfl) us hl)
local macro_rules | `(tactic| walk_at "b2") => `(tactic| exact fun _ _ _ _ _ _ us hl => Hd.len2 (P := fun us => bindArgs _ ⟨us, []⟩ = pure (List.zip _ us)) (fun _ _ => rfl) us hl)
local macro_rules | `(tactic| walk_at "b3") => `(tactic| exact fun _ _ _ _ _ _ us hl => Hd.len3 (P := fun us => bindArgs _ ⟨us, []⟩ = pure (List.zip _ us)) (fun _ _ _ => rfl) us hl)
local macro_rules | `(tactic| walk_at "b4") => `(tactic| exact fun _ _ _ _ _ _ us hl => Hd.len4 (P := fun us => bindArgs _ ⟨us, []⟩ = pure (List.zip _ us)) (fun _ _ _ _ => rfl) us hl)
theorem all_mk {l:W.OpenLaw}{fa f27 dA27 cF cG cH cI cJ cK cL cM aG aH aF cN cP aN aV aT bJ aW bG aX aY gH gI:Addr}(X:K.In h) (G:h.Ns mainGlobals mg) (hfa:mg "law"=some (.ref fa))
  {od27 an27:Option Addr} {sl27:Array (Option Value)} {oc27 kV27 dc27 pm27 cd27 ct27 dx27_0 dx27_1 dx27_2:Value}
  {tod_NOUGHT:Option Addr} {ta_NOUGHT tb_NOUGHT:Tok} {tn_NOUGHT:Nat} {tsl_NOUGHT:Array (Option Value)}
  {tod_ONE:Option Addr} {ta_ONE tb_ONE:Tok} {tn_ONE:Nat} {tsl_ONE:Array (Option Value)}
  (gN:mK K "HelpError" cF)
  (gO:mK K "NoAmount" cG)
  (gP:mK K "NoBend" cH)
  (gQ:mK K "NoPerson" cI)
  (gR:mK K "Unknown" cJ)
  (gS:mK K "Twice" cK)
  (gT:mK K "NoWord" cL)
  (gU:mK K "NoRow" cM)
  (cU:mK K "Tangled" aG)
  (cV:mK K "Jumps" aH)
  (cW:mK K "Widens" aF)
  (gV:mK K "TooMany" cN)
  (gW:mK K "NoNews" cP)
  (gX:mK K "Kind" aN)
  (dP:mK K "Cap" aV)
  (gY:mK K "Office" aT)
  (gZ:mK K "Base" bJ)
  (hJ:mK K "Each" aW)
  (hU:mK K "Rent" bG)
  (hV:mK K "From" aX)
  (hX:mK K "Upto" aY)
  (bC:mK K "NOUGHT" gH)
  (bD:mK K "ONE" gI)
  (h1:FdM K aG "__init__" "Tangled.__init__" Zk)
  (h2:FdM K aH "__init__" "Jumps.__init__" Zw)
  (h3:FdM K aF "__init__" "Widens.__init__" Zm)
  (h4:FdG K "common_divisor" Zv)
  (h5:FdG K "fraction" XW)
  (h6:FdG K "plus" KI)
  (h7:FdG K "total_of" XS)
  (h8:FdG K "times" W7)
  (h9:FdG K "below" Jd)
  (h10:FdG K "greater" Yu)
  (h11:FdG K "steps_from" Z5)
  (h12:FdG K "count_rate" Z8)
  (h13:FdG K "leans" W9)
  (h14:FdG K "leads_to" XT)
  (h15:FdM K aT "named" "Office.named" ZN)
  (h16:FdG K "knots" Jc)
  (h17:FdG K "counted_within" Zu)
  (h18:FdG K "is_free" Yt)
  (h19:FdG K "ring_from" Xo)
  (h20:FdM K aN "greatest_rate" "Kind.greatest_rate" Q6)
  (h21:FdM K aT "kind" "Office.kind" ZY)
  (h22:FdG K "pull_of" Yl)
  (h23:FdG K "check_ring" Z9)
  (h24:FdG K "block_of" XX)
  (h25:FdG K "order" W8)
  (h26:FdG K "narrows" Ym)
  (a27:W.findIn K (.ref aN) "__init__"=some (some (.ref f27))) (i27:W.isFn K (.ref f27)=true) (l27:K.lookup f27=some ⟨oc27,od27,.func (W.fnOf "__init__" "Kind.__init__" (Za QI) (QT QI) (Qh QI) (.ref dA27) kV27 dc27 pm27 an27 cd27 ct27),sl27⟩) (c27:W.codeIn K cd27 "Kind.__init__"=true) (k27:W.keepIn K (.ref f27)=true)
  (h28:FdM K aV "__init__" "Cap.__init__" ZO)
  (h29:FdM K aT "__init__" "Office.__init__" Zn)
  (h30:FdM K bJ "__init__" "Base.__init__" ZE)
  (h31:FdM K aW "__init__" "Each.__init__" ZD)
  (h32:FdM K bG "__init__" "Rent.__init__" ZA)
  (h33:FdM K aX "__init__" "From.__init__" ZC)
  (h34:FdM K aY "__init__" "Upto.__init__" Zz)
  (h35:FdG K "_law_cell_at" Xs)
  (h36:FdG K "_law_divisor" Xr)
  (h37:FdG K "_law_low" Ja)
  (h38:FdG K "_law_names" Yq)
  (h39:FdG K "_law_rate" YW)
  (h40:FdG K "_law_offs" YY)
  (h41:FdG K "_law_segments" Z6)
  (h42:FdG K "_law_earlier" Xq)
  (h43:FdG K "_law_jump" Y2)
  (h44:FdG K "_law_free" Y3)
  (h45:FdG K "_law_planted" Xp)
  (h46:FdG K "_law_kind" Y0)
  (h47:FdG K "_law_office" XU)
  (h48:FdG K "_law_reach" Yp)
  (h49:FdG K "_law_times" Yn)
  (h50:FdG K "_law_greatest" Z7)
  (h51:FdG K "_law_pull" YX)
  (h52:FdG K "_law_shape" Yo)
  (h53:FdG K "_law_just" Y1)
  (h54:FdG K "_law_told" YV)
  (h55:FdG K "_law_knots" Yr)
  (h56:FdG K "_law_next" YZ)
  (h57:FdG K "_law_block" Ys)
  (h58:FdG K "_law_due" Jb)
  (h59:FdG K "law" Jr)
  {dn27:Nat} (d27:K.lookup dA27=some ⟨.type "tuple",none,.seq #[dx27_0,dx27_1,dx27_2] dn27,#[]⟩)
  (gJ:zK K "ValueError")
  (cQ:zK K "abs")
  (cR:zK K "all")
  (gK:zK K "any")
  (cS:zK K "bool")
  (gL:zK K "enumerate")
  (cT:zK K "int")
  (aJ:zK K "isinstance")
  (aP:zK K "len")
  (aM:zK K "list")
  (dI:zK K "max")
  (aQ:zK K "range")
  (dJ:zK K "sorted")
  (dM:zK K "str")
  (gM:zK K "sum")
  (dN:zK K "tuple")
  (dO:zK K "zip")
  (kk_NOUGHT:K.lookup gH=some ⟨.type "tuple",tod_NOUGHT,.seq #[.int 0 ta_NOUGHT,.int 1 tb_NOUGHT] tn_NOUGHT,tsl_NOUGHT⟩)
  (kk_ONE:K.lookup gI=some ⟨.type "tuple",tod_ONE,.seq #[.int 1 ta_ONE,.int 1 tb_ONE] tn_ONE,tsl_ONE⟩)
  (i7:W.exmOne K (.ref aG) (.ref aG)=some true)
  (i8:W.exmOne K (.ref aH) (.ref aG)=some false)
  (i9:W.exmOne K (.ref aH) (.ref aH)=some true)
  (iA:W.exmOne K (.ref aF) (.ref aG)=some false)
  (iB:W.exmOne K (.ref aF) (.ref aH)=some false)
  (iC:W.exmOne K (.ref aF) (.ref aF)=some true)
  (iD:yK K aG cG false)
  (iE:yK K aG cH false)
  (iF:yK K aG cI false)
  (iG:yK K aG cJ false)
  (iH:yK K aG cK false)
  (iI:yK K aG cL false)
  (iJ:yK K aG cM false)
  (iK:yK K aG aG true)
  (iL:yK K aG aH false)
  (iM:yK K aG aF false)
  (iN:yK K aG cN false)
  (iO:yK K aG cP false)
  (iP:yK K aG cF true)
  (iQ:yK K aH cG false)
  (iR:yK K aH cH false)
  (iS:yK K aH cI false)
  (iT:yK K aH cJ false)
  (iV:yK K aH cK false)
  (iW:yK K aH cL false)
  (iX:yK K aH cM false)
  (iY:yK K aH aG false)
  (iZ:yK K aH aH true)
  (j6:yK K aH aF false)
  (j7:yK K aH cN false)
  (j8:yK K aH cP false)
  (j9:yK K aH cF true)
  (jA:yK K aF cG false)
  (jB:yK K aF cH false)
  (jC:yK K aF cI false)
  (jD:yK K aF cJ false)
  (jE:yK K aF cK false)
  (jF:yK K aF cL false)
  (jG:yK K aF cM false)
  (jH:yK K aF aG false)
  (jI:yK K aF aH false)
  (jJ:yK K aF aF true)
  (jK:yK K aF cN false)
  (jL:yK K aF cP false)
  (jM:yK K aF cF true)
  (jN:W.kitOne K (.ref aG) (.type "ValueError")=some true)
  (jO:W.kitOne K (.ref aH) (.type "ValueError")=some true)
  (jP:W.kitOne K (.ref aF) (.type "ValueError")=some true)
  (dQ:Zi K aG)
  (dR:Zi K aH)
  (cX:Zi K aF)
  (aK:Cls K aN)
  (kN:IsC K aN)
  (c9:nK K aN "title")
  (jQ:nK K aN "parts")
  (jR:nK K aN "terms")
  (jS:nK K aN "pays")
  (cA:nK K aN "counts")
  (bM:nK K aN "offs")
  (dS:nK K aN "limit")
  (dU:nK K aN "unit")
  (jT:nK K aN "way")
  (cY:Cls K aV)
  (kO:IsC K aV)
  (jU:nK K aV "limit")
  (jV:nK K aV "each")
  (jW:nK K aV "titles")
  (aU:Cls K aT)
  (kP:IsC K aT)
  (bN:nK K aT "kinds")
  (jX:nK K aT "caps")
  (jY:Cls K bJ)
  (kQ:IsC K bJ)
  (jZ:nK K bJ "amount")
  (cZ:Cls K aW)
  (kR:IsC K aW)
  (kA:nK K aW "amount")
  (kC:nK K aW "low")
  (kD:nK K aW "high")
  (dW:Cls K bG)
  (kS:IsC K bG)
  (kE:nK K bG "rate")
  (kG:nK K bG "most")
  (d0:Cls K aX)
  (kT:IsC K aX)
  (kH:nK K aX "many")
  (kI:nK K aX "low")
  (kJ:nK K aX "high")
  (d9:Cls K aY)
  (kW:IsC K aY)
  (kK:nK K aY "many")
  (kL:nK K aY "low")
  (kM:nK K aY "high")
  (dA:WV K aG)
  (dB:nK K aG "titles")
  (dC:WV K aH)
  (dD:nK K aH "titles")
  (bO:WV K aF)
  (dE:nK K aF "titles")
  (dX:nK K aF "pull")
  (xm_Tangled:WL K aG=true)
  (mkk_Tangled:W.keepIn K (.ref aG)=true)
  (xm_Jumps:WL K aH=true)
  (mkk_Jumps:W.keepIn K (.ref aH)=true)
  (xm_Widens:WL K aF=true)
  (mkk_Widens:W.keepIn K (.ref aF)=true)
  (mkm_Kind:W.makesIn K aN=true)
  (mkk_Kind:W.keepIn K (.ref aN)=true)
  (mkm_Cap:W.makesIn K aV=true)
  (mkk_Cap:W.keepIn K (.ref aV)=true)
  (mkm_Office:W.makesIn K aT=true)
  (mkk_Office:W.keepIn K (.ref aT)=true)
  (mkm_Base:W.makesIn K bJ=true)
  (mkk_Base:W.keepIn K (.ref bJ)=true)
  (mkm_Each:W.makesIn K aW=true)
  (mkk_Each:W.keepIn K (.ref aW)=true)
  (mkm_Rent:W.makesIn K bG=true)
  (mkk_Rent:W.keepIn K (.ref bG)=true)
  (mkm_From:W.makesIn K aX=true)
  (mkk_From:W.keepIn K (.ref aX)=true)
  (mkm_Upto:W.makesIn K aY=true)
  (mkk_Upto:W.keepIn K (.ref aY)=true)
  : ∃ fd:FuncData,(∀ (s:Shared) (v:Value),BindsTo s fd ⟨[v],[]⟩ [("_law_script",v)])/\∀ base:Heap,K.In base->base.Ns mainGlobals mg->FnOk l.prog w K mg base CX0 12 fa fd ["_law_script"] (Jq K):=by
 let t:Adr:=⟨(),cF,cG,cH,cI,cJ,cK,cL,cM,aG,aH,aF,cN,cP,aN,aV,aT,bJ,aW,bG,aX,aY,gH,gI⟩
 have T:Tx K mg t:=by
  constructor;all_goals first | assumption | exact W.mg_none_of X G (by assumption) | exact W.mg_of X G (by assumption) | exact SX (W.mg_of X G (by assumption)) (by assumption)
 obtain ⟨f59,fd,a59,F⟩:=h59;have e:=hfa.symm.trans (W.mg_of X G a59);cases e;have F':=F;obtain ⟨⟨oc,od,kV,doc,pm,an,cdv,ct,osl,rfl,lk,hcd⟩,hk⟩:=F';refine ⟨W.fnOf "law" "law" (Za Jr) (QT Jr) (Qh Jr) .none kV doc pm an cdv ct,fun s v=>.of_eq rfl,fun base _ _=>?_⟩;have cd:=@Fc l.prog w K mg base h;have cg:=@Fb l.prog w K mg base h;have ch:=@HZ l.prog w K mg base h;have ci:=@HY l.prog w K mg base;have cm:=@HX l.prog w K mg base;have cx:=@HW l.prog w K mg base;have fG:=cx xm_Tangled mkk_Tangled h1 (by walk_at "b2") fun _ _ F=>(Yz T F ).imp Sp2M.imp
 have eW:=cx xm_Jumps mkk_Jumps h2 (by walk_at "b2") fun _ _ F=>(Wb T F ).imp Sp2M.imp
 have eV:=cx xm_Widens mkk_Widens h3 (by walk_at "b3") fun _ _ F=>(YI T F ).imp Sp3M.imp
 have eA:=cg X G h4 (by walk_at "b2") fun _ _ F=>(Wa T F ).imp Sp2M.imp
 have bQ:=cg X G h5 (by walk_at "b2") fun _ _ F=>(VO T F eA).imp Sp2M.imp
 have eC:=cg X G h6 (by walk_at "b2") fun _ _ F=>(Bh T F bQ).imp Sp2M.imp
 have eD:=cg X G h7 (by walk_at "b1") fun _ _ F=>(VL T F eC).imp Sp1M.imp
 have dG:=cg X G h8 (by walk_at "b2") fun _ _ F=>(Mh T F bQ).imp Sp2M.imp
 have bE:=cg X G h9 (by walk_at "b2") fun _ _ F=>(Mo T F ).imp Sp2M.imp
 have eB:=cg X G h10 (by walk_at "b2") fun _ _ F=>(UC T F bE).imp Sp2M.imp
 have dY:=cg X G h11 (by walk_at "b2") fun _ _ F=>(JV T F ).imp Sp2M.imp
 have eT:=cg X G h12 (by walk_at "b2") fun _ _ F=>(JY T F eD).imp Sp2M.imp
 have bP:=cg X G h13 (by walk_at "b1") fun _ _ F=>(Mj T F ).imp Sp1M.imp
 have eR:=cg X G h14 (by walk_at "b2") fun _ _ F=>(VM T F dY bP).imp Sp2M.imp
 have eQ:=cm h15 (by walk_at "b1") fun _ _ F=>(W2 T F ).imp Sp1M.imp
 have fK:=cg X G h16 (by walk_at "b1") fun _ _ F=>(Mn T F eQ eR).imp Sp1M.imp
 have bF:=cg X G h17 (by walk_at "b3") fun _ _ F=>(Y9 T F ).imp Sp3M.imp
 have fJ:=cg X G h18 (by walk_at "b3") fun _ _ F=>(UB T F bF).imp Sp3M.imp
 have eZ:=cg X G h19 (by walk_at "b3") fun _ _ F=>(K3 T F bF).imp Sp3M.imp
 have eU:=cm h20 (by walk_at "b1") fun _ _ F=>(Yb T F eB).imp Sp1M.imp
 have bT:=cm h21 (by walk_at "b2") fun _ _ F=>(Jw T F ).imp Sp2M.imp
 have eY:=cg X G h22 (by walk_at "b2") fun _ _ F=>(Ut T F dG eT eU bT).imp Sp2M.imp
 have eX:=cd X G h23 (by walk_at "b3") fun _ _ F=>(JZ T F bE eV eW bT).imp Rp3M.imp
 have fI:=cd X G h24 (by walk_at "b3") fun _ _ F=>(VP T F eX eY eZ fG bF).imp Rp3M.imp
 have fY:=cd X G h25 (by walk_at "b1") fun _ _ F=>(Mi T F fI fJ fK bP).imp Rp1M.imp
 have fZ:=cg X G h26 (by walk_at "b1") fun _ _ F=>(Uu T F bE).imp Sp1M.imp
 have F27:=BC (st:=QI) l27 c27 k27;have b27:=UT (fd:=W.fnOf "__init__" "Kind.__init__" (Za QI) (QT QI) (Qh QI) (.ref dA27) kV27 dc27 pm27 an27 cd27 ct27) (ps:=["self","title","parts","terms","pays","counts","offs","limit","unit","way"]) d27 (Hd.len10 (P:=fun us=>∃ e k,bindArgs _ ⟨us,[]⟩=Sem.load _ e k/\∀ S,W.peek K S (k _)=some (List.zip _ us)) (fun _ _ _ _ _ _ _ _ _ _=>⟨_,_,rfl,fun _=>rfl⟩));have eG:JQ l.prog w K mg base 1 aN ["self","title","parts","terms","pays","counts","offs","limit","unit","way"] (Sp10M (φkindI K aN)):=⟨f27,_,(WC T F27 ).imp Sp10M.imp,b27,⟨mkm_Kind,a27,i27,mkk_Kind⟩⟩
 have dF:=ci mkm_Cap mkk_Cap h28 (by walk_at "b4") fun _ _ F=>(W3 T F ).imp Sp4M.imp
 have eO:=ci mkm_Office mkk_Office h29 (by walk_at "b3") fun _ _ F=>(YJ T F ).imp Sp3M.imp
 have eN:=ci mkm_Base mkk_Base h30 (by walk_at "b2") fun _ _ F=>(WG T F ).imp Sp2M.imp
 have eL:=ci mkm_Each mkk_Each h31 (by walk_at "b4") fun _ _ F=>(WE T F ).imp Sp4M.imp
 have eK:=ci mkm_Rent mkk_Rent h32 (by walk_at "b3") fun _ _ F=>(WB T F ).imp Sp3M.imp
 have eJ:=ci mkm_From mkk_From h33 (by walk_at "b4") fun _ _ F=>(WD T F ).imp Sp4M.imp
 have eI:=ci mkm_Upto mkk_Upto h34 (by walk_at "b4") fun _ _ F=>(WA T F ).imp Sp4M.imp
 have aI:=cg X G h35 (by walk_at "b2") fun _ _ F=>(Va T F ).imp Sp2M.imp
 have dZ:=cg X G h36 (by walk_at "b2") fun _ _ F=>(K9 T F ).imp Sp2M.imp
 have bL:=cg X G h37 (by walk_at "b2") fun _ _ F=>(Ml T F dZ).imp Sp2M.imp
 have gG:=cg X G h38 (by walk_at "b1") fun _ _ F=>(Uy T F ).imp Sp1M.imp
 have aS:=cg X G h39 (by walk_at "b2") fun _ _ F=>(GX T F bL).imp Sp2M.imp
 have bR:=cg X G h40 (by walk_at "b2") fun _ _ F=>(GZ T F aS).imp Sp2M.imp
 have eE:=cg X G h41 (by walk_at "b2") fun _ _ F=>(JW T F aI).imp Sp2M.imp
 have eF:=cg X G h42 (by walk_at "b4") fun _ _ F=>(K8 T F aS aI).imp Sp4M.imp
 have bS:=cg X G h43 (by walk_at "b1") fun _ _ F=>(G3 T F ).imp Sp1M.imp
 have gE:=cg X G h44 (by walk_at "b3") fun _ _ F=>(G4 T F bR aI bS aS).imp Sp3M.imp
 have gF:=cg X G h45 (by walk_at "b4") fun _ _ F=>(K5 T F eE bR aI bS aS eF).imp Sp4M.imp
 have eP:=cg X G h46 (by walk_at "b2") fun _ _ F=>(G1 T F eG eI eJ eK eL eN).imp Sp2M.imp
 have gD:=cg X G h47 (by walk_at "b2") fun _ _ F=>(VN T F eO dF eP).imp Sp2M.imp
 have fM:=cg X G h48 (by walk_at "b2") fun _ _ F=>(Ux T F ).imp Sp2M.imp
 have dH:=cg X G h49 (by walk_at "b2") fun _ _ F=>(Uv T F bL).imp Sp2M.imp
 have fQ:=cg X G h50 (by walk_at "b1") fun _ _ F=>(JX T F ).imp Sp1M.imp
 have fR:=cg X G h51 (by walk_at "b2") fun _ _ F=>(GY T F dH fQ).imp Sp2M.imp
 have gA:=cg X G h52 (by walk_at "b1") fun _ _ F=>(Uw T F ).imp Sp1M.imp
 have cD:=ch X G h53 (by walk_at "b1") fun _ _ F=>(G2 T F ).imp fun _=>Sp1M.imp
 have cE:=cg X G h54 (by walk_at "b1") fun _ _ F=>(GW T F fY cD).imp Sp1M.imp
 have fX:=cg X G h55 (by walk_at "b1") fun _ _ F=>(Uz T F fM).imp Sp1M.imp
 have fW:=cg X G h56 (by walk_at "b3") fun _ _ F=>(G0 T F ).imp Sp3M.imp
 have fU:=cg X G h57 (by walk_at "b2") fun _ _ F=>(UA T F fR).imp Sp2M.imp
 have gC:=cg X G h58 (by walk_at "b2") fun _ _ F=>(Mm T F fU fW fX).imp Sp2M.imp
 exact Py (P:=l.prog) (w:=w) (base:=base) T F cE fZ gA gC gD aI gE gF gG
theorem walk {l:W.OpenLaw}{q:Program}{XP:(Str->Option Value)->Heap->Prop}{YP:World->Heap->Prop}{d:DefRec}{K:Params->W.Frag}(hn:l.most=some 63) (hdf:d.params.defaults=[])
  (hY:∀ (w:World) (h:Heap),YP w h->(K w.params).In h)
  (F:∀ (w:World) (mg:Str->Option Value) (fa:Addr) (h:Heap),(K w.params).In h->h.Ns mainGlobals mg->mg d.name=some (.ref fa) ->
   ∃ fd:FuncData,(∀ (s:Shared) (u:Value),BindsTo s fd ⟨[u],[]⟩ [("_law_script",u)])/\∀ base:Heap,(K w.params).In base->base.Ns mainGlobals mg->FnOk l.prog w (K w.params) mg base CX0 12 fa fd ["_law_script"] (Jq (K w.params))) :
  W.WalkO q loose XP YP l.row.toRowW d [] (fun f vs=>PySem.call f vs):=
 L2.walk_ofW (n:=63) (k:=12) (x:="_law_script") (CX:=fun _=>CX0) (sp:=fun w=>Jq (K w.params)) hn (by decide) hdf ⟨rfl,by decide,by decide⟩ hY F (fun _ _ a ns hl hB hO hS=>KC hl hB hO hS) fun _ _ _ _ _ z=>z
end My
local macro_rules | `(tactic| walk_at "fg") => `(tactic| exact ⟨_, _, by k_is, L2.fun_mk (by k_is) (by k_is) (by k_is)⟩)
local macro_rules | `(tactic| walk_at "fm") => `(tactic| exact ⟨_, _, by k_is, by k_is, L2.fun_mk (by k_is) (by k_is) (by k_is)⟩)
local macro_rules | `(tactic| walk_at "cl") => `(tactic| exact ⟨by k_is, by k_is, by k_is, by k_is⟩)
local macro_rules | `(tactic| walk_at "ec") => `(tactic| first | exact L2.excCls_of (by k_is) (by k_is) (by k_is) (by k_is) (by k_is) (by k_is) | exact L2.xcls_of (by k_is) (by k_is) (by kernel_rfl) | exact L2.exm_of (by k_is) (by k_is) (by k_is) (by k_is))
open PySem PySem.W PyProof.Rows
set_option maxRecDepth 100000 in
set_option maxHeartbeats 0 in
theorem PySem.Challenge.cw_doletaper_k46_whole_order_holds : PySem.Challenge.rw_doletaper_k46_whole_order.Holds := by
 w_on;o_law
 refine W.holds_open (r:=PySem.Challenge.rw_doletaper_k46_whole_order.row) (q:=My.hkV) (loose:=[]) (Xt:=fun s=>xlAt My.hkV [] s&&recOk (RowW.records (OpenRow.toRowW PySem.Challenge.rw_doletaper_k46_whole_order.row)) s) (XP:=XL My.hkV []) (Yf:=Hook.obs (kHook My.HK My.hkA My.hkA_eq)) (Ya:=Hook.val (kHook My.HK My.hkA My.hkA_eq)) (YP:=Hook.says (kHook My.HK My.hkA My.hkA_eq)) (N:=400000) My.hd_left (Hook.of (kHook My.HK My.hkA My.hkA_eq)) (Hook.keeps (kHook My.HK My.hkA My.hkA_eq)) (fun s e=>xl_of s (Bool.and_eq_true_iff.mp e).1) XL.keeps (by rfl) (by rfl) (by rfl) (fun s e=>recFacts_of (Bool.and_eq_true_iff.mp e).2) (by rfl) (by assumption) (by decide +kernel) ⟨rfl,rfl,rfl,rfl,rfl,by decide +kernel⟩ ?hw ?hc
 (case hw=>exact ⟨[W.WData.list []],by kernel_rfl,by kernel_rfl⟩)
 k_fill
 refine My.walk (l:=PySem.Challenge.rw_doletaper_k46_whole_order) rfl rfl (fun w h Y=>W.kIn_of Y) ?F
 case F=>
  intro w mg fa h KX G hmg
  refine' My.all_mk KX G hmg ?_ ?_ ?_ ?_ ?_ ?_ ?_ ?_ ?_ ?_ ?_ ?_ ?_ ?_ ?_ ?_ ?_ ?_ ?_ ?_ ?_ ?_ ?_ ?_ ?_ ?_ ?_ ?_ ?_ ?_ ?_ ?_ ?_ ?_ ?_ ?_ ?_ ?_ ?_ ?_ ?_ ?_ ?_ ?_ ?_ ?_ ?_ ?_ ?_ ?_ ?_ ?_ ?_ ?_ ?_ ?_ ?_ ?_ ?_ ?_ ?_ ?_ ?_ ?_ ?_ ?_ ?_ ?_ ?_ ?_ ?_ ?_ ?_ ?_ ?_ ?_ ?_ ?_ ?_ ?_ ?_ ?_ ?_ ?_ ?_ ?_ ?_ ?_ ?_ ?_ ?_ ?_ ?_ ?_ ?_ ?_ ?_ ?_ ?_ ?_ ?_ ?_ ?_ ?_ ?_ ?_ ?_ ?_ ?_ ?_ ?_ ?_ ?_ ?_ ?_ ?_ ?_ ?_ ?_ ?_ ?_ ?_ ?_ ?_ ?_ ?_ ?_ ?_ ?_ ?_ ?_ ?_ ?_ ?_ ?_ ?_ ?_ ?_ ?_ ?_ ?_ ?_ ?_ ?_ ?_ ?_ ?_ ?_ ?_ ?_ ?_ ?_ ?_ ?_ ?_ ?_ ?_ ?_ ?_ ?_ ?_ ?_ ?_ ?_ ?_ ?_ ?_ ?_ ?_ ?_ ?_ ?_ ?_ ?_ ?_ ?_ ?_ ?_ ?_ ?_ ?_ ?_ ?_ ?_ ?_ ?_ ?_ ?_ ?_ ?_ ?_ ?_ ?_ ?_ ?_ ?_ ?_ ?_ ?_ ?_ ?_ ?_ ?_ ?_ ?_ ?_ ?_ ?_ ?_ ?_ ?_ ?_ ?_ ?_ ?_ ?_ ?_ ?_ ?_ ?_ ?_ ?_ ?_ ?_ ?_ ?_ ?_ ?_
  any_goals first | k_is | (unfold My.mK;k_is) | walk_at "fg" | walk_at "fm" | walk_at "cl" | kit_is | walk_at "ec" | kernel_rfl
