import PyProof.Rows.All
import Wide.All
import OpenK.AllK
import Wide.FinOn
import Lean
import PyProof.EqAt
import PyProof.EqKinds
import PyProof.TupleCall
import PyProof.FString
import PyProof.Rows.SetFrom
import PySem.Challenge.RW_doletaper_k45_refused_knots
local macro_rules | `(tactic| nofun) => `(tactic| walk_at "go")
set_option Elab.async false
set_option compiler.extract_closed false
set_option linter.all false
set_option maxRecDepth 100000
set_option maxHeartbeats 4000000
open PySem
variable {f a p it e l C dx d ea L:Addr}{x y qual nm:Str}{cs:List (Str×Rat)}{s:Shared}{w:World}{M:Model}{pos px py:Pos}{n t' i j m:Nat}{os:List (Int×Rat)}{b t lo:Int}{loose N ps ak S ss kn:List Str}{α β:Type}{us its:List Value}{u doc pm cdv ct oc cls:Value}{P prog:Program}{h base h':Heap}{ch fp ex:List Addr}{A:Around}{aq:List (Addr×Obj)}{op:CmpOp}{K:W.Frag}{st:Stmt}{es ifs:List Expr}{tg iter elt:Expr}{body:List Stmt}{pl:Sem Bool}{mA mg:Str->Option Value}{ns aj:List Int}{kw:List (Str×Value)}{env:Env}{fd:FuncData}{outer:List Env}{scope:Scope}{an od:Option Addr}{T:String}{caps:List (Option Nat)}{gg:Str->Nat}
def Fg:=@wpAny_bind
def Fh:=@if_neg
def Fi:=@List.length_map
def Fj:=@List.getElem?_eq_getElem
def Fk:=@if_pos
def Fl:=@Nat.le_refl
def Fo:=@List.length_append
def Fs:=@wpAny_pure
def Ft:=@Heap.lt_size
def Fu:=@List.mem_of_getElem?
def Fv:=@List.getElem?_map
def Fw:=@List.mem_map
def Fx:=@List.map_append
def Fy:=@Option.some.inj
def Fz:=@List.length_singleton
def FA:=@Heap.get?_push_of_some
def FC:=@List.mem_singleton
def FD:=@Nat.ne_of_lt
def FE:=@Bool.eq_false_iff
def FF:=@List.mem_cons
def FG:=@Nat.lt_irrefl
def FH:=@List.take_add_one
def FI:=@List.take_length
def FJ:=@List.size_toArray
def FK:=@List.mem_append
def FL:=@Nat.lt_of_lt_of_le
def FM:=@Int.emod_nonneg
def FN:=@List.length_take
def FO:=@List.getD_eq_getElem?_getD
def FP:=@Int.emod_lt_of_pos
def FQ:=@decide_eq_false
def FR:=@Nat.le_trans
def FS:=@Bool.false_ne_true
def FT:=@decide_eq_true
def FU:=@List.mem_cons_self
def FV:=@wpAny_mono
def FW:=@Option.map_eq_some_iff
def FX:=@PassesOwn.never
def FY:=@Heap.get?_push_size
def FZ:=@List.mem_cons_of_mem
def F0:=@boot_len
def F1:=@Nat.zero_le
def F3:=@List.map_cons
def F4:=@List.getElem?_of_mem
def F5:=@List.length_drop
def F6:=@List.mem_filter
def F7:=@Bool.eq_iff_iff
def F8:=@List.mem_append_right
def F9:=@decide_eq_true_eq
def Ea:=@Ne.symm
def Eb:=@Bool.and_eq_true
def Ec:=@List.getElem?_eq_none
def Ed:=@List.append_nil
def Ee:=@List.getElem?_append_right
def Ef:=@Bool.and_false
def Eg:=@List.map_map
def Eh:=@List.getElem?_append_left
def Ei:=@PyProof.Rows.boot_list
def Ej:=@PySem.F.plainAttrs_list
def El:=@List.length_cons
def Em:=@Nat.le_succ
def En:=@Nat.lt_of_le_of_lt
def Eo:=@List.all_eq_true
def Ep:=@Int.eq_ofNat_of_zero_le
def Er:=@Classical.byContradiction
def Es:=@List.take_append_drop
def Et:=@List.filter_append
def Eu:=@List.ext_getElem?
def Ew:=@sizeLine_eq
def Ex:=@List.nodup_cons
def Ey:=@PySem.mem_of_lookup
def Ez:=@Int.natAbs_mul
def EA:=@PySem.F.slot_list_append
def EB:=@PySem.F.type_list_append
def EC:=@Int.zero_add
def ED:=@List.filter_cons_of_pos
def EE:=@wpAny_truthy_bool
def EF:=@List.take_of_length_le
def EG:=@List.length_filter_le
def EH:=@Option.map_some
def EI:=@List.mem_append_left
def EJ:=@List.getElem?_eq_some_iff
def EK:=@codeAny_mono
def EL:=@decide_eq_true_iff
def EM:=@Int.mul_assoc
def EN:=@Nat.sub_self
def EO:=@of_decide_eq_true
def ER:=@Heap.get?_update_of_ne
def ES:=@List.length_range
def ET:=@List.filter_cons_of_neg
def EU:=@List.getElem?_take
def EV:=@Nat.mod_eq_of_lt
def EW:=@List.getElem?_cons_succ
def EX:=@wpAny_passesOwn
def EY:=@wpAny_Call_Name_kw
def EZ:=@Nat.lt_or_ge
def E3:=@Bool.not_eq_true'
def E4:=@List.map_id
def E5:=@Nat.le_of_lt
def E6:=@wpAny_execs_nil
def E7:=@Classical.choose_spec
def E8:=@Int.mul_ne_zero
def E9:=@List.find?_cons
def Da:=@List.getElem_map
def Dc:=@List.flatten_append
def Dd:=@List.filter_nil
def De:=@List.length_pos_iff
def Df:=@List.getElem?_range
def Dg:=@Nat.lt_succ_self
def Dh:=@Int.gcd_dvd_right
def Di:=@Rat.num_divInt_den
def Dj:=@decide_eq_false_iff_not
def Dk:=@List.length_eq_zero_iff
def Dm:=@List.filter_sublist
def Dn:=@List.filter_eq_nil_iff
def Do:=@List.mem_flatten
def Dp:=@PyProof.Rows.callWith_type1
def Dq:=@Heap.get?_update_self
def Dr:=@Nat.not_lt
def Ds:=@List.nodup_append
def Dt:=@List.mem_of_find?_eq_some
def Du:=@List.find?_some
def Dv:=@Nat.ne_of_gt
def Dw:=@plainObj_wpAny_Assign_Attribute
def Dx:=@List.getElem?_eq_none_iff
def Dy:=@List.find?_eq_none
def Dz:=@Rat.le_trans
def DA:=@List.getElem?_cons_zero
def DC:=@List.pairwise_singleton
noncomputable section
namespace Hd
open PySem PySem.W PySem.Calls PyProof.Rows
section
variable {α β:Type}
def ap (k:α->β) (x:α):β:=k x
def fB (b:Bool) (k:Bool->β):β:=@Bool.rec (fun _=>β) (ap k false) (ap k true) b
theorem BY (b:Bool) (k:Bool->β):fB b k=k b:=by cases b <;> rfl
def fN (n:Nat) (k:Nat->β):β:=@Nat.rec (fun _=>β) (ap k 0) (fun m _=>ap k (Nat.succ m)) n
theorem X9 (n:Nat) (k:Nat->β):fN n k=k n:=by cases n <;> rfl
def fL (f:α->(α->β)->β) (l:List α):(List α->β)->β:=
 @List.rec α (fun _=>(List α->β)->β) (fun k=>ap k []) (fun a _ ih k=>f a fun a'=>ih fun l'=>ap k (a' :: l')) l
theorem Ga {f:α->(α->β)->β}(hf:∀ a k,f a k=k a):∀ (l:List α) (k:List α->β),fL f l k=k l
 | [],_=>rfl
 | a :: l,k=>by show f a (fun a'=>fL f l fun l'=>ap k (a' :: l'))=_;rw [hf,Ga hf l];rfl
def fA (f:α->(α->β)->β) (x:Array α) (k:Array α->β):β:=@Array.rec α (fun _=>β) (fun l=>fL f l fun l'=>ap k ⟨l'⟩) x
theorem VQ {f:α->(α->β)->β}(hf:∀ a k,f a k=k a) (x:Array α) (k:Array α->β):fA f x k=k x:=by
 cases x with | mk l=>exact Ga hf l _
def fO (f:α->(α->β)->β) (x:Option α) (k:Option α->β):β:=@Option.rec α (fun _=>β) (ap k none) (fun a=>f a fun a'=>ap k (some a')) x
theorem U9 {f:α->(α->β)->β}(hf:∀ a k,f a k=k a) (x:Option α) (k:Option α->β):fO f x k=k x:=by
 cases x with
 | none=>rfl
 | some a=>exact hf a _
def fV (v:Value) (k:Value->β):β:=@Value.rec (fun _=>β) (ap k .none) (ap k .ellipsis) (ap k .notImplemented) (fun b=>fB b fun b=>ap k (.bool b)) (fun i t=>fN t fun t=>ap k (.int i t)) (fun i t=>ap k (.float i t))
 (fun s t=>fN t fun t=>ap k (.str s t)) (fun b t=>ap k (.bytes b t)) (fun s=>ap k (.type s)) (fun s=>ap k (.builtin s)) (fun a=>fN a fun a=>ap k (.ref a)) v
theorem Yu (v:Value) (k:Value->β):fV v k=k v:=by
 cases v <;> first | rfl | exact BY _ _ | exact X9 _ _
def fE (e:DictEntry) (k:DictEntry->β):β:=@DictEntry.rec (fun _=>β) (fun h a b=>fV a fun a=>fV b fun b=>ap k ⟨h,a,b⟩) e
theorem S0 (e:DictEntry) (k:DictEntry->β):fE e k=k e:=by
 cases e with | mk h a b=>show fV a _=_;rw [Yu,Yu];rfl
def fF (f:FuncData) (k:FuncData->β):β:=@FuncData.rec (fun _=>β) (fun nm qn pa bo sc gl cl de kw doc pm an cd ct bu=>fN gl fun gl=>fV de fun de=>fV kw fun kw=>fV doc fun doc=>fV pm fun pm=>fO fN an fun an=>fV cd fun cd=>fV ct fun ct=>fN bu fun bu=>ap k ⟨nm,qn,pa,bo,sc,gl,cl,de,kw,doc,pm,an,cd,ct,bu⟩) f
theorem SZ (f:FuncData) (k:FuncData->β):fF f k=k f:=by
 cases f;show fN _ _=_;simp only [X9,Yu,U9 X9];rfl
def fC (c:ClassData) (k:ClassData->β):β:=@ClassData.rec (fun _=>β) (fun nm ba mr ns qn hd sl su ab co de=>fL fV ba fun ba=>fL fV mr fun mr=>fN ns fun ns=>fB hd fun hd=>fL fV su fun su=>fB ab fun ab=>fB de fun de=>ap k ⟨nm,ba,mr,ns,qn,hd,sl,su,ab,co,de⟩) c
theorem S2 (c:ClassData) (k:ClassData->β):fC c k=k c:=by
 cases c;show fL _ _ _=_;simp only [X9,BY,Ga Yu];rfl
def fD (d:Data) (k:Data->β):β:=@Data.rec (fun _=>β) (ap k .plain) (fun v=>fV v fun v=>ap k (.prim v)) (fun x n=>fA fV x fun x=>fN n fun n=>ap k (.seq x n)) (fun x n=>fA fE x fun x=>fN n fun n=>ap k (.dict x n))
 (fun x n t=>ap k (.set x n t)) (fun b n=>ap k (.bytearray b n)) (fun v=>fO fV v fun v=>ap k (.cell v)) (fun f=>fF f fun f=>ap k (.func f)) (fun c=>fC c fun c=>ap k (.cls c)) (fun x=>fA fV x fun x=>ap k (.fields x)) (ap k .freed) d
theorem S1 (d:Data) (k:Data->β):fD d k=k d:=by
 cases d with
 | plain | set | bytearray | freed=>rfl
 | prim v=>exact Yu _ _
 | seq x n=>show fA fV _ _=_;rw [VQ Yu,X9];rfl
 | dict x n=>show fA fE _ _=_;rw [VQ S0,X9];rfl
 | cell v=>exact U9 Yu _ _
 | func f=>exact SZ _ _
 | cls f=>exact S2 _ _
 | fields f=>exact VQ Yu _ _
def fObj (o:Obj) (k:Obj->β):β:=@Obj.rec (fun _=>β) (fun c d x s=>fV c fun c=>fO fN d fun d=>fD x fun x=>fA (fO fV) s fun s=>ap k ⟨c,d,x,s⟩) o
theorem Vb (o:Obj) (k:Obj->β):fObj o k=k o:=by
 cases o;show fV _ _=_;rw [Yu,U9 X9,S1,VQ (U9 Yu)];rfl
def fT (t:BT):(BT->β)->β:=@BT.rec (fun _=>(BT->β)->β) (fun k=>ap k .nil) (fun v _ _ l r k=>fObj v fun v=>l fun l=>r fun r=>ap k (.node v l r)) t
theorem MS:∀ (t:BT) (k:BT->β),fT t k=k t
 | .nil,_=>rfl
 | .node v l r,k=>by show fObj v (fun v=>fT l fun l=>fT r fun r=>ap k (.node v l r))=_;rw [Vb,MS l,MS r];rfl
def fP (p:Pos) (k:Pos->β):β:=@Pos.rec (fun _=>β) (fun a b c d=>fN a fun a=>fN b fun b=>fN c fun c=>fN d fun d=>ap k ⟨a,b,c,d⟩) p
theorem SX (p:Pos) (k:Pos->β):fP p k=k p:=by
 cases p;show fN _ _=_;simp only [X9];rfl
def fS (s:SharedT) (k:SharedT->β):β:=@SharedT.rec (fun _=>β) (fun t n li g d tk os=>fT t fun t=>fN n fun n=>fN tk fun tk=>ap k ⟨t,n,li,g,d,tk,os⟩) s
theorem BX (s:SharedT) (k:SharedT->β):fS s k=k s:=by
 cases s;show fT _ _=_;rw [MS,X9,X9];rfl
def fH (s:Shared) (k:Shared->β):β:=@Shared.rec (fun _=>β) (fun h g d tk os=>@Heap.rec (fun _=>β) (fun x li=>fA fObj x fun x=>fN tk fun tk=>ap k ⟨⟨x,li⟩,g,d,tk,os⟩) h) s
theorem SY (s:Shared) (k:Shared->β):fH s k=k s:=by
 cases s with | mk h=>cases h;show fA _ _ _=_;rw [VQ Vb,X9];rfl
end
def sp {α:Type}:List α->List α×List α
 | []=>([],[])
 | x :: xs=>(x :: (sp xs).2,(sp xs).1)
theorem UL {α:Type}:∀ (l:List α) (i:Nat),(sp l).1[i]?=l[2*i]?/\(sp l).2[i]?=l[2*i+1]?
 | [],i=>by simp [sp]
 | x :: xs,i=>by
  obtain ⟨a,b⟩:=UL xs i;constructor
  ·cases i with
   | zero=>rfl
   | succ j=>show (sp xs).2[j]?=_;rw [(UL xs j).2,show 2*(j+1)=2*j+1+1 by omega,EW]
  ·show (sp xs).1[i]?=_;rw [a,EW]
theorem BM {α:Type}:∀ (l:List α),(sp l).1.length<=l.length/\(sp l).2.length<=l.length
 | []=>by simp [sp]
 | x :: xs=>by
  obtain ⟨a,b⟩:=BM xs;constructor <;> simp [sp] <;> omega
def JL:Nat->List Obj->BT
 | 0,_=>.nil
 | _+1,[]=>.nil
 | n+1,x :: xs=>.node x (JL n (sp xs).1) (JL n (sp xs).2)
theorem WN:∀ (n:Nat) (l:List Obj),l.length<=n->∀ i,(JL n l).get i=l[i]?
 | 0,l,h,i=>by
  have:l=[]:=List.eq_nil_of_length_eq_zero (by omega);subst this;simp [JL,BT.get]
 | n+1,[],h,i=>by simp [JL,BT.get]
 | n+1,x :: xs,h,i=>by
  have hs:=BM xs;have h':xs.length<=n:=by simpa using h
  rw [JL,BT.get_node,WN n _ (by omega),WN n _ (by omega),(UL xs _).1,(UL xs _).2];by_cases h0:i=0
  ·subst h0;rfl
  ·rw [Fh h0];obtain ⟨j,rfl⟩:∃ j,i=j+1:=⟨i-1,by omega⟩
   rw [EW];by_cases h1:(j+1) % 2=1
   ·rw [Fk h1,show 2*((j+1) / 2)=j by omega]
   ·rw [Fh h1,show 2*((j+1) / 2-1)+1=j by omega]
theorem L4 (l:List Obj) (t:BT) (h:∀ i,t.get i=l[i]?):t.list l.length=l:=by
 unfold BT.list;apply Eu;intro i;rw [Fv];by_cases hi:i<l.length
 ·rw [Df hi,EH,h,Fj hi];rfl
 ·rw [Ec (by simpa using hi),Ec (by omega)];rfl
def toT (s:Shared):SharedT:=⟨JL s.heap.objs.toList.length s.heap.objs.toList,s.heap.objs.toList.length,s.heap.life,s.gens,s.drawn,s.toks,s.os⟩
theorem Ln (s:Shared):(toT s).abs=s:=by
 obtain ⟨⟨⟨l⟩,li⟩,g,d,tk,os⟩:=s;show (⟨absHeap _ _ _,_,_,_,_⟩:Shared)=_;simp only [toT,absHeap];rw [L4 l _ (WN _ l (Fl _))]
section
variable {β:Type}
def stp (x:Option (Flow×SharedT×Code×Pos)) (k:SharedT->Code->Pos->Option β):Option β:=match x with
 | some (.next,s,c,p)=>k s c p
 | _=>none
def go (seg:List Stmt->SharedT->Pos->Option (Flow×SharedT×Code×Pos)) (gs:List (List Stmt)):List Code->SharedT->Pos->(List Code->SharedT->Pos->Option β)->Option β:=
 @List.rec (List Stmt) (fun _=>List Code->SharedT->Pos->(List Code->SharedT->Pos->Option β)->Option β) (fun cs s p k=>k cs s p)
  (fun g _ ih cs s p k=>stp (seg g s p) fun s c p=>fS s fun s=>fP p fun p=>ih (c :: cs) s p k) gs
theorem Vx {x:Option (Flow×SharedT×Code×Pos)}{k:SharedT->Code->Pos->Option β}{a:β}(h:stp x k=some a):∃ s c p,x=some (.next,s,c,p)/\k s c p=some a:=by
 unfold stp at h;split at h
 ·exact ⟨_,_,_,rfl,h⟩
 ·cases h
theorem U1 {seg:List Stmt->SharedT->Pos->Option (Flow×SharedT×Code×Pos)}{g:List Stmt}{gs:List (List Stmt)}{cs:List Code}{s:SharedT}{p:Pos}{k:List Code->SharedT->Pos->Option β} :
  go seg (g :: gs) cs s p k=stp (seg g s p) fun s c p=>go seg gs (c :: cs) s p k:=by
 show stp (seg g s p) (fun s c p=>fS s fun s=>fP p fun p=>go seg gs (c :: cs) s p k)=_
 congr 1;funext s c p;rw [BX,SX]
theorem MF {seg:List Stmt->SharedT->Pos->Option (Flow×SharedT×Code×Pos)}{k:List Code->SharedT->Pos->Option (List Code×β)}{a:List Code×β}(hk:∀ cs s p,k cs s p=some a->a.1=cs) :
  ∀ (gs:List (List Stmt)) (cs:List Code) (s:SharedT) (p:Pos),go seg gs cs s p k=some a->∀ d∈cs,d∈a.1
 | [],cs,s,p,h,d,hd=>by rw [hk cs s p h];exact hd
 | g :: gs,cs,s,p,h,d,hd=>by
  rw [U1] at h;obtain ⟨s',c',p',_,h2⟩:=Vx h;exact MF hk gs _ s' p' h2 d (FZ _ hd)
variable {tb:String->Option Builtin} {p:Program} {w:World} {n₀:Nat} {ann:Option Value} {env:Env} {q:Pos}
theorem BW {F M:Nat}{c:Code}{Z:Shared->Prop}{k:List Code->SharedT->Pos->Option (List Code×β)}{a:List Code×β}(hk:∀ cs s p,k cs s p=some a->a.1=cs) (hc:∀ d∈a.1,d=c)
  (fin:∀ cs s pos,k cs s pos=some a->∃ r,topRun tb p w n₀ ann M s.abs (restOf [] env c pos [topFrame q])=some r/\Z r) :
  ∀ (gs:List (List Stmt)) (cs:List Code) (s:SharedT) (pos:Pos),go (fun g s pos=>segRunT tb p w n₀ ann 1 F s (piecesOf g env c pos [topFrame q])) gs cs s pos k=some a ->
   ∃ r,topRun tb p w n₀ ann (gs.length*F+M) s.abs (restOf gs.flatten env c pos [topFrame q])=some r/\Z r
 | [],cs,s,pos,h=>by
  obtain ⟨r,h1,h2⟩:=fin cs s pos h;exact ⟨r,by simpa using h1,h2⟩
 | g :: gs,cs,s,pos,h=>by
  rw [U1] at h;obtain ⟨s',c',p',h1,h2⟩:=Vx h;have hc':c'=c:=hc _ (MF hk gs _ s' p' h2 c' (.head _));subst hc';obtain ⟨r,h3,h4⟩:=BW hk hc fin gs _ s' p' h2;refine ⟨r,?_,h4⟩;have:=piece_app (rest:=gs.flatten) (segRun_of h1) h3;rw [List.flatten_cons,show (g :: gs).length*F+M=F+(gs.length*F+M) by rw [El,Nat.add_mul];omega];exact this
end
def WY {α:Type}(c:Nat):Nat->List α->List (List α)
 | 0,l=>[l]
 | _+1,[]=>[]
 | n+1,x :: xs=>(x :: xs.take c) :: WY c n (xs.drop c)
theorem JJ {α:Type}(c:Nat):∀ (n:Nat) (l:List α),(WY c n l).flatten=l
 | 0,l=>by simp [WY]
 | n+1,[]=>rfl
 | n+1,x :: xs=>by rw [WY,List.flatten_cons,JJ c n];simp
def env0 (p:Program):Env:={ scope:=p.main.scope,locals:=mainNs,globals:=mainNs,cells:=[],code:=.ref 13,frame:=some 14 }
def Wi (p:Program):Code:=.body (behindTheImports p) (env0 p)
abbrev KN:Pos:=⟨0,0,0,0⟩
noncomputable abbrev start0 (P:Params) (os:OsState):Shared:=⟨boot_heap P,Array.mk [],boot_drawn,boot_toks,os⟩
section
variable {β:Type}
def fin0 (p:Program) (w:World) (M:Nat) (look:Shared->β) (cs:List Code) (s:SharedT) (pos:Pos):Option (List Code×β):=
 fL fObj (s.tree.list s.n) fun l=>match topRun treeTable p w 11 (some (.ref 6)) M ⟨⟨⟨l⟩,s.life⟩,s.gens,s.drawn,s.toks,s.os⟩ (restOf [] (env0 p) (Wi p) pos [topFrame KN]) with
 | some r=>fH r fun r=>some (cs,look r)
 | none=>none
theorem U6 {p:Program}{M:Nat}{look:Shared->β}{cs:List Code}{s:SharedT}{a:List Code×β}(h:fin0 p w M look cs s pos=some a) :
  a.1=cs/\∃ r,topRun treeTable p w 11 (some (.ref 6)) M s.abs (restOf [] (env0 p) (Wi p) pos [topFrame KN])=some r/\look r=a.2:=by
 unfold fin0 at h;rw [Ga Vb] at h;have e:(⟨⟨⟨s.tree.list s.n⟩,s.life⟩,s.gens,s.drawn,s.toks,s.os⟩:Shared)=s.abs:=rfl;rw [e] at h;split at h
 ·rename_i r hr;rw [SY] at h;cases h;exact ⟨rfl,r,hr,rfl⟩
 ·cases h
def answer (p:Program) (c F M:Nat) (look:Shared->β) (w:World) (os:OsState):Option (Thread×Code×Pos×List Code×β):=
 match topGo treeTable p w 11 (some (.ref 6)) 12 (start0 w.params os) (topStub p) with
 | some (sa,ta)=>match segRun treeTable p w 11 (some (.ref 6)) 1 1 sa (blockOf (behindTheImports p) (env0 p) (Wi p) KN [topFrame KN]) with
  | some (.next,sb,cb,pb)=>(fS (toT sb) fun st=>go (fun g s pos=>segRunT treeTable p w 11 (some (.ref 6)) 1 F s (piecesOf g (env0 p) (Wi p) pos [topFrame KN])) (WY c 200 (behindTheImports p)) [] st pb (fin0 p w M look)).map fun a=>(ta,cb,pb,a)
  | _=>none
 | none=>none
def answer0 (p:Program) (n:Nat) (b:β):Option (Thread×Code×Pos×List Code×β):=some (⟨denote treeTable (Wi p),Wi p,KN,[topFrame KN]⟩,Wi p,KN,List.replicate n (Wi p),b)
theorem Xa {p:Program}{c F M:Nat}{look:Shared->β}{os:OsState}{b:β}(h:answer p c F M look w os=answer0 p n b) :
  ∃ r,topRun treeTable p w 11 (some (.ref 6)) (12+(1+((WY c 200 (behindTheImports p)).length*F+M))) (start0 w.params os) (topStub p)=some r/\look r=b:=by
 unfold answer answer0 at h;split at h
 ·rename_i sa ta hg;split at h
  ·rename_i sb cb pb hs;rw [BX] at h;obtain ⟨a,h1,h2⟩:=FW.mp h;simp only [Prod.mk.injEq] at h2;obtain ⟨rfl,rfl,rfl,h3,h4⟩:ta=_/\cb=_/\pb=_/\a.1=_/\a.2=_:=by
    obtain ⟨x1,x2,x3,x4⟩:=h2;exact ⟨x1,x2,x3,congrArg Prod.fst x4,congrArg Prod.snd x4⟩
   obtain ⟨r,k1,k2⟩:=BW (Z:=fun r=>look r=a.2) (c:=Wi p) (q:=KN) (env:=env0 p) (fun cs s p e=>(U6 e).1) (fun d hd=>List.eq_of_mem_replicate (h3 ▸ hd)) (fun cs s pos e=>(U6 e).2) _ _ _ _ h1;rw [Ln,JJ] at k1;exact ⟨r,go_top hg (piece_block hs k1),k2.trans h4⟩
  ·cases h
 ·cases h
end
theorem left_ok6 {p q:Program}{Xt:Shared->Bool}{Yf:Shared->α}{Ya:World->α}{N c F M:Nat}(e:opening p=plainProg p.main.scope.names) (hN:Nat.ble 600 N=true) (f:∀ s,fenceModules? p s=some s)
  (size:∀ w:World,((boot_heap w.params).isNs mainGlobals&&(Array.mk []:Array GenState).size == 0,(boot_heap w.params).objs.size,(boot_heap w.params).nsMap mainGlobals "__annotations__")=(true,11,some (Value.ref 6)))
  (ans:∀ (w:World) (os:OsState),answer p c F M (fun s=>((staticsOk (importedModules p.main.body) (boot_heap w.params) s.heap&&namesBound p s.heap&&gensDone s&&laidKept (boot_heap w.params) s.heap),Yf s)) w os=answer0 p n (true,Ya w))
  (ans2:∀ (w:World) (os:OsState),answer p c F M (fun s=>(openSeen q loose (importedModules p.main.body) Xt true s).1) w os=answer0 p n (openGood q loose).1)
  (ans3a:∀ (w:World) (os:OsState),answer p c F M (fun s=>(openSeen q loose (importedModules p.main.body) Xt true s).2.1) w os=answer0 p n (openGood q loose).2.1)
  (ans3b:∀ (w:World) (os:OsState),answer p c F M (fun s=>(openSeen q loose (importedModules p.main.body) Xt true s).2.2.1) w os=answer0 p n (openGood q loose).2.2.1)
  (ans3c:∀ (w:World) (os:OsState),answer p c F M (fun s=>(openSeen q loose (importedModules p.main.body) Xt true s).2.2.2.1) w os=answer0 p n (openGood q loose).2.2.2.1)
  (ans4:∀ (w:World) (os:OsState),answer p c F M (fun s=>(openSeen q loose (importedModules p.main.body) Xt true s).2.2.2.2) w os=answer0 p n (openGood q loose).2.2.2.2) (le:Nat.ble (12+(1+((WY c 200 (behindTheImports p)).length*F+M))) N=true):LeftO p q loose Xt Yf Ya N:=fun w=>by
 obtain ⟨⟨h,gs,d,k,os⟩,e1,e2⟩:=FW.mp (boot_open e hN f w);obtain ⟨rfl,rfl,rfl,rfl⟩:h=boot_heap w.params/\gs=Array.mk []/\d=boot_drawn/\k=boot_toks:=by simpa using e2
 obtain ⟨z1,z2,z3⟩:_/\_/\_:=by simpa only [Prod.mk.injEq] using size w
 obtain ⟨r,h1,h2⟩:=Xa (ans w os);simp only [Prod.mk.injEq] at h2;obtain ⟨l1,l3⟩:=h2;obtain ⟨r',h1',h2'⟩:=Xa (ans2 w os);obtain ⟨ra,ha1,ha2⟩:=Xa (ans3a w os);obtain ⟨rb,hb1,hb2⟩:=Xa (ans3b w os);obtain ⟨rc,hc1,hc2⟩:=Xa (ans3c w os);obtain ⟨r3,h3,h4⟩:=Xa (ans4 w os);rw [Fy (h1'.symm.trans h1)] at h2';rw [Fy (ha1.symm.trans h1)] at ha2;rw [Fy (hb1.symm.trans h1)] at hb2;rw [Fy (hc1.symm.trans h1)] at hc2;rw [Fy (h3.symm.trans h1)] at h4;have l2:openSeen q loose (importedModules p.main.body) Xt true r=openGood q loose:=Prod.ext h2' (Prod.ext ha2 (Prod.ext hb2 (Prod.ext hc2 h4)));have r1:=topRun_mono (N-(12+(1+((WY c 200 (behindTheImports p)).length*F+M)))) _ _ _ _ h1;rw [Nat.add_sub_cancel' (Nat.le_of_ble_eq_true le)] at r1;have t:topFrom treeTable p w N ⟨boot_heap w.params,Array.mk [],boot_drawn,boot_toks,os⟩=some r:=by
  unfold topFrom;rw [z1];simp only;rw [z2,z3,r1];simp only [Option.bind_some];rw [l1]
 unfold openEnds;rw [e1];simp only [Option.bind_some];rw [t];simp only [EH,l2,l3]
end Hd
namespace Hd
open PySem PySem.W
theorem size (w:World):((boot_heap w.params).isNs mainGlobals&&(Array.mk []:Array GenState).size == 0,(boot_heap w.params).objs.size,(boot_heap w.params).nsMap mainGlobals "__annotations__")=(true,11,some (Value.ref 6)):=by
 kernel_rfl
end Hd
namespace Hd
theorem len1 {P:List α->Prop}(h:∀ a0,P [a0]):∀ us:List α,us.length=1->P us
 | [a0],_=>h a0
theorem len2 {P:List α->Prop}(h:∀ a0 a1,P [a0,a1]):∀ us:List α,us.length=2->P us
 | [a0,a1],_=>h a0 a1
theorem len3 {P:List α->Prop}(h:∀ a0 a1 a2,P [a0,a1,a2]):∀ us:List α,us.length=3->P us
 | [a0,a1,a2],_=>h a0 a1 a2
theorem len4 {P:List α->Prop}(h:∀ a0 a1 a2 a3,P [a0,a1,a2,a3]):∀ us:List α,us.length=4->P us
 | [a0,a1,a2,a3],_=>h a0 a1 a2 a3
theorem len6 {P:List α->Prop}(h:∀ a0 a1 a2 a3 a4 a5,P [a0,a1,a2,a3,a4,a5]):∀ us:List α,us.length=6->P us
 | [a0,a1,a2,a3,a4,a5],_=>h a0 a1 a2 a3 a4 a5
theorem len10 {P:List α->Prop}(h:∀ a0 a1 a2 a3 a4 a5 a6 a7 a8 a9,P [a0,a1,a2,a3,a4,a5,a6,a7,a8,a9]):∀ us:List α,us.length=10->P us
 | [a0,a1,a2,a3,a4,a5,a6,a7,a8,a9],_=>h a0 a1 a2 a3 a4 a5 a6 a7 a8 a9
end Hd
namespace L2
open PySem
def Zl (s:Stmt) (j:Nat):Stmt:=match s with
 | .ClassDef _ _ _ body _ _ _ _ _ _ _=>body.getD j (.Pass ⟨0,0,0,0⟩)
 | _=>.Pass ⟨0,0,0,0⟩
def QZ (s:Stmt):Arguments:=match s with
 | .FunctionDef _ a _ _ _ _ _ _ _ _=>a
 | _=>{ posonlyargs:=[],args:=[],vararg:=none,kwonlyargs:=[],kw_defaults:=[],kwarg:=none,defaults:=[] }
def QO (s:Stmt):List Stmt:=match s with
 | .FunctionDef _ _ b _ _ _ _ _ _ _=>b
 | _=>[]
def Qh (s:Stmt):Scope:=match s with
 | .FunctionDef _ _ _ _ _ _ sc _ _ _=>sc
 | _=>{ kind:=.function,names:=[],isGenerator:=false,isCoroutine:=false }
end L2
namespace My
open PySem PyProof.Rows L2
def top (i:Nat):Stmt:=PySem.Challenge.pw_doletaper_k45_refused_knots.main.body.getD i (.Pass ⟨0,0,0,0⟩)
abbrev Q9:Stmt:=Zl (top 10) 0
abbrev Zs:Stmt:=Zl (top 11) 0
abbrev Zh:Stmt:=Zl (top 12) 0
abbrev Zr:Stmt:=top 18
abbrev XN:Stmt:=top 19
abbrev KE:Stmt:=top 20
abbrev XH:Stmt:=top 21
abbrev W6:Stmt:=top 22
abbrev Jc:Stmt:=top 23
abbrev Yn:Stmt:=top 24
abbrev Z4:Stmt:=top 26
abbrev Z7:Stmt:=top 28
abbrev W8:Stmt:=top 29
abbrev XI:Stmt:=top 30
abbrev Jb:Stmt:=top 32
abbrev Zq:Stmt:=top 33
abbrev Ym:Stmt:=top 34
abbrev Xl:Stmt:=top 35
abbrev Yh:Stmt:=top 36
abbrev Z8:Stmt:=top 37
abbrev XO:Stmt:=top 38
abbrev W7:Stmt:=top 39
abbrev Yi:Stmt:=top 40
abbrev QE:Stmt:=Zl (top 42) 0
abbrev QY:Stmt:=Zl (top 42) 5
abbrev ZK:Stmt:=Zl (top 43) 0
abbrev Zi:Stmt:=Zl (top 44) 0
abbrev ZV:Stmt:=Zl (top 44) 1
abbrev ZJ:Stmt:=Zl (top 44) 2
abbrev ZE:Stmt:=Zl (top 47) 0
abbrev ZD:Stmt:=Zl (top 48) 0
abbrev ZA:Stmt:=Zl (top 49) 0
abbrev ZC:Stmt:=Zl (top 51) 0
abbrev Zz:Stmt:=Zl (top 52) 0
abbrev Xo:Stmt:=top 54
abbrev Xn:Stmt:=top 55
abbrev W9:Stmt:=top 56
abbrev Yl:Stmt:=top 57
abbrev YU:Stmt:=top 58
abbrev YW:Stmt:=top 59
abbrev Z5:Stmt:=top 60
abbrev Xm:Stmt:=top 61
abbrev YZ:Stmt:=top 62
abbrev YR:Stmt:=top 63
abbrev XJ:Stmt:=top 64
abbrev YT:Stmt:=top 65
abbrev YX:Stmt:=top 66
abbrev XM:Stmt:=top 67
abbrev Yj:Stmt:=top 68
abbrev Z6:Stmt:=top 69
abbrev YV:Stmt:=top 70
abbrev Yk:Stmt:=top 71
abbrev YY:Stmt:=top 72
abbrev YS:Stmt:=top 73
abbrev Ja:Stmt:=top 74
abbrev Jo:Stmt:=top 75
abbrev Ek (P:Params) (x:Str) (t:Tok) (v:Value):DictEntry:=⟨PyData.keyHash P x,.str x t,v⟩
abbrev fO (m:Str) (t:Tok) (n q:Str) (s:Stmt) (d:Value) (c:Nat):Obj:=⟨.type "function",none,.func (W.fnOf n q (QZ s) (QO s) (Qh s) d .none .none (.str m t) none (.ref c) .none),#[]⟩
abbrev fO0:=fO "doletaper.errors" 194
abbrev fO1:=fO "doletaper.ratios" 462
abbrev fO2:=fO "doletaper.steps" 529
abbrev fO3:=fO "doletaper.leans" 544
abbrev fO4:=fO "doletaper.order" 567
abbrev fO5:=fO "doletaper.kinds" 636
abbrev fO6:=fO "doletaper.parts" 819
abbrev fO7:=fO "law_doletaper_k45_refused_knots" 1105
abbrev cO (n q:Str) (t:Nat) (l k:Int) (a b:Nat) (x y z:Value) (c u:Nat):Obj:=⟨.type "code",none,.fields #[.str n t,.str q (t+1),.str "/claim/cut.py" (t+2),.int l 0,.int k 0,.int 0 0,.int 0 0,.int 3 0,.ref a,.bool true,.int 181 0,.ref b,x,y,z,.ref c,.int u 0,.int l 0,.str "/claim/cut.py" (u+1)],#[]⟩
def hko_2 (P:Params):Obj:=⟨.none,none,(.dict #[] 0),#[]⟩
def hko_3_0 (P:Params):List DictEntry:=[Ek P "__name__" 165 (.str "law_doletaper_k45_refused_knots" 1105),Ek P "__doc__" 166 .none,Ek P "__package__" 167 .none,Ek P "__loader__" 168 (.builtin "__main__.__loader__#opaque"),Ek P "__spec__" 169 .none,Ek P "__annotations__" 170 (.ref 6),Ek P "__builtins__" 171 (.ref 4),Ek P "__file__" 173 (.str "/claim/cut.py" 172)]
def hko_3_1 (P:Params):List DictEntry:=[Ek P "__cached__" 174 .none,Ek P "_wall" 193 (.ref 21),Ek P "HelpError" 213 (.ref 31),Ek P "NoAmount" 229 (.ref 44),Ek P "NoBend" 245 (.ref 56),Ek P "NoPerson" 261 (.ref 68),Ek P "Unknown" 286 (.ref 87),Ek P "Twice" 311 (.ref 106)]
def hko_3_2 (P:Params):List DictEntry:=[Ek P "NoWord" 327 (.ref 118),Ek P "NoRow" 352 (.ref 137),Ek P "Tangled" 377 (.ref 156),Ek P "Jumps" 402 (.ref 175),Ek P "Widens" 429 (.ref 194),Ek P "TooMany" 445 (.ref 206),Ek P "NoNews" 461 (.ref 218),Ek P "NOUGHT" 466 (.ref 221)]
def hko_3_3 (P:Params):List DictEntry:=[Ek P "ONE" 469 (.ref 222),Ek P "common_divisor" 478 (.ref 229),Ek P "fraction" 487 (.ref 236),Ek P "plus" 495 (.ref 243),Ek P "total_of" 504 (.ref 250),Ek P "times" 512 (.ref 257),Ek P "below" 520 (.ref 264),Ek P "greater" 528 (.ref 271)]
def hko_3_4 (P:Params):List DictEntry:=[Ek P "steps_from" 543 (.ref 278),Ek P "count_rate" 551 (.ref 283),Ek P "leans" 557 (.ref 288),Ek P "leads_to" 566 (.ref 295),Ek P "knots" 574 (.ref 300),Ek P "counted_within" 580 (.ref 305),Ek P "is_free" 586 (.ref 310),Ek P "ring_from" 597 (.ref 317)]
def hko_3_5 (P:Params):List DictEntry:=[Ek P "pull_of" 610 (.ref 324),Ek P "check_ring" 616 (.ref 329),Ek P "block_of" 622 (.ref 334),Ek P "order" 628 (.ref 339),Ek P "narrows" 635 (.ref 346),Ek P "Kind" 731 (.ref 406),Ek P "Cap" 772 (.ref 434),Ek P "Office" 818 (.ref 467)]
def hko_3_6 (P:Params):List DictEntry:=[Ek P "Part" 855 (.ref 495),Ek P "Base" 895 (.ref 530),Ek P "Each" 939 (.ref 563),Ek P "Rent" 981 (.ref 596),Ek P "Term" 1016 (.ref 622),Ek P "From" 1060 (.ref 657),Ek P "Upto" 1104 (.ref 690),Ek P "_law_cell_at" 1114 (.ref 699)]
def hko_3_7 (P:Params):List DictEntry:=[Ek P "_law_divisor" 1122 (.ref 706),Ek P "_law_low" 1131 (.ref 713),Ek P "_law_names" 1137 (.ref 718),Ek P "_law_rate" 1145 (.ref 725),Ek P "_law_offs" 1156 (.ref 732),Ek P "_law_segments" 1162 (.ref 737),Ek P "_law_earlier" 1175 (.ref 744),Ek P "_law_jump" 1182 (.ref 751)]
def hko_3_8 (P:Params):List DictEntry:=[Ek P "_law_wide" 1189 (.ref 758),Ek P "_law_spoilt" 1195 (.ref 763),Ek P "_law_rows" 1201 (.ref 768),Ek P "_law_kind" 1213 (.ref 775),Ek P "_law_office" 1219 (.ref 780),Ek P "_law_times" 1227 (.ref 787),Ek P "_law_greatest" 1237 (.ref 794),Ek P "_law_pull" 1243 (.ref 799)]
def hko_3_9 (P:Params):List DictEntry:=[Ek P "_law_shape" 1249 (.ref 804),Ek P "_law_just" 1255 (.ref 809),Ek P "_law_told" 1264 (.ref 816),Ek P "_law_due" 1270 (.ref 821),Ek P "law" 1276 (.ref 826)]
def hko_3 (P:Params):Obj:=⟨(.type "dict"),none,(.dict (hko_3_0 P++hko_3_1 P++hko_3_2 P++hko_3_3 P++hko_3_4 P++hko_3_5 P++hko_3_6 P++hko_3_7 P++hko_3_8 P++hko_3_9 P).toArray 77),#[]⟩
def hko_30 (P:Params):Obj:=⟨(.type "dict"),none,(.dict #[Ek P "__module__" 203 (.str "doletaper.errors" 194),Ek P "__firstlineno__" 207 (.int 5 206),Ek P "__static_attributes__" 208 (.ref 29),Ek P "__weakref__" 210 (.ref 32),Ek P "__doc__" 211 .none] 3),#[]⟩
def hko_31 (P:Params):Obj:=⟨(.type "type"),none,(.cls ⟨"HelpError",[(.type "ValueError")],[(.ref 31),(.type "ValueError"),(.type "Exception"),(.type "BaseException"),(.type "object")],30,"HelpError",true,[],[(.ref 44),(.ref 56),(.ref 68),(.ref 87),(.ref 106),(.ref 118),(.ref 137),(.ref 156),(.ref 175),(.ref 194),(.ref 206),(.ref 218)],false,none,false⟩),#[(some (.ref 22)),none,(some (.str "HelpError" 196)),(some (.str "HelpError" 204)),(some (.builtin "ValueError.__new__")),(some (.bool true))]⟩
def hko_43 (P:Params):Obj:=⟨(.type "dict"),none,(.dict #[Ek P "__module__" 221 (.str "doletaper.errors" 194),Ek P "__firstlineno__" 225 (.int 7 224),Ek P "__static_attributes__" 226 (.ref 42),Ek P "__doc__" 227 .none] 2),#[]⟩
def hko_44 (P:Params):Obj:=⟨(.type "type"),none,(.cls ⟨"NoAmount",[(.ref 31)],[(.ref 44),(.ref 31),(.type "ValueError"),(.type "Exception"),(.type "BaseException"),(.type "object")],43,"NoAmount",true,[],[],false,none,false⟩),#[(some (.ref 35)),none,(some (.str "NoAmount" 214)),(some (.str "NoAmount" 222)),(some (.builtin "ValueError.__new__")),(some (.bool true))]⟩
def hko_55 (P:Params):Obj:=⟨(.type "dict"),none,(.dict #[Ek P "__module__" 237 (.str "doletaper.errors" 194),Ek P "__firstlineno__" 241 (.int 9 240),Ek P "__static_attributes__" 242 (.ref 54),Ek P "__doc__" 243 .none] 2),#[]⟩
def hko_56 (P:Params):Obj:=⟨(.type "type"),none,(.cls ⟨"NoBend",[(.ref 31)],[(.ref 56),(.ref 31),(.type "ValueError"),(.type "Exception"),(.type "BaseException"),(.type "object")],55,"NoBend",true,[],[],false,none,false⟩),#[(some (.ref 47)),none,(some (.str "NoBend" 230)),(some (.str "NoBend" 238)),(some (.builtin "ValueError.__new__")),(some (.bool true))]⟩
def hko_67 (P:Params):Obj:=⟨(.type "dict"),none,(.dict #[Ek P "__module__" 253 (.str "doletaper.errors" 194),Ek P "__firstlineno__" 257 (.int 11 256),Ek P "__static_attributes__" 258 (.ref 66),Ek P "__doc__" 259 .none] 2),#[]⟩
def hko_68 (P:Params):Obj:=⟨(.type "type"),none,(.cls ⟨"NoPerson",[(.ref 31)],[(.ref 68),(.ref 31),(.type "ValueError"),(.type "Exception"),(.type "BaseException"),(.type "object")],67,"NoPerson",true,[],[],false,none,false⟩),#[(some (.ref 59)),none,(some (.str "NoPerson" 246)),(some (.str "NoPerson" 254)),(some (.builtin "ValueError.__new__")),(some (.bool true))]⟩
def hko_86 (P:Params):Obj:=⟨(.type "dict"),none,(.dict #[Ek P "__module__" 269 (.str "doletaper.errors" 194),Ek P "__firstlineno__" 273 (.int 13 272),Ek P "__init__" 281 (.ref 84),Ek P "__static_attributes__" 283 (.ref 85),Ek P "__doc__" 284 .none] 2),#[]⟩
def hko_87 (P:Params):Obj:=⟨(.type "type"),none,(.cls ⟨"Unknown",[(.ref 31)],[(.ref 87),(.ref 31),(.type "ValueError"),(.type "Exception"),(.type "BaseException"),(.type "object")],86,"Unknown",true,[],[],false,none,false⟩),#[(some (.ref 71)),none,(some (.str "Unknown" 262)),(some (.str "Unknown" 270)),(some (.builtin "ValueError.__new__")),(some (.bool true))]⟩
def hko_105 (P:Params):Obj:=⟨(.type "dict"),none,(.dict #[Ek P "__module__" 294 (.str "doletaper.errors" 194),Ek P "__firstlineno__" 298 (.int 17 297),Ek P "__init__" 306 (.ref 103),Ek P "__static_attributes__" 308 (.ref 104),Ek P "__doc__" 309 .none] 2),#[]⟩
def hko_106 (P:Params):Obj:=⟨(.type "type"),none,(.cls ⟨"Twice",[(.ref 31)],[(.ref 106),(.ref 31),(.type "ValueError"),(.type "Exception"),(.type "BaseException"),(.type "object")],105,"Twice",true,[],[],false,none,false⟩),#[(some (.ref 90)),none,(some (.str "Twice" 287)),(some (.str "Twice" 295)),(some (.builtin "ValueError.__new__")),(some (.bool true))]⟩
def hko_117 (P:Params):Obj:=⟨(.type "dict"),none,(.dict #[Ek P "__module__" 319 (.str "doletaper.errors" 194),Ek P "__firstlineno__" 323 (.int 21 322),Ek P "__static_attributes__" 324 (.ref 116),Ek P "__doc__" 325 .none] 2),#[]⟩
def hko_118 (P:Params):Obj:=⟨(.type "type"),none,(.cls ⟨"NoWord",[(.ref 31)],[(.ref 118),(.ref 31),(.type "ValueError"),(.type "Exception"),(.type "BaseException"),(.type "object")],117,"NoWord",true,[],[],false,none,false⟩),#[(some (.ref 109)),none,(some (.str "NoWord" 312)),(some (.str "NoWord" 320)),(some (.builtin "ValueError.__new__")),(some (.bool true))]⟩
def hko_136 (P:Params):Obj:=⟨(.type "dict"),none,(.dict #[Ek P "__module__" 335 (.str "doletaper.errors" 194),Ek P "__firstlineno__" 339 (.int 23 338),Ek P "__init__" 347 (.ref 134),Ek P "__static_attributes__" 349 (.ref 135),Ek P "__doc__" 350 .none] 2),#[]⟩
def hko_137 (P:Params):Obj:=⟨(.type "type"),none,(.cls ⟨"NoRow",[(.ref 31)],[(.ref 137),(.ref 31),(.type "ValueError"),(.type "Exception"),(.type "BaseException"),(.type "object")],136,"NoRow",true,[],[],false,none,false⟩),#[(some (.ref 121)),none,(some (.str "NoRow" 328)),(some (.str "NoRow" 336)),(some (.builtin "ValueError.__new__")),(some (.bool true))]⟩
def hko_152 (P:Params):Obj:=cO "__init__" "Tangled.__init__" 365 29 2 147 148 .none (.ref 149) (.ref 150) 151 370
def hko_153 (P:Params):Obj:=fO0 "__init__" "Tangled.__init__" Q9 .none 152
def hko_155 (P:Params):Obj:=⟨(.type "dict"),none,(.dict #[Ek P "__module__" 360 (.str "doletaper.errors" 194),Ek P "__firstlineno__" 364 (.int 27 363),Ek P "__init__" 372 (.ref 153),Ek P "__static_attributes__" 374 (.ref 154),Ek P "__doc__" 375 .none] 2),#[]⟩
def hko_156 (P:Params):Obj:=⟨(.type "type"),none,(.cls ⟨"Tangled",[(.ref 31)],[(.ref 156),(.ref 31),(.type "ValueError"),(.type "Exception"),(.type "BaseException"),(.type "object")],155,"Tangled",true,[],[],false,none,false⟩),#[(some (.ref 140)),none,(some (.str "Tangled" 353)),(some (.str "Tangled" 361)),(some (.builtin "ValueError.__new__")),(some (.bool true))]⟩
def hko_171 (P:Params):Obj:=cO "__init__" "Jumps.__init__" 390 33 2 166 167 .none (.ref 168) (.ref 169) 170 395
def hko_172 (P:Params):Obj:=fO0 "__init__" "Jumps.__init__" Zs .none 171
def hko_174 (P:Params):Obj:=⟨(.type "dict"),none,(.dict #[Ek P "__module__" 385 (.str "doletaper.errors" 194),Ek P "__firstlineno__" 389 (.int 31 388),Ek P "__init__" 397 (.ref 172),Ek P "__static_attributes__" 399 (.ref 173),Ek P "__doc__" 400 .none] 2),#[]⟩
def hko_175 (P:Params):Obj:=⟨(.type "type"),none,(.cls ⟨"Jumps",[(.ref 31)],[(.ref 175),(.ref 31),(.type "ValueError"),(.type "Exception"),(.type "BaseException"),(.type "object")],174,"Jumps",true,[],[],false,none,false⟩),#[(some (.ref 159)),none,(some (.str "Jumps" 378)),(some (.str "Jumps" 386)),(some (.builtin "ValueError.__new__")),(some (.bool true))]⟩
def hko_190 (P:Params):Obj:=cO "__init__" "Widens.__init__" 415 37 3 185 186 .none (.ref 187) (.ref 188) 189 421
def hko_191 (P:Params):Obj:=fO0 "__init__" "Widens.__init__" Zh .none 190
def hko_193 (P:Params):Obj:=⟨(.type "dict"),none,(.dict #[Ek P "__module__" 410 (.str "doletaper.errors" 194),Ek P "__firstlineno__" 414 (.int 35 413),Ek P "__init__" 423 (.ref 191),Ek P "__static_attributes__" 426 (.ref 192),Ek P "__doc__" 427 .none] 2),#[]⟩
def hko_194 (P:Params):Obj:=⟨(.type "type"),none,(.cls ⟨"Widens",[(.ref 31)],[(.ref 194),(.ref 31),(.type "ValueError"),(.type "Exception"),(.type "BaseException"),(.type "object")],193,"Widens",true,[],[],false,none,false⟩),#[(some (.ref 178)),none,(some (.str "Widens" 403)),(some (.str "Widens" 411)),(some (.builtin "ValueError.__new__")),(some (.bool true))]⟩
def hko_205 (P:Params):Obj:=⟨(.type "dict"),none,(.dict #[Ek P "__module__" 437 (.str "doletaper.errors" 194),Ek P "__firstlineno__" 441 (.int 40 440),Ek P "__static_attributes__" 442 (.ref 204),Ek P "__doc__" 443 .none] 2),#[]⟩
def hko_206 (P:Params):Obj:=⟨(.type "type"),none,(.cls ⟨"TooMany",[(.ref 31)],[(.ref 206),(.ref 31),(.type "ValueError"),(.type "Exception"),(.type "BaseException"),(.type "object")],205,"TooMany",true,[],[],false,none,false⟩),#[(some (.ref 197)),none,(some (.str "TooMany" 430)),(some (.str "TooMany" 438)),(some (.builtin "ValueError.__new__")),(some (.bool true))]⟩
def hko_217 (P:Params):Obj:=⟨(.type "dict"),none,(.dict #[Ek P "__module__" 453 (.str "doletaper.errors" 194),Ek P "__firstlineno__" 457 (.int 42 456),Ek P "__static_attributes__" 458 (.ref 216),Ek P "__doc__" 459 .none] 2),#[]⟩
def hko_218 (P:Params):Obj:=⟨(.type "type"),none,(.cls ⟨"NoNews",[(.ref 31)],[(.ref 218),(.ref 31),(.type "ValueError"),(.type "Exception"),(.type "BaseException"),(.type "object")],217,"NoNews",true,[],[],false,none,false⟩),#[(some (.ref 209)),none,(some (.str "NoNews" 446)),(some (.str "NoNews" 454)),(some (.builtin "ValueError.__new__")),(some (.bool true))]⟩
def hko_221 (P:Params):Obj:=⟨(.type "tuple"),none,(.seq #[(.int 0 464),(.int 1 465)] 0),#[]⟩
def hko_222 (P:Params):Obj:=⟨(.type "tuple"),none,(.seq #[(.int 1 467),(.int 1 468)] 0),#[]⟩
def hko_228 (P:Params):Obj:=cO "common_divisor" "common_divisor" 470 47 2 223 224 .none (.ref 225) (.ref 226) 227 476
def hko_229 (P:Params):Obj:=fO1 "common_divisor" "common_divisor" Zr .none 228
def hko_235 (P:Params):Obj:=cO "fraction" "fraction" 479 53 2 230 231 .none (.ref 232) (.ref 233) 234 485
def hko_236 (P:Params):Obj:=fO1 "fraction" "fraction" XN .none 235
def hko_242 (P:Params):Obj:=cO "plus" "plus" 488 60 2 237 238 .none (.ref 239) (.ref 240) 241 493
def hko_243 (P:Params):Obj:=fO1 "plus" "plus" KE .none 242
def hko_249 (P:Params):Obj:=cO "total_of" "total_of" 496 62 1 244 245 .none (.ref 246) (.ref 247) 248 502
def hko_250 (P:Params):Obj:=fO1 "total_of" "total_of" XH .none 249
def hko_256 (P:Params):Obj:=cO "times" "times" 505 67 2 251 252 .none (.ref 253) (.ref 254) 255 510
def hko_257 (P:Params):Obj:=fO1 "times" "times" W6 .none 256
def hko_263 (P:Params):Obj:=cO "below" "below" 513 69 2 258 259 .none (.ref 260) (.ref 261) 262 518
def hko_264 (P:Params):Obj:=fO1 "below" "below" Jc .none 263
def hko_270 (P:Params):Obj:=cO "greater" "greater" 521 71 2 265 266 .none (.ref 267) (.ref 268) 269 526
def hko_271 (P:Params):Obj:=fO1 "greater" "greater" Yn .none 270
def hko_277 (P:Params):Obj:=cO "steps_from" "steps_from" 531 74 2 272 273 .none (.ref 274) (.ref 275) 276 541
def hko_278 (P:Params):Obj:=fO2 "steps_from" "steps_from" Z4 .none 277
def hko_282 (P:Params):Obj:=cO "count_rate" "count_rate" 546 87 2 279 280 .none .none .none 281 549
def hko_283 (P:Params):Obj:=fO3 "count_rate" "count_rate" Z7 .none 282
def hko_287 (P:Params):Obj:=cO "leans" "leans" 552 89 1 284 285 .none .none .none 286 555
def hko_288 (P:Params):Obj:=fO3 "leans" "leans" W8 .none 287
def hko_294 (P:Params):Obj:=cO "leads_to" "leads_to" 558 94 2 289 290 .none (.ref 291) (.ref 292) 293 564
def hko_295 (P:Params):Obj:=fO3 "leads_to" "leads_to" XI .none 294
def hko_299 (P:Params):Obj:=cO "knots" "knots" 569 100 1 296 297 .none .none .none 298 572
def hko_300 (P:Params):Obj:=fO4 "knots" "knots" Jb .none 299
def hko_304 (P:Params):Obj:=cO "counted_within" "counted_within" 575 110 3 301 302 .none .none .none 303 578
def hko_305 (P:Params):Obj:=fO4 "counted_within" "counted_within" Zq .none 304
def hko_309 (P:Params):Obj:=cO "is_free" "is_free" 581 112 3 306 307 .none .none .none 308 584
def hko_310 (P:Params):Obj:=fO4 "is_free" "is_free" Ym .none 309
def hko_316 (P:Params):Obj:=cO "ring_from" "ring_from" 587 115 3 311 312 .none (.ref 313) (.ref 314) 315 595
def hko_317 (P:Params):Obj:=fO4 "ring_from" "ring_from" Xl .none 316
def hko_323 (P:Params):Obj:=cO "pull_of" "pull_of" 598 122 2 318 319 .none (.ref 320) (.ref 321) 322 608
def hko_324 (P:Params):Obj:=fO4 "pull_of" "pull_of" Yh .none 323
def hko_328 (P:Params):Obj:=cO "check_ring" "check_ring" 611 129 3 325 326 .none .none .none 327 614
def hko_329 (P:Params):Obj:=fO4 "check_ring" "check_ring" Z8 .none 328
def hko_333 (P:Params):Obj:=cO "block_of" "block_of" 617 135 3 330 331 .none .none .none 332 620
def hko_334 (P:Params):Obj:=fO4 "block_of" "block_of" XO .none 333
def hko_338 (P:Params):Obj:=cO "order" "order" 623 145 1 335 336 .none .none .none 337 626
def hko_339 (P:Params):Obj:=fO4 "order" "order" W7 .none 338
def hko_345 (P:Params):Obj:=cO "narrows" "narrows" 629 156 1 340 341 .none (.ref 342) (.ref 343) 344 633
def hko_346 (P:Params):Obj:=fO4 "narrows" "narrows" Yi .none 345
def hko_354 (P:Params):Obj:=⟨(.type "tuple"),none,(.seq #[.none,.none,(.str "down" 650)] 0),#[]⟩
def hko_360 (P:Params):Obj:=cO "__init__" "Kind.__init__" 651 161 10 355 356 .none (.ref 357) (.ref 358) 359 664
def hko_361 (P:Params):Obj:=fO5 "__init__" "Kind.__init__" QE (.ref 354) 360
def hko_395 (P:Params):Obj:=cO "greatest_rate" "Kind.greatest_rate" 698 184 1 390 391 .none (.ref 392) (.ref 393) 394 704
def hko_396 (P:Params):Obj:=fO5 "greatest_rate" "Kind.greatest_rate" QY .none 395
def hko_405_0 (P:Params):List DictEntry:=[Ek P "__module__" 645 (.str "doletaper.kinds" 636),Ek P "__firstlineno__" 649 (.int 159 648),Ek P "__init__" 666 (.ref 361),Ek P "full_of" 674 (.ref 368),Ek P "may_have" 682 (.ref 375),Ek P "owns" 690 (.ref 382),Ek P "taken_off" 697 (.ref 389),Ek P "greatest_rate" 706 (.ref 396)]
def hko_405_1 (P:Params):List DictEntry:=[Ek P "amount_from" 714 (.ref 403),Ek P "__static_attributes__" 724 (.ref 404),Ek P "__dict__" 726 (.ref 407),Ek P "__weakref__" 728 (.ref 408),Ek P "__doc__" 729 .none]
def hko_405 (P:Params):Obj:=⟨(.type "dict"),none,(.dict (hko_405_0 P++hko_405_1 P).toArray 4),#[]⟩
def hko_406 (P:Params):Obj:=⟨(.type "type"),none,(.cls ⟨"Kind",[(.type "object")],[(.ref 406),(.type "object")],405,"Kind",true,[],[],false,none,false⟩),#[none,none,(some (.str "Kind" 638)),(some (.str "Kind" 646)),(some (.builtin "object.__new__")),(some (.bool true))]⟩
def hko_423 (P:Params):Obj:=cO "__init__" "Cap.__init__" 744 196 4 418 419 .none (.ref 420) (.ref 421) 422 751
def hko_424 (P:Params):Obj:=fO5 "__init__" "Cap.__init__" ZK .none 423
def hko_433 (P:Params):Obj:=⟨(.type "dict"),none,(.dict #[Ek P "__module__" 739 (.str "doletaper.kinds" 636),Ek P "__firstlineno__" 743 (.int 194 742),Ek P "__init__" 753 (.ref 424),Ek P "room_for" 761 (.ref 431),Ek P "__static_attributes__" 765 (.ref 432),Ek P "__dict__" 767 (.ref 435),Ek P "__weakref__" 769 (.ref 436),Ek P "__doc__" 770 .none] 4),#[]⟩
def hko_434 (P:Params):Obj:=⟨(.type "type"),none,(.cls ⟨"Cap",[(.type "object")],[(.ref 434),(.type "object")],433,"Cap",true,[],[],false,none,false⟩),#[none,none,(some (.str "Cap" 732)),(some (.str "Cap" 740)),(some (.builtin "object.__new__")),(some (.bool true))]⟩
def hko_451 (P:Params):Obj:=cO "__init__" "Office.__init__" 785 205 3 446 447 .none (.ref 448) (.ref 449) 450 791
def hko_452 (P:Params):Obj:=fO5 "__init__" "Office.__init__" Zi .none 451
def hko_458 (P:Params):Obj:=cO "kind" "Office.kind" 794 209 2 453 454 .none (.ref 455) (.ref 456) 457 800
def hko_459 (P:Params):Obj:=fO5 "kind" "Office.kind" ZV .none 458
def hko_463 (P:Params):Obj:=cO "named" "Office.named" 803 215 1 460 461 .none .none .none 462 806
def hko_464 (P:Params):Obj:=fO5 "named" "Office.named" ZJ .none 463
def hko_466 (P:Params):Obj:=⟨(.type "dict"),none,(.dict #[Ek P "__module__" 780 (.str "doletaper.kinds" 636),Ek P "__firstlineno__" 784 (.int 203 783),Ek P "__init__" 793 (.ref 452),Ek P "kind" 802 (.ref 459),Ek P "named" 808 (.ref 464),Ek P "__static_attributes__" 811 (.ref 465),Ek P "__dict__" 813 (.ref 468),Ek P "__weakref__" 815 (.ref 469),Ek P "__doc__" 816 .none] 4),#[]⟩
def hko_467 (P:Params):Obj:=⟨(.type "type"),none,(.cls ⟨"Office",[(.type "object")],[(.ref 467),(.type "object")],466,"Office",true,[],[],false,none,false⟩),#[none,none,(some (.str "Office" 773)),(some (.str "Office" 781)),(some (.builtin "object.__new__")),(some (.bool true))]⟩
def hko_494 (P:Params):Obj:=⟨(.type "dict"),none,(.dict #[Ek P "__module__" 828 (.str "doletaper.parts" 819),Ek P "__firstlineno__" 832 (.int 218 831),Ek P "worth" 840 (.ref 485),Ek P "row" 847 (.ref 492),Ek P "__static_attributes__" 848 (.ref 493),Ek P "__dict__" 850 (.ref 496),Ek P "__weakref__" 852 (.ref 497),Ek P "__doc__" 853 .none] 4),#[]⟩
def hko_495 (P:Params):Obj:=⟨(.type "type"),none,(.cls ⟨"Part",[(.type "object")],[(.ref 495),(.type "object")],494,"Part",true,[],[(.ref 530),(.ref 563),(.ref 596)],false,none,false⟩),#[none,none,(some (.str "Part" 821)),(some (.str "Part" 829)),(some (.builtin "object.__new__")),(some (.bool true))]⟩
def hko_512 (P:Params):Obj:=cO "__init__" "Base.__init__" 868 227 2 507 508 .none (.ref 509) (.ref 510) 511 873
def hko_513 (P:Params):Obj:=fO6 "__init__" "Base.__init__" ZE .none 512
def hko_529 (P:Params):Obj:=⟨(.type "dict"),none,(.dict #[Ek P "__module__" 863 (.str "doletaper.parts" 819),Ek P "__firstlineno__" 867 (.int 225 866),Ek P "__init__" 875 (.ref 513),Ek P "worth" 883 (.ref 520),Ek P "row" 890 (.ref 527),Ek P "__static_attributes__" 892 (.ref 528),Ek P "__doc__" 893 .none] 2),#[]⟩
def hko_530 (P:Params):Obj:=⟨(.type "type"),none,(.cls ⟨"Base",[(.ref 495)],[(.ref 530),(.ref 495),(.type "object")],529,"Base",true,[],[],false,none,false⟩),#[(some (.ref 500)),none,(some (.str "Base" 856)),(some (.str "Base" 864)),(some (.builtin "object.__new__")),(some (.bool true))]⟩
def hko_545 (P:Params):Obj:=cO "__init__" "Each.__init__" 908 237 4 540 541 .none (.ref 542) (.ref 543) 544 915
def hko_546 (P:Params):Obj:=fO6 "__init__" "Each.__init__" ZD .none 545
def hko_562 (P:Params):Obj:=⟨(.type "dict"),none,(.dict #[Ek P "__module__" 903 (.str "doletaper.parts" 819),Ek P "__firstlineno__" 907 (.int 235 906),Ek P "__init__" 917 (.ref 546),Ek P "worth" 925 (.ref 553),Ek P "row" 932 (.ref 560),Ek P "__static_attributes__" 936 (.ref 561),Ek P "__doc__" 937 .none] 2),#[]⟩
def hko_563 (P:Params):Obj:=⟨(.type "type"),none,(.cls ⟨"Each",[(.ref 495)],[(.ref 563),(.ref 495),(.type "object")],562,"Each",true,[],[],false,none,false⟩),#[(some (.ref 533)),none,(some (.str "Each" 896)),(some (.str "Each" 904)),(some (.builtin "object.__new__")),(some (.bool true))]⟩
def hko_578 (P:Params):Obj:=cO "__init__" "Rent.__init__" 952 249 3 573 574 .none (.ref 575) (.ref 576) 577 958
def hko_579 (P:Params):Obj:=fO6 "__init__" "Rent.__init__" ZA .none 578
def hko_595 (P:Params):Obj:=⟨(.type "dict"),none,(.dict #[Ek P "__module__" 947 (.str "doletaper.parts" 819),Ek P "__firstlineno__" 951 (.int 247 950),Ek P "__init__" 960 (.ref 579),Ek P "worth" 968 (.ref 586),Ek P "row" 975 (.ref 593),Ek P "__static_attributes__" 978 (.ref 594),Ek P "__doc__" 979 .none] 2),#[]⟩
def hko_596 (P:Params):Obj:=⟨(.type "type"),none,(.cls ⟨"Rent",[(.ref 495)],[(.ref 596),(.ref 495),(.type "object")],595,"Rent",true,[],[],false,none,false⟩),#[(some (.ref 566)),none,(some (.str "Rent" 940)),(some (.str "Rent" 948)),(some (.builtin "object.__new__")),(some (.bool true))]⟩
def hko_621 (P:Params):Obj:=⟨(.type "dict"),none,(.dict #[Ek P "__module__" 989 (.str "doletaper.parts" 819),Ek P "__firstlineno__" 993 (.int 258 992),Ek P "met" 1001 (.ref 612),Ek P "row" 1008 (.ref 619),Ek P "__static_attributes__" 1009 (.ref 620),Ek P "__dict__" 1011 (.ref 623),Ek P "__weakref__" 1013 (.ref 624),Ek P "__doc__" 1014 .none] 4),#[]⟩
def hko_622 (P:Params):Obj:=⟨(.type "type"),none,(.cls ⟨"Term",[(.type "object")],[(.ref 622),(.type "object")],621,"Term",true,[],[(.ref 657),(.ref 690)],false,none,false⟩),#[none,none,(some (.str "Term" 982)),(some (.str "Term" 990)),(some (.builtin "object.__new__")),(some (.bool true))]⟩
def hko_639 (P:Params):Obj:=cO "__init__" "From.__init__" 1029 267 4 634 635 .none (.ref 636) (.ref 637) 638 1036
def hko_640 (P:Params):Obj:=fO6 "__init__" "From.__init__" ZC .none 639
def hko_656 (P:Params):Obj:=⟨(.type "dict"),none,(.dict #[Ek P "__module__" 1024 (.str "doletaper.parts" 819),Ek P "__firstlineno__" 1028 (.int 265 1027),Ek P "__init__" 1038 (.ref 640),Ek P "met" 1046 (.ref 647),Ek P "row" 1053 (.ref 654),Ek P "__static_attributes__" 1057 (.ref 655),Ek P "__doc__" 1058 .none] 2),#[]⟩
def hko_657 (P:Params):Obj:=⟨(.type "type"),none,(.cls ⟨"From",[(.ref 622)],[(.ref 657),(.ref 622),(.type "object")],656,"From",true,[],[],false,none,false⟩),#[(some (.ref 627)),none,(some (.str "From" 1017)),(some (.str "From" 1025)),(some (.builtin "object.__new__")),(some (.bool true))]⟩
def hko_672 (P:Params):Obj:=cO "__init__" "Upto.__init__" 1073 279 4 667 668 .none (.ref 669) (.ref 670) 671 1080
def hko_673 (P:Params):Obj:=fO6 "__init__" "Upto.__init__" Zz .none 672
def hko_689 (P:Params):Obj:=⟨(.type "dict"),none,(.dict #[Ek P "__module__" 1068 (.str "doletaper.parts" 819),Ek P "__firstlineno__" 1072 (.int 277 1071),Ek P "__init__" 1082 (.ref 673),Ek P "met" 1090 (.ref 680),Ek P "row" 1097 (.ref 687),Ek P "__static_attributes__" 1101 (.ref 688),Ek P "__doc__" 1102 .none] 2),#[]⟩
def hko_690 (P:Params):Obj:=⟨(.type "type"),none,(.cls ⟨"Upto",[(.ref 622)],[(.ref 690),(.ref 622),(.type "object")],689,"Upto",true,[],[],false,none,false⟩),#[(some (.ref 660)),none,(some (.str "Upto" 1061)),(some (.str "Upto" 1069)),(some (.builtin "object.__new__")),(some (.bool true))]⟩
def hko_698 (P:Params):Obj:=cO "_law_cell_at" "_law_cell_at" 1107 290 2 693 694 .none (.ref 695) (.ref 696) 697 1112
def hko_699 (P:Params):Obj:=fO7 "_law_cell_at" "_law_cell_at" Xo .none 698
def hko_705 (P:Params):Obj:=cO "_law_divisor" "_law_divisor" 1115 294 2 700 701 .none (.ref 702) (.ref 703) 704 1120
def hko_706 (P:Params):Obj:=fO7 "_law_divisor" "_law_divisor" Xn .none 705
def hko_712 (P:Params):Obj:=cO "_law_low" "_law_low" 1123 298 2 707 708 .none (.ref 709) (.ref 710) 711 1129
def hko_713 (P:Params):Obj:=fO7 "_law_low" "_law_low" W9 .none 712
def hko_717 (P:Params):Obj:=cO "_law_names" "_law_names" 1132 301 1 714 715 .none .none .none 716 1135
def hko_718 (P:Params):Obj:=fO7 "_law_names" "_law_names" Yl .none 717
def hko_724 (P:Params):Obj:=cO "_law_rate" "_law_rate" 1138 316 2 719 720 .none (.ref 721) (.ref 722) 723 1143
def hko_725 (P:Params):Obj:=fO7 "_law_rate" "_law_rate" YU .none 724
def hko_731 (P:Params):Obj:=cO "_law_offs" "_law_offs" 1146 322 2 726 727 .none (.ref 728) (.ref 729) 730 1154
def hko_732 (P:Params):Obj:=fO7 "_law_offs" "_law_offs" YW .none 731
def hko_736 (P:Params):Obj:=cO "_law_segments" "_law_segments" 1157 329 2 733 734 .none .none .none 735 1160
def hko_737 (P:Params):Obj:=fO7 "_law_segments" "_law_segments" Z5 .none 736
def hko_743 (P:Params):Obj:=cO "_law_earlier" "_law_earlier" 1163 342 4 738 739 .none (.ref 740) (.ref 741) 742 1173
def hko_744 (P:Params):Obj:=fO7 "_law_earlier" "_law_earlier" Xm .none 743
def hko_750 (P:Params):Obj:=cO "_law_jump" "_law_jump" 1176 349 1 745 746 .none (.ref 747) (.ref 748) 749 1180
def hko_751 (P:Params):Obj:=fO7 "_law_jump" "_law_jump" YZ .none 750
def hko_757 (P:Params):Obj:=cO "_law_wide" "_law_wide" 1183 355 1 752 753 .none (.ref 754) (.ref 755) 756 1187
def hko_758 (P:Params):Obj:=fO7 "_law_wide" "_law_wide" YR .none 757
def hko_762 (P:Params):Obj:=cO "_law_spoilt" "_law_spoilt" 1190 359 6 759 760 .none .none .none 761 1193
def hko_763 (P:Params):Obj:=fO7 "_law_spoilt" "_law_spoilt" XJ .none 762
def hko_767 (P:Params):Obj:=cO "_law_rows" "_law_rows" 1196 379 6 764 765 .none .none .none 766 1199
def hko_768 (P:Params):Obj:=fO7 "_law_rows" "_law_rows" YT .none 767
def hko_774 (P:Params):Obj:=cO "_law_kind" "_law_kind" 1202 399 2 769 770 .none (.ref 771) (.ref 772) 773 1211
def hko_775 (P:Params):Obj:=fO7 "_law_kind" "_law_kind" YX .none 774
def hko_779 (P:Params):Obj:=cO "_law_office" "_law_office" 1214 405 2 776 777 .none .none .none 778 1217
def hko_780 (P:Params):Obj:=fO7 "_law_office" "_law_office" XM .none 779
def hko_786 (P:Params):Obj:=cO "_law_times" "_law_times" 1220 417 2 781 782 .none (.ref 783) (.ref 784) 785 1225
def hko_787 (P:Params):Obj:=fO7 "_law_times" "_law_times" Yj .none 786
def hko_793 (P:Params):Obj:=cO "_law_greatest" "_law_greatest" 1228 419 1 788 789 .none (.ref 790) (.ref 791) 792 1235
def hko_794 (P:Params):Obj:=fO7 "_law_greatest" "_law_greatest" Z6 .none 793
def hko_798 (P:Params):Obj:=cO "_law_pull" "_law_pull" 1238 425 2 795 796 .none .none .none 797 1241
def hko_799 (P:Params):Obj:=fO7 "_law_pull" "_law_pull" YV .none 798
def hko_803 (P:Params):Obj:=cO "_law_shape" "_law_shape" 1244 432 1 800 801 .none .none .none 802 1247
def hko_804 (P:Params):Obj:=fO7 "_law_shape" "_law_shape" Yk .none 803
def hko_808 (P:Params):Obj:=cO "_law_just" "_law_just" 1250 441 1 805 806 .none .none .none 807 1253
def hko_809 (P:Params):Obj:=fO7 "_law_just" "_law_just" YY .none 808
def hko_815 (P:Params):Obj:=cO "_law_told" "_law_told" 1256 448 1 810 811 .none (.ref 812) (.ref 813) 814 1262
def hko_816 (P:Params):Obj:=fO7 "_law_told" "_law_told" YS .none 815
def hko_820 (P:Params):Obj:=cO "_law_due" "_law_due" 1265 458 4 817 818 .none .none .none 819 1268
def hko_821 (P:Params):Obj:=fO7 "_law_due" "_law_due" Ja .none 820
def hko_825 (P:Params):Obj:=cO "law" "law" 1271 469 1 822 823 .none .none .none 824 1274
def hko_826 (P:Params):Obj:=fO7 "law" "law" Jo .none 825
def HK:Params->W.Frag:=fun P=>(nat_lit 2,hko_2 P) :: (nat_lit 3,hko_3 P) :: (nat_lit 30,hko_30 P) :: (nat_lit 31,hko_31 P) :: (nat_lit 43,hko_43 P) :: (nat_lit 44,hko_44 P) :: (nat_lit 55,hko_55 P) :: (nat_lit 56,hko_56 P) :: (nat_lit 67,hko_67 P) :: (nat_lit 68,hko_68 P) :: (nat_lit 86,hko_86 P) :: (nat_lit 87,hko_87 P) :: (nat_lit 105,hko_105 P) :: (nat_lit 106,hko_106 P) :: (nat_lit 117,hko_117 P) :: (nat_lit 118,hko_118 P) :: (nat_lit 136,hko_136 P) :: (nat_lit 137,hko_137 P) :: (nat_lit 152,hko_152 P) :: (nat_lit 153,hko_153 P) :: (nat_lit 155,hko_155 P) :: (nat_lit 156,hko_156 P) :: (nat_lit 171,hko_171 P) :: (nat_lit 172,hko_172 P) :: (nat_lit 174,hko_174 P) :: (nat_lit 175,hko_175 P) :: (nat_lit 190,hko_190 P) :: (nat_lit 191,hko_191 P) :: (nat_lit 193,hko_193 P) :: (nat_lit 194,hko_194 P) :: (nat_lit 205,hko_205 P) :: (nat_lit 206,hko_206 P) :: (nat_lit 217,hko_217 P) :: (nat_lit 218,hko_218 P) :: (nat_lit 221,hko_221 P) :: (nat_lit 222,hko_222 P) :: (nat_lit 228,hko_228 P) :: (nat_lit 229,hko_229 P) :: (nat_lit 235,hko_235 P) :: (nat_lit 236,hko_236 P) :: (nat_lit 242,hko_242 P) :: (nat_lit 243,hko_243 P) :: (nat_lit 249,hko_249 P) :: (nat_lit 250,hko_250 P) :: (nat_lit 256,hko_256 P) :: (nat_lit 257,hko_257 P) :: (nat_lit 263,hko_263 P) :: (nat_lit 264,hko_264 P) :: (nat_lit 270,hko_270 P) :: (nat_lit 271,hko_271 P) :: (nat_lit 277,hko_277 P) :: (nat_lit 278,hko_278 P) :: (nat_lit 282,hko_282 P) :: (nat_lit 283,hko_283 P) :: (nat_lit 287,hko_287 P) :: (nat_lit 288,hko_288 P) :: (nat_lit 294,hko_294 P) :: (nat_lit 295,hko_295 P) :: (nat_lit 299,hko_299 P) :: (nat_lit 300,hko_300 P) :: (nat_lit 304,hko_304 P) :: (nat_lit 305,hko_305 P) :: (nat_lit 309,hko_309 P) :: (nat_lit 310,hko_310 P) :: (nat_lit 316,hko_316 P) :: (nat_lit 317,hko_317 P) :: (nat_lit 323,hko_323 P) :: (nat_lit 324,hko_324 P) :: (nat_lit 328,hko_328 P) :: (nat_lit 329,hko_329 P) :: (nat_lit 333,hko_333 P) :: (nat_lit 334,hko_334 P) :: (nat_lit 338,hko_338 P) :: (nat_lit 339,hko_339 P) :: (nat_lit 345,hko_345 P) :: (nat_lit 346,hko_346 P) :: (nat_lit 354,hko_354 P) :: (nat_lit 360,hko_360 P) :: (nat_lit 361,hko_361 P) :: (nat_lit 395,hko_395 P) :: (nat_lit 396,hko_396 P) :: (nat_lit 405,hko_405 P) :: (nat_lit 406,hko_406 P) :: (nat_lit 423,hko_423 P) :: (nat_lit 424,hko_424 P) :: (nat_lit 433,hko_433 P) :: (nat_lit 434,hko_434 P) :: (nat_lit 451,hko_451 P) :: (nat_lit 452,hko_452 P) :: (nat_lit 458,hko_458 P) :: (nat_lit 459,hko_459 P) :: (nat_lit 463,hko_463 P) :: (nat_lit 464,hko_464 P) :: (nat_lit 466,hko_466 P) :: (nat_lit 467,hko_467 P) :: (nat_lit 494,hko_494 P) :: (nat_lit 495,hko_495 P) :: (nat_lit 512,hko_512 P) :: (nat_lit 513,hko_513 P) :: (nat_lit 529,hko_529 P) :: (nat_lit 530,hko_530 P) :: (nat_lit 545,hko_545 P) :: (nat_lit 546,hko_546 P) :: (nat_lit 562,hko_562 P) :: (nat_lit 563,hko_563 P) :: (nat_lit 578,hko_578 P) :: (nat_lit 579,hko_579 P) :: (nat_lit 595,hko_595 P) :: (nat_lit 596,hko_596 P) :: (nat_lit 621,hko_621 P) :: (nat_lit 622,hko_622 P) :: (nat_lit 639,hko_639 P) :: (nat_lit 640,hko_640 P) :: (nat_lit 656,hko_656 P) :: (nat_lit 657,hko_657 P) :: (nat_lit 672,hko_672 P) :: (nat_lit 673,hko_673 P) :: (nat_lit 689,hko_689 P) :: (nat_lit 690,hko_690 P) :: (nat_lit 698,hko_698 P) :: (nat_lit 699,hko_699 P) :: (nat_lit 705,hko_705 P) :: (nat_lit 706,hko_706 P) :: (nat_lit 712,hko_712 P) :: (nat_lit 713,hko_713 P) :: (nat_lit 717,hko_717 P) :: (nat_lit 718,hko_718 P) :: (nat_lit 724,hko_724 P) :: (nat_lit 725,hko_725 P) :: (nat_lit 731,hko_731 P) :: (nat_lit 732,hko_732 P) :: (nat_lit 736,hko_736 P) :: (nat_lit 737,hko_737 P) :: (nat_lit 743,hko_743 P) :: (nat_lit 744,hko_744 P) :: (nat_lit 750,hko_750 P) :: (nat_lit 751,hko_751 P) :: (nat_lit 757,hko_757 P) :: (nat_lit 758,hko_758 P) :: (nat_lit 762,hko_762 P) :: (nat_lit 763,hko_763 P) :: (nat_lit 767,hko_767 P) :: (nat_lit 768,hko_768 P) :: (nat_lit 774,hko_774 P) :: (nat_lit 775,hko_775 P) :: (nat_lit 779,hko_779 P) :: (nat_lit 780,hko_780 P) :: (nat_lit 786,hko_786 P) :: (nat_lit 787,hko_787 P) :: (nat_lit 793,hko_793 P) :: (nat_lit 794,hko_794 P) :: (nat_lit 798,hko_798 P) :: (nat_lit 799,hko_799 P) :: (nat_lit 803,hko_803 P) :: (nat_lit 804,hko_804 P) :: (nat_lit 808,hko_808 P) :: (nat_lit 809,hko_809 P) :: (nat_lit 815,hko_815 P) :: (nat_lit 816,hko_816 P) :: (nat_lit 820,hko_820 P) :: (nat_lit 821,hko_821 P) :: (nat_lit 825,hko_825 P) :: (nat_lit 826,hko_826 P) :: []
def hkA:List Addr:=[2,3,30,31,43,44,55,56,67,68,86,87,105,106,117,118,136,137,152,153,155,156,171,172,174,175,190,191,193,194,205,206,217,218,221,222,228,229,235,236,242,243,249,250,256,257,263,264,270,271,277,278,282,283,287,288,294,295,299,300,304,305,309,310,316,317,323,324,328,329,333,334,338,339,345,346,354,360,361,395,396,405,406,423,424,433,434,451,452,458,459,463,464,466,467,494,495,512,513,529,530,545,546,562,563,578,579,595,596,621,622,639,640,656,657,672,673,689,690,698,699,705,706,712,713,717,718,724,725,731,732,736,737,743,744,750,751,757,758,762,763,767,768,774,775,779,780,786,787,793,794,798,799,803,804,808,809,815,816,820,821,825,826]
theorem hkA_eq:∀ P,hkA=(HK P).map (·.1):=fun _=>by kernel_rfl
def hkV:Program:=W.view PySem.Challenge.pw_doletaper_k45_refused_knots [0,2,3,4,5,6,7,8,9,10,11,12,13,14,16,17,18,19,20,21,22,23,24,26,28,29,30,32,33,34,35,36,37,38,39,40,42,43,44,46,47,48,49,50,51,52,54,55,56,57,58,59,60,61,62,63,64,65,66,67,68,69,70,71,72,73,74,75]
open PySem PySem.W in
def hdL1 (p q:Program) (A:List Addr) (rs:W.WRecords) (w:World) (os:OsState):=Hd.answer p 21 4000 10 (fun s=>((W.staticsOk (importedModules p.main.body) (W.boot_heap w.params) s.heap&&W.namesBound p s.heap&&W.gensDone s&&W.laidKept (W.boot_heap w.params) s.heap),A.map s.heap.get?)) w os
open PySem PySem.W in
def hdR1 (p q:Program) (f:Params->W.Frag) (w:World):=Hd.answer0 p 4 (true,(f w.params).map fun p=>some p.2)
theorem qL1:hdL1=hdL1:=rfl
theorem qR1:hdR1=hdR1:=rfl
name_quick hdL1 for hdL1 by qL1
name_quick hdR1 for hdR1 by qR1
theorem Bb (w:World) (os:OsState):hdL1 PySem.Challenge.pw_doletaper_k45_refused_knots hkV hkA (W.RowW.records (W.OpenRow.toRowW PySem.Challenge.rw_doletaper_k45_refused_knots.row)) w os=hdR1 PySem.Challenge.pw_doletaper_k45_refused_knots hkV HK w:=by
 rw [PySem.W.Fast.hdL1_eq,PySem.W.Fast.hdR1_eq]
 (kernel_rfl)
open PySem PySem.W in
def hdL2 (p q:Program) (A:List Addr) (rs:W.WRecords) (w:World) (os:OsState):=Hd.answer p 21 4000 10 (fun s=>seen ((recsOf q).map (·.name)) (ownsOf q) [] { s with gens:=#[] }) w os
open PySem PySem.W in
def hdR2 (p q:Program) (f:Params->W.Frag) (w:World):=Hd.answer0 p 4 (expectedOf q)
theorem qL2:hdL2=hdL2:=rfl
theorem qR2:hdR2=hdR2:=rfl
name_quick hdL2 for hdL2 by qL2
name_quick hdR2 for hdR2 by qR2
theorem Ba (w:World) (os:OsState):hdL2 PySem.Challenge.pw_doletaper_k45_refused_knots hkV hkA (W.RowW.records (W.OpenRow.toRowW PySem.Challenge.rw_doletaper_k45_refused_knots.row)) w os=hdR2 PySem.Challenge.pw_doletaper_k45_refused_knots hkV HK w:=by
 rw [PySem.W.Fast.hdL2_eq,PySem.W.Fast.hdR2_eq]
 (kernel_rfl)
open PySem PySem.W in
def hdL31 (p q:Program) (A:List Addr) (rs:W.WRecords) (w:World) (os:OsState):=Hd.answer p 21 4000 10 (fun s=>(s.heap.bltView)) w os
open PySem PySem.W in
def hdR31 (p q:Program) (f:Params->W.Frag) (w:World):=Hd.answer0 p 4 bltViewBooted
theorem HH:hdL31=hdL31:=rfl
theorem HE:hdR31=hdR31:=rfl
name_quick hdL31 for hdL31 by HH
name_quick hdR31 for hdR31 by HE
theorem MB (w:World) (os:OsState):hdL31 PySem.Challenge.pw_doletaper_k45_refused_knots hkV hkA (W.RowW.records (W.OpenRow.toRowW PySem.Challenge.rw_doletaper_k45_refused_knots.row)) w os=hdR31 PySem.Challenge.pw_doletaper_k45_refused_knots hkV HK w:=by
 rw [PySem.W.Fast.hdL31_eq,PySem.W.Fast.hdR31_eq]
 (kernel_rfl)
open PySem PySem.W in
def hdL32 (p q:Program) (A:List Addr) (rs:W.WRecords) (w:World) (os:OsState):=Hd.answer p 21 4000 10 (fun s=>(s.heap.keysOk (looseW q []) ((recsOf q).map (·.name)) ((litsOf q).map (·.1)) ((clssOf q (looseW q [])).map (·.name))&&s.heap.accountedOkI (importedModules p.main.body)&&s.heap.isNs mainGlobals&&s.heap.isNs builtinsNs&&tablesOk q s.heap&&(fun s=>W.xlAt q [] s&&W.recOk rs s) s&&(if true then s.gens.size == 0 else !leftWithCleanup s.gens))) w os
open PySem PySem.W in
def hdR32 (p q:Program) (f:Params->W.Frag) (w:World):=Hd.answer0 p 4 true
theorem HG:hdL32=hdL32:=rfl
theorem HD:hdR32=hdR32:=rfl
name_quick hdL32 for hdL32 by HG
name_quick hdR32 for hdR32 by HD
theorem MA (w:World) (os:OsState):hdL32 PySem.Challenge.pw_doletaper_k45_refused_knots hkV hkA (W.RowW.records (W.OpenRow.toRowW PySem.Challenge.rw_doletaper_k45_refused_knots.row)) w os=hdR32 PySem.Challenge.pw_doletaper_k45_refused_knots hkV HK w:=by
 rw [PySem.W.Fast.hdL32_eq,PySem.W.Fast.hdR32_eq]
 (kernel_rfl)
open PySem PySem.W in
def hdL33 (p q:Program) (A:List Addr) (rs:W.WRecords) (w:World) (os:OsState):=Hd.answer p 21 4000 10 (fun s=>(tabsOk q s)) w os
open PySem PySem.W in
def hdR33 (p q:Program) (f:Params->W.Frag) (w:World):=Hd.answer0 p 4 true
theorem HF:hdL33=hdL33:=rfl
theorem HC:hdR33=hdR33:=rfl
name_quick hdL33 for hdL33 by HF
name_quick hdR33 for hdR33 by HC
theorem Mz (w:World) (os:OsState):hdL33 PySem.Challenge.pw_doletaper_k45_refused_knots hkV hkA (W.RowW.records (W.OpenRow.toRowW PySem.Challenge.rw_doletaper_k45_refused_knots.row)) w os=hdR33 PySem.Challenge.pw_doletaper_k45_refused_knots hkV HK w:=by
 rw [PySem.W.Fast.hdL33_eq,PySem.W.Fast.hdR33_eq]
 (kernel_rfl)
open PySem PySem.W in
def hdL4 (p q:Program) (A:List Addr) (rs:W.WRecords) (w:World) (os:OsState):=Hd.answer p 21 4000 10 (fun s=>(pinSeenD q (drecsOf q) s,plainSeenE q (looseW q []) s,plainSeenD q [] s,wideSeen q s,clsSeenW q [] s)) w os
open PySem PySem.W in
def hdR4 (p q:Program) (f:Params->W.Frag) (w:World):=Hd.answer0 p 4 (pinGoodD (drecsOf q),plainGoodE q (looseW q []),plainGoodD q [],wideGood q,clsGoodW q [])
theorem qL4:hdL4=hdL4:=rfl
theorem qR4:hdR4=hdR4:=rfl
name_quick hdL4 for hdL4 by qL4
name_quick hdR4 for hdR4 by qR4
theorem L9 (w:World) (os:OsState):hdL4 PySem.Challenge.pw_doletaper_k45_refused_knots hkV hkA (W.RowW.records (W.OpenRow.toRowW PySem.Challenge.rw_doletaper_k45_refused_knots.row)) w os=hdR4 PySem.Challenge.pw_doletaper_k45_refused_knots hkV HK w:=by
 rw [PySem.W.Fast.hdL4_eq,PySem.W.Fast.hdR4_eq]
 (kernel_rfl)
theorem hd_left:W.LeftO PySem.Challenge.pw_doletaper_k45_refused_knots hkV [] (fun s=>W.xlAt hkV [] s&&W.recOk (W.RowW.records (W.OpenRow.toRowW PySem.Challenge.rw_doletaper_k45_refused_knots.row)) s) (W.Hook.obs (W.kHook HK hkA hkA_eq)) (W.Hook.val (W.kHook HK hkA hkA_eq)) 400000:=
 Hd.left_ok6 (c:=21) (F:=4000) (M:=10) (n:=4) (by kernel_rfl) rfl (fun s=>by kernel_rfl) Hd.size Bb Ba MB MA Mz L9 (by kernel_rfl)
end My
namespace L2
open PySem PySem.Spec PyProof.Rows
abbrev Key:=Sum Int Str
def JA:Key->Value->Bool
 | .inl k,v=>Value.isInt k v
 | .inr x,v=>Value.isStrOf x v
def HJ (w:World):Key->Int
 | .inl k=>hashInt k
 | .inr x=>hashStr w x
theorem QV:∀ {k:Key}{v:Value},JA k v=true->(∃ i t,k=Sum.inl i/\v=Value.int i t)∨(∃ x t,k=Sum.inr x/\v=Value.str x t)
 | .inl i,v,h=>by
  obtain ⟨t,e⟩:=Value.isInt_shape (k:=i) (v:=v) h;exact .inl ⟨i,t,rfl,e⟩
 | .inr x,v,h=>by
  obtain ⟨t,e⟩:=Value.isStrOf_shape (x:=x) (v:=v) h;exact .inr ⟨x,t,rfl,e⟩
theorem G1 (i:Int) (t:Tok):JA (.inl i) (.int i t)=true:=by simp [JA,Value.isInt]
theorem G0 (x:Str) (t:Tok):JA (.inr x) (.str x t)=true:=by simp [JA,Value.isStrOf]
theorem Pg (a b:Int):decide ((Sum.inl a:Key)=Sum.inl b)=(a == b):=by
 by_cases e:a=b
 ·subst e;simp
 ·have h:¬ (Sum.inl a:Key)=Sum.inl b:=fun q=>e (Sum.inl.inj q)
  rw [FQ h];exact (beq_eq_false_iff_ne.mpr e).symm
theorem Pd (a b:Str):decide ((Sum.inr a:Key)=Sum.inr b)=decide (a=b):=by
 by_cases e:a=b
 ·subst e;simp
 ·have h:¬ (Sum.inr a:Key)=Sum.inr b:=fun q=>e (Sum.inr.inj q)
  rw [FQ h,FQ e]
theorem Pf (a:Int) (b:Str):decide ((Sum.inl a:Key)=Sum.inr b)=false:=FQ (fun q=>nomatch q)
theorem Pe (a:Str) (b:Int):decide ((Sum.inr a:Key)=Sum.inl b)=false:=FQ (fun q=>nomatch q)
def QP (prog:Program) (w:World):PySem.KeyKind prog w Key where
 is:=JA
 hash:=HJ w
 inj:=fun v a b ha hb=>by
  rcases QV ha with ⟨i,t,rfl,rfl⟩ | ⟨x,t,rfl,rfl⟩
  ·rcases QV hb with ⟨j,u,rfl,e⟩ | ⟨y,u,rfl,e⟩
   ·injection e with e1 _;rw [e1]
   ·exact nomatch e
  ·rcases QV hb with ⟨j,u,rfl,e⟩ | ⟨y,u,rfl,e⟩
   ·exact nomatch e
   ·injection e with e1 _;rw [e1]
 byValue:=fun k v h=>by
  rcases QV h with ⟨i,t,rfl,rfl⟩ | ⟨x,t,rfl,rfl⟩ <;> rfl
 pyHash:=fun hv h=>by
  rcases QV hv with ⟨i,t,rfl,rfl⟩ | ⟨x,t,rfl,rfl⟩
  ·exact wpAny_pyHash_int h
  ·exact wpAny_pyHash_str h
 eqBool:=fun hu hv h=>by
  rcases QV hu with ⟨i,t,rfl,rfl⟩ | ⟨x,t,rfl,rfl⟩
  ·rcases QV hv with ⟨j,u,rfl,rfl⟩ | ⟨y,u,rfl,rfl⟩
   ·rw [Pg] at h;exact wpAny_eqBool_int h
   ·rw [Pf] at h;exact SeqAt.EqAt.int_str i t y u _ _ _ _ h
  ·rcases QV hv with ⟨j,u,rfl,rfl⟩ | ⟨y,u,rfl,rfl⟩
   ·rw [Pe] at h;exact SeqAt.EqAt.str_int x t j u _ _ _ _ h
   ·rw [Pd] at h;exact wpAny_eqBool_str h
 «strs»:=fun k x t v h=>by
  rcases QV h with ⟨i,u,rfl,e⟩ | ⟨y,u,rfl,e⟩
  ·exact nomatch e
  ·injection e with e1 _
   subst e1;cases v <;> rfl
theorem VJ (prog:Program) (w:World) (i:Int) (t:Tok):(QP prog w).is (.inl i) (.int i t)=true:=G1 i t
theorem VI (prog:Program) (w:World) (x:Str) (t:Tok):(QP prog w).is (.inr x) (.str x t)=true:=G0 x t
inductive V where
 | non | bl (b:Bool) | int (i:Int) | str (x:Str) | byt (b:Array UInt8) | flt (b:UInt64) | ref (a:Addr) | ty (n:String)
 deriving DecidableEq
def RelV:V->Value->Prop
 | .non,u=>u=Value.none
 | .bl b,u=>u=Value.bool b
 | .int i,u=>∃ t,u=Value.int i t
 | .str x,u=>∃ t,u=Value.str x t
 | .byt b,u=>∃ t,u=Value.bytes b t
 | .flt b,u=>∃ t,u=Value.float b t
 | .ref a,u=>u=Value.ref a
 | .ty n,u=>u=Value.type n
abbrev Vals:List V->List Value->Prop:=Paired RelV
theorem Vals.length {xs:List V}(r:Vals xs us):xs.length=us.length:=Paired.length r
theorem Vals.get:∀ {xs:List V}{us:List Value}{i:Nat}{x:V},Vals xs us->xs[i]?=some x->∃ u,us[i]?=some u/\RelV x u
 | _,_,_,_,.nil,e=>by simp at e
 | _,_,0,_,.cons r _,e=>by simp at e;subst e;exact ⟨_,rfl,r⟩
 | _,_,i+1,x,.cons _ t,e=>by
  obtain ⟨u,h1,h2⟩:=Vals.get (i:=i) (x:=x) t (by simpa using e);exact ⟨u,by simpa using h1,h2⟩
theorem Vals.append:∀ {xs ys:List V}{us ws:List Value},Vals xs us->Vals ys ws->Vals (xs++ys) (us++ws)
 | _,_,_,_,.nil,s=>s
 | _,_,_,_,.cons r t,s=>.cons r (Vals.append t s)
theorem Vals.take:∀ {xs:List V}{us:List Value}(n:Nat),Vals xs us->Vals (xs.take n) (us.take n)
 | _,_,0,_=>.nil
 | _,_,_+1,.nil=>.nil
 | _,_,n+1,.cons r t=>.cons r (Vals.take n t)
theorem Vals.drop:∀ {xs:List V}{us:List Value}(n:Nat),Vals xs us->Vals (xs.drop n) (us.drop n)
 | _,_,0,r=>r
 | _,_,_+1,.nil=>.nil
 | _,_,n+1,.cons _ t=>Vals.drop n t
def RelO:Option V->Option Value->Prop
 | some v,some u=>RelV v u
 | none,none=>True
 | _,_=>False
def KV {κ:Type}:List (κ×V)->List (κ×Value)->Prop:=Paired fun (p:κ×V) (q:κ×Value)=>p.1=q.1/\RelV p.2 q.2
def kV:Key->V
 | .inl i=>.int i
 | .inr x=>.str x
inductive HO where
 | lst (xs:List V)
 | tup (xs:List V)
 | dK (kvs:List (Key×V)) | dT (kvs:List (List Key×V))
 | set (S:Int->Bool) (n:Nat)
 | ins (C dx:Addr) (fs:List (Str×V))
 | own (x:Addr)
 | xd (fs:List (Str×V))
 | met (f x:Addr)
 | rng (lo hi:Int)
 | frz (o:Obj) (u:HO)
 | tbl (ps:Array Value)
 | ext (φ:Heap->Prop)
abbrev Hp:=Addr->Option HO
def upd (H:Hp) (a:Addr) (o:HO):Hp:=fun b=>if b=a then some o else H b
theorem Qe {H:Hp}{o:HO}:upd H a o a=some o:=by unfold upd;rw [Fk rfl]
theorem Qj {H:Hp}{b:Addr}{o:HO}(h:b≠a):upd H a o b=H b:=by unfold upd;rw [Fh h]
theorem VH {H:Hp}{b:Addr}{o u:HO}(h:H a=some o) (h':H b=some u) (d:o≠u):a≠b:=by
 intro e;subst e;rw [h] at h';exact d (Fy h')
theorem Q0 {H:Hp}{b:Addr}{o:HO}(h:H a=some o) (h':H b=none):a≠b:=by
 intro e;subst e;rw [h] at h';cases h'
section
variable (P:Program) (w:World)
def ObjOk (H:Hp) (h:Heap) (a:Addr):HO->Prop
 | .lst xs=>xs.length<=sizeLine/\∃ (its:List Value) (n:Nat),Vals xs its/\h.get? a=some { cls:=.type "list",data:=.seq its.toArray n }
 | .tup xs=>xs.length<=sizeLine/\∃ its:List Value,Vals xs its/\IsTup h a its.toArray
 | .dK kvs=>kvs.length<=sizeLine/\(a == sysModules)=false/\∃ vs,KV kvs vs/\h.DictOf (QP P w) a vs
 | .dT kvs=>kvs.length<=sizeLine/\(a == sysModules)=false/\∃ xs:List (List Key×Addr×Value),
   Paired (fun (p:List Key×V) (q:List Key×Addr×Value)=>p.1=q.1/\H q.2.1=some (.tup (p.1.map kV))/\RelV p.2 q.2.2) kvs xs /\
   ∃ o es ep,h.get? a=some o/\o.ExactDict/\o.data=.dict es ep/\es.toList=xs.map (entryOfKey (tupleKind (QP P w)))/\(xs.map (·.1)).Nodup
 | .set S n=>h.SetOf (intKind P w) a S n
 | .ins C dx fs=>H dx=some (.own a)/\fs.length<=1000/\dx≠a/\h.get? a=some (W.instObj C dx) /\
   ∃ mA,h.Ns1 dx mA/\(∀ f,RelO (fs.lookup f) (mA f))/\PySem.Within mA (fs.map (·.1))
 | .own _=>∃ o,h.get? a=some o
 | .xd fs=>∃ mA,h.Ns1 a mA/\∀ f,RelO (fs.lookup f) (mA f)
 | .rng lo hi=>∃ t u v,h.get? a=some { cls:=.type "range",data:=.fields #[.int lo t,.int hi u,.int 1 v] }
 | .frz o u=>h.get? a=some o/\ObjOk H h a u
 | .tbl ps=>h.get? a=some { cls:=.none,data:=.fields ps }
 | .met f x=>h.get? a=some (W.methodObj (.ref f) (.ref x))
 | .ext φ=>φ h/\(∃ o,h.get? a=some o)/\∀ h1 h2:Heap,φ h1->(∀ o,h1.get? a=some o->h2.get? a=some o)->φ h2
def HOk (H:Hp) (h:Heap):Prop:=∀ a o,H a=some o->ObjOk P w H h a o
end
section
variable {P:Program} {w:World} {H H':Hp} {h h':Heap} {a:Addr} {o:HO}
theorem ObjOk.lt (x:ObjOk P w H h a o):a<h.objs.size:=by
 cases o with
 | lst xs=>obtain ⟨_,_,_,_,e⟩:=x;exact Ft e
 | tup xs=>obtain ⟨_,_,_,p⟩:=x;exact p.lt
 | dK kvs=>obtain ⟨_,_,_,_,o,_,_,e,_⟩:=x;exact Ft e
 | dT kvs=>obtain ⟨_,_,_,_,o,_,_,e,_⟩:=x;exact Ft e
 | set S n=>obtain ⟨o,_,_,_,e,_⟩:=x;exact Ft e
 | ins C dx fs=>obtain ⟨_,_,_,e,_⟩:=x;exact Ft e
 | own y=>obtain ⟨_,e⟩:=x;exact Ft e
 | xd fs=>obtain ⟨_,⟨_,_,_,e,_⟩,_⟩:=x;exact Ft e
 | rng lo hi=>obtain ⟨_,_,_,e⟩:=x;exact Ft e
 | frz ob u=>obtain ⟨e,_⟩:=x;exact Ft e
 | tbl ps=>exact Ft (show h.get? a=some _ from x)
 | met f y=>exact Ft (show h.get? a=some _ from x)
 | ext φ=>obtain ⟨_,⟨_,e⟩,_⟩:=x;exact Ft e
theorem Paired.mapP {F G:α->β->Prop}:∀ {l₁:List α}{l₂:List β},Paired F l₁ l₂->(∀ a b,F a b->G a b)->Paired G l₁ l₂
 | _,_,.nil,_=>.nil
 | _,_,.cons r t,f=>.cons (f _ _ r) (Paired.mapP t f)
theorem ObjOk.stay (x:ObjOk P w H h a o) (k:∀ b u,(b=a∨H b=some (.own a))->h.get? b=some u->h'.get? b=some u)
  (ho:∀ b,H b=some (.own a)->H' b=some (.own a)) (ht:∀ b xs,H b=some (.tup xs)->H' b=some (.tup xs)):ObjOk P w H' h' a o:=by
 induction o with
 | lst xs=>obtain ⟨z,its,n,r,e⟩:=x;exact ⟨z,its,n,r,k _ _ (.inl rfl) e⟩
 | tup xs=>obtain ⟨z,its,r,ob,e,c⟩:=x;exact ⟨z,its,r,ob,k _ _ (.inl rfl) e,c⟩
 | dK kvs=>obtain ⟨z,y,vs,r,ob,es,ep,e,c⟩:=x;exact ⟨z,y,vs,r,ob,es,ep,k _ _ (.inl rfl) e,c⟩
 | dT kvs=>
  obtain ⟨z,y,xs,r,ob,es,ep,e,c⟩:=x;exact ⟨z,y,xs,Paired.mapP r fun p q z=>⟨z.1,ht _ _ z.2.1,z.2.2⟩,ob,es,ep,k _ _ (.inl rfl) e,c⟩
 | set S n=>obtain ⟨ob,es,ep,t,e,c⟩:=x;exact ⟨ob,es,ep,t,k _ _ (.inl rfl) e,c⟩
 | ins C dx fs=>
  obtain ⟨d,z,ne,e,mA,⟨od,es,ep,e2,c⟩,r⟩:=x;exact ⟨ho _ d,z,ne,k _ _ (.inl rfl) e,mA,⟨od,es,ep,k _ _ (.inr d) e2,c⟩,r⟩
 | own y=>obtain ⟨ob,e⟩:=x;exact ⟨ob,k _ _ (.inl rfl) e⟩
 | xd fs=>obtain ⟨mA,⟨od,es,ep,e,c⟩,r⟩:=x;exact ⟨mA,⟨od,es,ep,k _ _ (.inl rfl) e,c⟩,r⟩
 | rng lo hi=>obtain ⟨t,u,v,e⟩:=x;exact ⟨t,u,v,k _ _ (.inl rfl) e⟩
 | frz ob u ih=>obtain ⟨e,q⟩:=x;exact ⟨k _ _ (.inl rfl) e,ih q⟩
 | tbl ps=>
  have e:h.get? a=some { cls:=.none,data:=.fields ps }:=x;show h'.get? a=some { cls:=.none,data:=.fields ps };exact k a _ (.inl rfl) e
 | met f y=>
  have e:h.get? a=some (W.methodObj (.ref f) (.ref y)):=x;show h'.get? a=some (W.methodObj (.ref f) (.ref y));exact k a _ (.inl rfl) e
 | ext φ=>obtain ⟨p,⟨o,e⟩,st⟩:=x;exact ⟨st _ _ p fun o q=>k _ _ (.inl rfl) q,⟨o,k _ _ (.inl rfl) e⟩,st⟩
theorem HOk.lt (x:HOk P w H h) (e:H a=some o):a<h.objs.size:=(x a o e).lt
theorem HOk.fresh (x:HOk P w H h) (e:h.objs.size<=a):H a=none:=by
 cases q:H a with
 | none=>rfl
 | some u=>exact absurd (FL (x.lt q) e) (FG _)
theorem HOk.kept (x:HOk P w H h) (k:∀ b u,h.get? b=some u->h'.get? b=some u):HOk P w H h':=fun a o e=>
 (x a o e).stay (fun b u _ q=>k b u q) (fun _ q=>q) fun _ _ q=>q
theorem HOk.laid (x:HOk P w H h) (k:∀ b u,h.get? b=some u->h'.get? b=some u) (hp:h.objs.size<=a) (new:ObjOk P w (upd H a o) h' a o):HOk P w (upd H a o) h':=fun b u e=>by
 have hn:=x.fresh hp;by_cases hb:b=a
 ·subst hb;rw [Qe] at e;cases e;exact new
 ·rw [Qj hb] at e;exact (x b u e).stay (fun c v _ q=>k c v q) (fun c q=>by rw [Qj (Q0 q hn)];exact q) fun c xs q=>by rw [Qj (Q0 q hn)];exact q
end
def Rd (H:Hp) (a:Addr) (u:HO):Prop:=H a=some u∨∃ o,H a=some (.frz o u)
theorem Rd.ok {H:Hp}{u:HO}(r:Rd H a u) (x:HOk P w H h):ObjOk P w H h a u:=by
 rcases r with r | ⟨o,r⟩
 ·exact x a u r
 ·obtain ⟨_,q⟩:=x a _ r;exact q
def Mut:Option HO->Prop
 | some (.lst _)=>True
 | some (.dK _)=>True
 | some (.dT _)=>True
 | some (.set _ _)=>True
 | some (.ins _ _ _)=>True
 | some (.ext _)=>True
 | _=>False
section
variable {P:Program} {w:World} {H:Hp} {h h':Heap} {x e:Addr} {o':HO}
theorem HOk.write (ok:HOk P w H h) (mu:Mut (H x)) (he:e=x∨H e=some (.own x)) (k:∀ b u,b≠e->h.get? b=some u->h'.get? b=some u) (heo:∃ u,h'.get? e=some u)
  (new:ObjOk P w (upd H x o') h' x o'):HOk P w (upd H x o') h':=fun b u q=>by
 have nown:∀ c y,H c=some (.own y)->c≠x:=fun c y r z=>by subst z;rw [r] at mu;exact mu
 have ntup:∀ c xs,H c=some (.tup xs)->c≠x:=fun c xs r z=>by subst z;rw [r] at mu;exact mu
 by_cases hb:b=x
 ·subst hb;rw [Qe] at q;cases q;exact new
 ·rw [Qj hb] at q;by_cases hbe:b=e
  ·have q':H b=some (.own x):=by
    rcases he with z | z
    ·exact absurd (hbe.trans z) hb
    ·rw [hbe];exact z
   rw [q] at q';cases q';obtain ⟨v,hv⟩:=heo;exact ⟨v,by rw [hbe];exact hv⟩
  ·refine (ok b u q).stay (fun c v hc r=>k c v ?_ r) (fun c r=>by rw [Qj (nown c b r)];exact r) fun c xs r=>by rw [Qj (ntup c xs r)];exact r
   rcases hc with rfl | hc
   ·exact hbe
   ·rintro rfl;rcases he with z | z
    ·exact nown c b hc z
    ·rw [hc] at z;cases z;exact hb rfl
end
structure Un (fs ex:List Addr) (H H':Hp) (h h':Heap):Prop where
 keep:∀ b o,h.get? b=some o->H b=none->b ∉ fs->b ∉ ex->h'.get? b=some o
 slot:∀ b o,h.get? b=some o->H b=none->b∈fs->b ∉ ex->∃ sl,h'.get? b=some { o with slots:=sl }
 free:∀ b o,h.get? b=some o->H b=none->b ∉ ex->H' b=none
 there:∀ b o,h.get? b=some o->b ∉ ex->∃ o',h'.get? b=some o'
 tups:∀ b xs,H b=some (.tup xs)->H' b=some (.tup xs)
 frzs:∀ b o u,H b=some (.frz o u)->H' b=some (.frz o u)
 tbls:∀ b ps,H b=some (.tbl ps)->∃ more,H' b=some (.tbl (ps++more))
section
variable {fs fs' ex ex':List Addr} {H H1 H2:Hp} {h h1 h2 h':Heap} {a x e:Addr} {o:HO}
theorem Un.any (u:Un fs ex H H1 h h1) {b:Addr}{ob:Obj}(q:h.get? b=some ob) (n:H b=none) (hx:b ∉ ex):∃ sl,h1.get? b=some { ob with slots:=sl }:=by
 by_cases hb:b∈fs
 ·exact u.slot b ob q n hb hx
 ·exact ⟨ob.slots,u.keep b ob q n hb hx⟩
theorem Un.kept (k:∀ b u,h.get? b=some u->h'.get? b=some u):Un fs ex H H h h':=
 ⟨fun b ob q _ _ _=>k b ob q,fun b ob q _ _ _=>⟨ob.slots,k b ob q⟩,fun _ _ _ n _=>n,fun b ob q _=>⟨ob,k b ob q⟩,fun _ _ q=>q,fun _ _ _ q=>q,fun _ ps q=>⟨#[],by rw [q];simp⟩⟩
theorem Un.refl:Un fs ex H H h h:=Un.kept fun _ _ q=>q
theorem Un.laid (k:∀ b u,h.get? b=some u->h'.get? b=some u) (hp:h.objs.size<=a) (hn:H a=none):Un fs ex H (upd H a o) h h' where
 keep:=fun b u q _ _ _=>k b u q
 slot:=fun b u q _ _ _=>⟨u.slots,k b u q⟩
 free:=fun b u q n _=>by rw [Qj (FD (FL (Ft q) hp))];exact n
 there:=fun b u q _=>⟨u,k b u q⟩
 tups:=fun b xs q=>by rw [Qj (Q0 q hn)];exact q
 frzs:=fun b u xs q=>by rw [Qj (Q0 q hn)];exact q
 tbls:=fun b ps q=>⟨#[],by rw [Qj (Q0 q hn),q];simp⟩
theorem Un.write (mu:Mut (H x)) (he:e=x∨H e=some (.own x)) (k:∀ b u,b≠e->h.get? b=some u->h'.get? b=some u) (heo:∃ u,h'.get? e=some u):Un fs ex H (upd H x o) h h':=by
 have hx:∀ b,H b=none->b≠x:=fun b n z=>by subst z;rw [n] at mu;exact mu
 have hb:∀ b,H b=none->b≠e:=fun b n z=>by
  subst z;rcases he with r | r
  ·exact hx b n r
  ·rw [n] at r;cases r
 have hm:∀ b u,H b=some u->¬ Mut (some u)->b≠x:=fun b u q nm z=>by subst z;rw [q] at mu;exact nm mu
 refine ⟨fun b u q n _ _=>k b u (hb b n) q,fun b u q n _ _=>⟨u.slots,k b u (hb b n) q⟩,fun b u q n _=>by rw [Qj (hx b n)];exact n,fun b u q _=>?_,
  fun b xs q=>by rw [Qj (hm b _ q fun z=>z)];exact q,fun b u xs q=>by rw [Qj (hm b _ q fun z=>z)];exact q,fun b ps q=>⟨#[],by rw [Qj (hm b _ q fun z=>z),q];simp⟩⟩
 by_cases hbe:b=e
 ·subst hbe;exact heo
 ·exact ⟨u,k b u hbe q⟩
end
def trk (h:Heap) (H:Hp):List Addr:=(List.range h.objs.size).filter fun a=>(H a).isSome
def K8 (h:Heap) (H:Hp):Heap:=W.hideAll h (trk h H)
theorem G4 (h:Heap) (H:Hp):(K8 h H).objs.size=h.objs.size:=W.hideAll_size _ _
theorem Mx {H:Hp}{b:Addr}{o:Obj}(e:h.get? b=some o) (n:H b=none):(K8 h H).get? b=some o:=
 W.hideAll_get _ e fun hm=>by
  have q:(H b).isSome=true:=(F6.mp hm).2;rw [n] at q;simp at q
theorem LV {H:Hp}{b:Addr}{o:Obj}(e:(K8 h H).get? b=some o):h.get? b=some o/\H b=none:=by
 have e':h.get? b=some o:=W.of_hideAll (trk h H) e;refine ⟨e',?_⟩;cases q:H b with
 | none=>rfl
 | some x=>
  have hm:b∈trk h H:=F6.mpr ⟨List.mem_range.mpr (Ft e'),by simp [q]⟩;have z:(K8 h H).get? b=none:=W.hideAll_none (trk h H) hm;rw [z] at e;cases e
def Bw (g h:Heap) (L:Addr):List (Addr×Obj):=(List.range h.objs.size).filterMap fun a=>if a=L∨(g.get? a).isSome=true then none else (h.get? a).map fun o=>(a,o)
def rest (g h:Heap) (L d:Addr):List (Addr×Obj):=(Bw g h L).filter fun p=>decide (p.1≠d)
structure Mod (K:W.Frag) (mg:Str->Option Value) (base:Heap):Prop where
 kin:K.In base
 glob:base.Ns mainGlobals mg
 blt:∃ mb,base.Ns builtinsNs mb/\∀ x:Str,x≠"__name__"->mb x=bootBuiltins x
 nolimit:base.NoLimit
structure Cx where
 prog:Program
 w:World
 K:W.Frag
 mg:Str->Option Value
 base:Heap
 A:Around
 N:List Str
 s₀:Shared
 H₀:Hp
 env:Env
 outer:List Env
 stack:List Env
 ex:List Addr
 fn:Str->Bool
 calm:Bool
 pn:List (Addr×Obj)
 xe:Value->Shared->Prop
def frs (l:List Env):List Addr:=l.filterMap (·.frame)
abbrev Cx.fs (X:Cx):List Addr:=frs X.outer
def Vis (sc:Scope) (x:Str):Prop:=sc.names.lookup x=some .local∨sc.names.lookup x=some .cell∨sc.names.lookup x=some .free
def Loc (sc:Scope) (x:Str):Prop:=sc.names.lookup x=some .local∨sc.names.lookup x=some .cell
def Fd (env:Env) (h:Heap) (m:Str->Option Value) (x:Str) (u:Value):Prop:=
 (env.kindOf x=some .local/\m x=some u)∨((env.kindOf x=some .cell∨env.kindOf x=some .free)/\∃ c,env.cells.lookup x=some c/\h.IsCell c (some u))
structure Cx.Ok (X:Cx):Prop where
 mod:Mod X.K X.mg X.base
 kind:X.env.scope.kind=.function
 glob:X.env.globals=mainGlobals
 blt:X.env.builtins=builtinsNs
 above:X.s₀.heap.objs.size<=X.env.locals
 inj:∀ x y c,X.env.cells.lookup x=some c->X.env.cells.lookup y=some c->x=y
 has:∀ x,(X.env.kindOf x=some .cell∨X.env.kindOf x=some .free)->∃ c,X.env.cells.lookup x=some c
 cab:∀ x c,X.fn x=true->X.env.cells.lookup x=some c->X.s₀.heap.objs.size<=c
 hd:X.calm=true->X.A.handled=none
 frames:X.A.frames=some X.stack
 stk:X.stack=X.outer∨(X.stack=X.env :: X.outer/\X.env.frame=some X.env.locals)
 exf:∀ b∈X.ex,b≠X.env.locals/\∀ x c,X.env.cells.lookup x=some c->c≠b
 bs:∀ b o,X.base.get? b=some o->X.s₀.heap.get? b=some o/\X.H₀ b=none
 bsz:X.base.objs.size<=X.s₀.heap.objs.size
 noex:∀ b o,X.base.get? b=some o->b ∉ X.ex
 exfs:∀ b∈X.ex,b ∉ X.fs
 funs:X.s₀.heap.FunFrames X.base X.outer
 frf:∀ b∈X.fs,X.H₀ b=none
structure Inv (X:Cx) (aq:List (Addr×Obj)) (σ:List (Option V)) (H:Hp) (s:Shared):Prop where
 ok:X.Ok
 os:s.os=X.s₀.os
 bare:AllBare s.gens
 base:Un X.fs X.ex X.H₀ H X.s₀.heap s.heap
 loc:∃ m,s.heap.Ns X.env.locals m/\∀ (i:Nat) (x:Str) (v:V),X.N[i]?=some x->σ[i]?=some (some v)->Vis X.env.scope x->∃ u,RelV v u/\Fd X.env s.heap m x u
 cell:∀ x c,X.env.cells.lookup x=some c->∃ v,s.heap.IsCell c v
 free:H X.env.locals=none
 freeC:∀ x c,X.env.cells.lookup x=some c->H c=none
 pin:∀ p∈X.pn++aq,s.heap.get? p.1=some p.2/\H p.1=none/\p.1≠X.env.locals/\p.1 ∉ X.fs/\∀ v,p.2.data≠.cell v
 hok:HOk X.prog X.w H s.heap
 len:σ.length=X.N.length
section
variable {X:Cx} {aq:List (Addr×Obj)} {σ:List (Option V)} {H H':Hp} {s:Shared} {h':Heap}
theorem Cx.Ok.nofr (ok:X.Ok) {b:Addr}{o:Obj}(e:X.base.get? b=some o):b ∉ X.fs:=fun hb=>by
 have:=(ok.funs.mem hb).1;rw [e] at this;cases this
theorem Inv.bs (I:Inv X aq σ H s):∀ b o,X.base.get? b=some o->s.heap.get? b=some o/\H b=none:=fun b o e=>
 ⟨I.base.keep b o (I.ok.bs b o e).1 (I.ok.bs b o e).2 (I.ok.nofr e) (I.ok.noex b o e),I.base.free b o (I.ok.bs b o e).1 (I.ok.bs b o e).2 (I.ok.noex b o e)⟩
theorem Inv.bk (I:Inv X aq σ H s):∀ b o,X.base.get? b=some o->s.heap.get? b=some o:=fun b o e=>(I.bs b o e).1
theorem Inv.mod (I:Inv X aq σ H s):Mod X.K X.mg X.base:=I.ok.mod
theorem Inv.kIn (I:Inv X aq σ H s):X.K.In s.heap:=I.ok.mod.kin.keeps I.bk
theorem Inv.lt (I:Inv X aq σ H s):X.env.locals<s.heap.objs.size:=let ⟨_,hn,_⟩:=I.loc;hn.lt
theorem Inv.sz (I:Inv X aq σ H s):X.s₀.heap.objs.size<=s.heap.objs.size:=FR I.ok.above (E5 I.lt)
theorem Inv.nofs (I:Inv X aq σ H s) {a:Addr}(h:s.heap.objs.size<=a):a ∉ X.fs:=fun hb=>by
 obtain ⟨_,o,ho,_⟩:=I.ok.funs.mem hb;exact absurd (FL (Ft ho) (FR I.sz h)) (FG _)
theorem Inv.cne (I:Inv X aq σ H s):∀ x c,X.env.cells.lookup x=some c->c≠X.env.locals:=fun x c e z=>by
 obtain ⟨v,o,ho,hd⟩:=I.cell x c e;obtain ⟨m,⟨o',es,ep,ho',hd',_⟩,_⟩:=I.loc;rw [z,ho'] at ho;cases ho;rw [hd'] at hd;cases hd
theorem Inv.funs (I:Inv X aq σ H s):s.heap.FunFrames X.base X.outer:=by
 have all:∀ (l:List Env),(∀ b∈frs l,b∈X.fs)->X.s₀.heap.FunFrames X.base l->s.heap.FunFrames X.base l:=by
  intro l
  induction l with
  | nil=>intro _ _;trivial
  | cons env r ih=>
   intro hs hl;obtain ⟨hk,⟨L,o,hf,hn,ho,hd⟩,hr⟩:=hl;have hL:L∈X.fs:=hs L (by unfold frs;rw [List.filterMap_cons,hf];exact FU);obtain ⟨sl,e⟩:=I.base.slot L o ho (I.ok.frf L hL) hL fun z=>I.ok.exfs L z hL
   exact ⟨hk,⟨L,_,hf,hn,e,hd⟩,ih (fun b hb=>hs b (by unfold frs;rw [List.filterMap_cons,hf];exact FZ _ hb)) hr⟩
 exact all X.outer (fun _ hb=>hb) I.ok.funs
theorem Inv.stack (I:Inv X aq σ H s):s.heap.FunFrames X.base X.stack:=by
 rcases I.ok.stk with e | ⟨e,hf⟩
 ·rw [e];exact I.funs
 ·rw [e];obtain ⟨m,hn,_⟩:=I.loc;refine .cons (by rw [I.ok.kind];decide) hf hn ?_ I.funs;exact Heap.get?_none_of_le (FR I.ok.bsz I.ok.above)
theorem Inv.stkSub (I:Inv X aq σ H s):∀ b∈frs X.stack,b∈X.env.locals :: X.fs:=fun b hb=>by
 rcases I.ok.stk with e | ⟨e,hf⟩
 ·rw [e] at hb;exact FZ _ hb
 ·rw [e] at hb;unfold frs at hb;rw [List.filterMap_cons,hf] at hb;exact hb
theorem Inv.stkFree (I:Inv X aq σ H s):∀ b∈frs X.stack,H b=none:=fun b hb=>by
 rcases FF.mp (I.stkSub b hb) with e | hb
 ·rw [e];exact I.free
 ·obtain ⟨_,o,ho,_⟩:=I.ok.funs.mem hb;exact I.base.free b o ho (I.ok.frf b hb) fun z=>I.ok.exfs b z hb
theorem Inv.step {g':Array GenState}{d':Drawn}(I:Inv X aq σ H s)
  (hch:∀ b∈ch,(b∈X.ex∨X.s₀.heap.objs.size<=b)/\b≠X.env.locals/\(∀ x c,X.env.cells.lookup x=some c->c≠b)/\∀ p∈X.pn++aq,p.1≠b)
  (keep:∀ b o,b≠X.env.locals->b ∉ X.fs->b ∉ ch->s.heap.get? b=some o->H b=none->h'.get? b=some o)
  (slot:∀ b o,b≠X.env.locals->b∈X.fs->b ∉ ch->s.heap.get? b=some o->H b=none->∃ sl,h'.get? b=some { o with slots:=sl }) (free:∀ b o,b ∉ ch->s.heap.get? b=some o->H b=none->H' b=none)
  (there:∀ b o,b ∉ ch->s.heap.get? b=some o->∃ o',h'.get? b=some o')
  (tups:∀ b xs,H b=some (.tup xs)->H' b=some (.tup xs)) (frzs:∀ b o u,H b=some (.frz o u)->H' b=some (.frz o u)) (tbls:∀ b ps,H b=some (.tbl ps)->∃ more,H' b=some (.tbl (ps++more)))
  (ns:∀ m,s.heap.Ns X.env.locals m->h'.Ns X.env.locals m) (hok:HOk X.prog X.w H' h') (hg:AllBare g') :
  Inv X aq σ H' { s with heap:=h',gens:=g',drawn:=d',toks:=t' }:=by
 have neL:∀ b o,X.s₀.heap.get? b=some o->b≠X.env.locals:=fun b o e=>FD (FL (Ft e) I.ok.above)
 have neC:∀ b o,X.s₀.heap.get? b=some o->b ∉ X.ex->b ∉ ch:=fun b o e hx hb=>by
  rcases (hch b hb).1 with z | z
  ·exact hx z
  ·exact absurd (FL (Ft e) z) (FG _)
 have cellK:∀ x c,X.env.cells.lookup x=some c->∀ v,s.heap.IsCell c v->h'.IsCell c v:=fun x c e v ⟨o,ho,hd⟩=>by
  have nch:c ∉ ch:=fun z=>(hch c z).2.2.1 x c e rfl
  by_cases hc:c∈X.fs
  ·obtain ⟨sl,q⟩:=slot c o (I.cne x c e) hc nch ho (I.freeC x c e);exact ⟨_,q,hd⟩
  ·exact ⟨o,keep c o (I.cne x c e) hc nch ho (I.freeC x c e),hd⟩
 refine ⟨I.ok,I.os,hg,⟨fun b o e n hb hx=>?_,fun b o e n hb hx=>?_,fun b o e n hx=>?_,fun b o e hx=>?_,fun b xs e=>tups b xs (I.base.tups b xs e),fun b o xs e=>frzs b o xs (I.base.frzs b o xs e),fun b ps e=>?_⟩,?_,fun x c e=>?_,?_,fun x c e=>?_,fun p hp=>?_,hok,I.len⟩
 ·exact keep b o (neL b o e) hb (neC b o e hx) (I.base.keep b o e n hb hx) (I.base.free b o e n hx)
 ·obtain ⟨sl,e1⟩:=I.base.slot b o e n hb hx;obtain ⟨sl',e2⟩:=slot b _ (neL b o e) hb (neC b o e hx) e1 (I.base.free b o e n hx);exact ⟨sl',e2⟩
 ·obtain ⟨o',e1⟩:=I.base.there b o e hx;exact free b o' (neC b o e hx) e1 (I.base.free b o e n hx)
 ·obtain ⟨o',e1⟩:=I.base.there b o e hx;exact there b o' (neC b o e hx) e1
 ·obtain ⟨m1,e1⟩:=I.base.tbls b ps e;obtain ⟨m2,e2⟩:=tbls b _ e1;exact ⟨m1++m2,by rw [e2,Array.append_assoc]⟩
 ·obtain ⟨m,hn,hl⟩:=I.loc;refine ⟨m,ns m hn,fun i x v e1 e2 e3=>?_⟩;obtain ⟨u,r,l⟩:=hl i x v e1 e2 e3;refine ⟨u,r,?_⟩;rcases l with l | ⟨k,c,e,z⟩
  ·exact .inl l
  ·exact .inr ⟨k,c,e,cellK x c e _ z⟩
 ·obtain ⟨v,z⟩:=I.cell x c e;exact ⟨v,cellK x c e v z⟩
 ·obtain ⟨m,⟨o,_,_,ho,_⟩,_⟩:=I.loc;exact free _ o (fun z=>(hch _ z).2.1 rfl) ho I.free
 ·obtain ⟨v,o,ho,hd⟩:=I.cell x c e;exact free c o (fun z=>(hch c z).2.2.1 x c e rfl) ho (I.freeC x c e)
 ·obtain ⟨e,n,ne,nf,d⟩:=I.pin p hp;have nch:p.1 ∉ ch:=fun z=>(hch p.1 z).2.2.2 p hp rfl
  exact ⟨keep p.1 p.2 ne nf nch e n,free p.1 p.2 nch e n,ne,nf,d⟩
theorem Inv.un (I:Inv X aq σ H s) (u:Un X.fs [] H H' s.heap h') (hok:HOk X.prog X.w H' h'):Inv X aq σ H' { s with heap:=h',toks:=t' }:=by
 obtain ⟨m,⟨o,es,ep,ho,r⟩,_⟩:=id I.loc;obtain ⟨sl,hL⟩:=u.any ho I.free (by simp);exact I.step (g':=s.gens) (d':=s.drawn) (ch:=[]) (fun _ z=>nomatch z) (fun b o _ hb _ e n=>u.keep b o e n hb (by simp)) (fun b o _ hb _ e n=>u.slot b o e n hb (by simp)) (fun b o _ e n=>u.free b o e n (by simp)) (fun b o _ e=>u.there b o e (by simp)) u.tups u.frzs u.tbls (fun m' hm=>by
  obtain ⟨o',es',ep',ho',r'⟩:=hm;rw [ho] at ho';cases ho';exact ⟨_,es',ep',hL,r'⟩) hok I.bare
theorem Inv.call {g':Array GenState}{d':Drawn}(I:Inv X aq σ H s) (u:Un (frs X.stack) ch H H' s.heap h') (hok:HOk X.prog X.w H' h') (hg:AllBare g')
  (hch:∀ b∈ch,(b∈X.ex∨X.s₀.heap.objs.size<=b)/\b≠X.env.locals/\(∀ x c,X.env.cells.lookup x=some c->c≠b)/\∀ p∈X.pn++aq,p.1≠b) :
  Inv X aq σ H' { s with heap:=h',gens:=g',drawn:=d',toks:=t' }:=by
 obtain ⟨m,⟨o,es,ep,ho,r⟩,_⟩:=id I.loc;obtain ⟨sl,hL⟩:=u.any ho I.free fun z=>(hch _ z).2.1 rfl
 exact I.step (ch:=ch) hch (fun b o hL hb hc e n=>u.keep b o e n (fun z=>(FF.mp (I.stkSub b z)).elim hL hb) hc) (fun b o _ _ hc e n=>u.any e n hc) (fun b o hc e n=>u.free b o e n hc) (fun b o hc e=>u.there b o e hc) u.tups u.frzs u.tbls (fun m' hm=>by
  obtain ⟨o',es',ep',ho',r'⟩:=hm;rw [ho] at ho';cases ho';exact ⟨_,es',ep',hL,r'⟩) hok hg
theorem Inv.turned (I:Inv X aq σ H s) (k:∀ b o,b≠it->s.heap.get? b=some o->h'.get? b=some o) (hn:H it=none) (hL:it≠X.env.locals)
  (h1:it∈X.ex∨X.s₀.heap.objs.size<=it) (h2:∀ x c,X.env.cells.lookup x=some c->c≠it) (h3:∀ p∈X.pn++aq,p.1≠it):Inv X aq σ H { s with heap:=h',toks:=t' }:=by
 have nit:∀ b u,H b=some u->b≠it:=fun b u e z=>by rw [z,hn] at e;cases e
 refine I.step (g':=s.gens) (d':=s.drawn) (ch:=[it]) (fun b hb=>?_) (fun b o _ _ hc e _=>k b o (fun z=>hc (by simp [z])) e) (fun b o _ _ hc e _=>⟨o.slots,k b o (fun z=>hc (by simp [z])) e⟩) (fun _ _ _ _ n=>n)
  (fun b o hc e=>⟨o,k b o (fun z=>hc (by simp [z])) e⟩) (fun _ _ e=>e) (fun _ _ _ e=>e) (fun b ps e=>⟨#[],by rw [e];simp⟩) (fun m hm=>?_) (fun b u e=>?_) I.bare
 ·have e:b=it:=by simpa using hb
  subst e;exact ⟨h1,hL,h2,h3⟩
 ·obtain ⟨o,es,ep,ho,r⟩:=hm;exact ⟨o,es,ep,k _ o (Ea hL) ho,r⟩
 ·refine (I.hok b u e).stay (fun c v hc q=>k c v ?_ q) (fun _ q=>q) fun _ _ q=>q
  rcases hc with z | z
  ·rw [z];exact nit b u e
  ·exact nit c _ z
theorem Inv.tok (I:Inv X aq σ H s) (t:Nat):Inv X aq σ H { s with toks:=t }:=I.un (h':=s.heap) (t':=t) Un.refl I.hok
theorem Inv.kept (I:Inv X aq σ H s) (k:∀ b u,s.heap.get? b=some u->h'.get? b=some u):Inv X aq σ H { s with heap:=h',toks:=t' }:=I.un (Un.kept k) (I.hok.kept k)
theorem Inv.laid {o:HO}(I:Inv X aq σ H s) (k:∀ b u,s.heap.get? b=some u->h'.get? b=some u) (hp:s.heap.objs.size<=a) (new:ObjOk X.prog X.w (upd H a o) h' a o) :
  Inv X aq σ (upd H a o) { s with heap:=h',toks:=t' }:=I.un (Un.laid k hp (I.hok.fresh hp)) (I.hok.laid k hp new)
theorem Inv.write {x:Addr}{o:HO}(I:Inv X aq σ H s) (mu:Mut (H x)) (he:e=x∨H e=some (.own x)) (k:∀ b u,b≠e->s.heap.get? b=some u->h'.get? b=some u) (heo:∃ u,h'.get? e=some u)
  (new:ObjOk X.prog X.w (upd H x o) h' x o):Inv X aq σ (upd H x o) { s with heap:=h',toks:=t' }:=I.un (Un.write mu he k heo) (I.hok.write mu he k heo new)
theorem Inv.pins_of {pins':List (Addr×Obj)}(I:Inv X aq σ H s) (h:∀ p∈pins',s.heap.get? p.1=some p.2/\H p.1=none/\p.1≠X.env.locals/\p.1 ∉ X.fs/\∀ v,p.2.data≠.cell v):Inv X pins' σ H s:=
 ⟨I.ok,I.os,I.bare,I.base,I.loc,I.cell,I.free,I.freeC,fun p hp=>(FK.mp hp).elim (fun z=>I.pin p (EI _ z)) (h p),I.hok,I.len⟩
theorem Jw (hN:N.Nodup) {i j:Nat}{x:Str}(a:N[i]?=some x) (b:N[j]?=some x):i=j:=by
 obtain ⟨h1,e1⟩:=EJ.mp a;obtain ⟨h2,e2⟩:=EJ.mp b;exact (List.getElem_inj hN).mp (e1.trans e2.symm)
theorem Kh {E:Value->Shared->Prop}{v:V}{Q:Unit->Shared->Prop}(I:Inv X aq σ H s) (hN:X.N.Nodup) (hi:X.N[i]?=some x) (hx:Loc X.env.scope x) (r:RelV v u)
  (h:∀ s',Inv X aq (σ.set i (some v)) H s'->(∃ a,Heap.SameBut a s.heap s'.heap/\(a=X.env.locals∨X.env.cells.lookup x=some a))->Q () s') (hf:X.fn x=true∨X.env.scope.names.lookup x=some .local:=by first | exact .inl rfl | exact .inr rfl | assumption):wpAny M A (storeName X.env x u) Q E s:=by
 obtain ⟨m,hn,hl⟩:=id I.loc;have hcls:(X.env.scope.kind == .class||(X.env.scope.kind == .module&&X.env.locals != X.env.globals))=false:=by rw [I.ok.kind];rfl
 have hiσ:i<σ.length:=by rw [I.len];exact (EJ.mp hi).1
 have cne:=I.cne;have tracked:∀ {a:Addr} {h':Heap},(∃ o,s.heap.get? a=some o/\H a=none)->Heap.SameBut a s.heap h'->HOk X.prog X.w H h':=fun {a h'} ha hs b ob e=>by
  obtain ⟨_,_,hfree⟩:=ha;refine (I.hok b ob e).stay (fun c w' hc q=>(hs.2 c ?_).trans q) (fun _ q=>q) fun _ _ q=>q
  rintro rfl;rcases hc with rfl | hc
  ·rw [hfree] at e;cases e
  ·rw [hfree] at hc;cases hc
 rcases hx with hk | hk
 ·refine wpAny_storeName_local hk hn (fun h' hn' hs=>?_) hcls;obtain ⟨oL,_,_,hoL,_⟩:=id hn;refine h _ ⟨I.ok,I.os,I.bare,⟨fun b o e n hb hx=>?_,fun b o e n hb hx=>?_,I.base.free,fun b o e hx=>?_,I.base.tups,I.base.frzs,I.base.tbls⟩,⟨_,hn',fun j y v' e1 e2 e3=>?_⟩,fun y c e=>?_,I.free,I.freeC,fun p hp=>?_,tracked ⟨oL,hoL,I.free⟩ hs,by simpa using I.len⟩ ⟨_,hs,.inl rfl⟩
  ·exact (hs.2 b (FD (FL (Ft e) I.ok.above))).trans (I.base.keep b o e n hb hx)
  ·obtain ⟨sl,e1⟩:=I.base.slot b o e n hb hx;exact ⟨sl,(hs.2 b (FD (FL (Ft e) I.ok.above))).trans e1⟩
  ·obtain ⟨o',e1⟩:=I.base.there b o e hx;exact ⟨o',(hs.2 b (FD (FL (Ft e) I.ok.above))).trans e1⟩
  ·by_cases hj:j=i
   ·subst hj;rw [hi] at e1;cases e1;rw [List.getElem?_set_self hiσ] at e2;cases e2;exact ⟨u,r,.inl ⟨hk,by simp⟩⟩
   ·rw [List.getElem?_set_ne (Ea hj)] at e2;obtain ⟨u',r',q⟩:=hl j y v' e1 e2 e3;refine ⟨u',r',?_⟩;rcases q with ⟨k,e⟩ | ⟨k,c,e,z⟩
    ·refine .inl ⟨k,?_⟩;have:y≠x:=fun e=>hj (Jw hN e1 (e ▸ hi))
     simp [this,e]
    ·exact .inr ⟨k,c,e,z.sameBut hs (cne y c e)⟩
  ·obtain ⟨w',z⟩:=I.cell y c e;exact ⟨w',z.sameBut hs (cne y c e)⟩
  ·obtain ⟨e,n,ne,nf,d⟩:=I.pin p hp;exact ⟨(hs.2 p.1 ne).trans e,n,ne,nf,d⟩
 ·have hfn:X.fn x=true:=by
   rcases hf with z | z
   ·exact z
   ·rw [z] at hk;cases hk
  obtain ⟨c,hc⟩:=I.ok.has x (.inl hk);obtain ⟨w',z⟩:=I.cell x c hc;refine wpAny_storeName_cell I.ok.kind hk hc z (fun h' hc' hs=>?_);obtain ⟨oc,hoc,hocd⟩:=id z;refine h { s with heap:=h' } ⟨I.ok,I.os,I.bare,⟨fun b o e n hb hx=>?_,fun b o e n hb hx=>?_,I.base.free,fun b o e hx=>?_,I.base.tups,I.base.frzs,I.base.tbls⟩,⟨m,hn.sameBut hs (Ea (cne x c hc)),fun j y v' e1 e2 e3=>?_⟩,fun y c' e=>?_,I.free,I.freeC,fun p hp=>?_,tracked ⟨oc,hoc,I.freeC x c hc⟩ hs,by simpa using I.len⟩ ⟨c,hs,.inr hc⟩
  ·exact (hs.2 b (FD (FL (Ft e) (I.ok.cab x c hfn hc)))).trans (I.base.keep b o e n hb hx)
  ·obtain ⟨sl,e1⟩:=I.base.slot b o e n hb hx;exact ⟨sl,(hs.2 b (FD (FL (Ft e) (I.ok.cab x c hfn hc)))).trans e1⟩
  ·obtain ⟨o',e1⟩:=I.base.there b o e hx;exact ⟨o',(hs.2 b (FD (FL (Ft e) (I.ok.cab x c hfn hc)))).trans e1⟩
  ·by_cases hj:j=i
   ·subst hj;rw [hi] at e1;cases e1;rw [List.getElem?_set_self hiσ] at e2;cases e2;exact ⟨u,r,.inr ⟨.inl hk,c,hc,hc'⟩⟩
   ·rw [List.getElem?_set_ne (Ea hj)] at e2;obtain ⟨u',r',q⟩:=hl j y v' e1 e2 e3;refine ⟨u',r',?_⟩;rcases q with q | ⟨k,c',e,z'⟩
    ·exact .inl q
    ·refine .inr ⟨k,c',e,z'.sameBut hs ?_⟩;rintro rfl;exact hj (Jw hN e1 (I.ok.inj _ _ _ e hc ▸ hi))
  ·by_cases hcc:c'=c
   ·subst hcc;exact ⟨_,hc'⟩
   ·obtain ⟨w2,z2⟩:=I.cell y c' e;exact ⟨w2,z2.sameBut hs hcc⟩
  ·obtain ⟨e,n,ne,nf,d⟩:=I.pin p hp;refine ⟨(hs.2 p.1 ?_).trans e,n,ne,nf,d⟩;intro q;rw [q,hoc] at e;have q':oc=p.2:=Fy e;exact d w' (by rw [<-q'];exact hocd)
theorem Xz {E:Value->Shared->Prop}{v:V}{Q:Unit->Shared->Prop}(I:Inv X aq σ H s) (hN:X.N.Nodup) (hi:X.N[i]?=some x) (hx:Loc X.env.scope x) (r:RelV v u)
  (h:∀ s',Inv X aq (σ.set i (some v)) H s'->Q () s') (hf:X.fn x=true∨X.env.scope.names.lookup x=some .local:=by first | exact .inl rfl | exact .inr rfl | assumption):wpAny M A (storeName X.env x u) Q E s:=
 Kh I hN hi hx r (fun s' I' _=>h s' I') hf
theorem Inv.call' {s':Shared}(I:Inv X aq σ H s) (ho:s'.os=s.os) (u:Un (frs X.stack) ch H H' s.heap s'.heap) (hok:HOk X.prog X.w H' s'.heap) (hg:AllBare s'.gens)
  (hch:∀ b∈ch,(b∈X.ex∨X.s₀.heap.objs.size<=b)/\b≠X.env.locals/\(∀ x c,X.env.cells.lookup x=some c->c≠b)/\∀ p∈X.pn++aq,p.1≠b):Inv X aq σ H' s':=by
 obtain ⟨h',g',d',t',o'⟩:=s';have e:o'=s.os:=ho;subst e;exact I.call (g':=g') (t':=t') (d':=d') u hok hg hch
end
abbrev XK:=Value->Option Addr->Hp->Prop
abbrev St:=List (Option V)
abbrev VK:=V->Hp->Prop
abbrev TE:=St->Hp->VK->Prop
abbrev TT:=St->Hp->(Bool->Hp->Prop)->Prop
abbrev TA:=St->Hp->(List V->Hp->Prop)->Prop
structure QU where
 nx:St->Hp->Prop
 rt:VK
 bk:St->Hp->Prop:=fun _ _=>False
 ct:St->Hp->Prop:=fun _ _=>False
abbrev TS:=QU->St->Hp->Prop
def EP (X:Cx) (aq:List (Addr×Obj)) (σ:St) (Q:VK) (u:Value) (s':Shared):Prop:=∃ v H',Inv X aq σ H' s'/\RelV v u/\Q v H'
def TP (X:Cx) (aq:List (Addr×Obj)) (σ:St) (Q:Bool->Hp->Prop) (b:Bool) (s':Shared):Prop:=∃ H',Inv X aq σ H' s'/\Q b H'
def AP (X:Cx) (aq:List (Addr×Obj)) (σ:St) (Q:List V->Hp->Prop) (us:List Value) (s':Shared):Prop:=∃ vs H',Inv X aq σ H' s'/\Vals vs us/\Q vs H'
def SP (X:Cx) (aq:List (Addr×Obj)) (D:QU) (f:Flow) (s':Shared):Prop:=
 match f with
 | .next=>∃ σ' H',Inv X aq σ' H' s'/\D.nx σ' H'
 | .brk=>∃ σ' H',Inv X aq σ' H' s'/\D.bk σ' H'
 | .cont=>∃ σ' H',Inv X aq σ' H' s'/\D.ct σ' H'
 | .ret u=>∃ v σ' H',Inv X aq σ' H' s'/\RelV v u/\D.rt v H'
def PE (X:Cx) (e:Expr) (t:TE):Prop:=
 ∀ (aq:List (Addr×Obj)) (s:Shared) (σ:St) (H:Hp) (Q:VK),Inv X aq σ H s->t σ H Q->wpAny (model X.prog X.w) X.A (eval e X.env) (EP X aq σ Q) X.xe s
def PT (X:Cx) (e:Expr) (t:TT):Prop:=
 ∀ (aq:List (Addr×Obj)) (s:Shared) (σ:St) (H:Hp) (Q:Bool->Hp->Prop),Inv X aq σ H s->t σ H Q->wpAny (model X.prog X.w) X.A (isTrue e X.env (eval e X.env)) (TP X aq σ Q) X.xe s
def PW (X:Cx) (e:Expr) (t:TT):Prop:=
 ∀ (whole:Sem Value) (aq:List (Addr×Obj)) (s:Shared) (σ:St) (H:Hp) (Q:Bool->Hp->Prop),Inv X aq σ H s->t σ H Q->wpAny (model X.prog X.w) X.A (isTrue e X.env whole) (TP X aq σ Q) X.xe s
theorem PW.pt {X:Cx}{e:Expr}{t:TT}(h:PW X e t):PT X e t:=h _
def PA (X:Cx) (es:List Expr) (t:TA):Prop:=
 ∀ (pos:Pos) (aq:List (Addr×Obj)) (s:Shared) (σ:St) (H:Hp) (Q:List V->Hp->Prop),Inv X aq σ H s->t σ H Q->wpAny (model X.prog X.w) X.A (spliced (backTo pos (starEach es X.env))) (AP X aq σ Q) X.xe s
def PS (X:Cx) (st:Stmt) (t:TS):Prop:=
 ∀ (aq:List (Addr×Obj)) (s:Shared) (σ:St) (H:Hp) (D:QU),Inv X aq σ H s->t D σ H->wpAny (model X.prog X.w) X.A (exec st X.env) (SP X aq D) X.xe s
def PSs (X:Cx) (st:List Stmt) (t:TS):Prop:=
 ∀ (aq:List (Addr×Obj)) (s:Shared) (σ:St) (H:Hp) (D:QU),Inv X aq σ H s->t D σ H->wpAny (model X.prog X.w) X.A (execs st X.env) (SP X aq D) X.xe s
theorem thn {t:Sem α}{Q Q':α->Shared->Prop}{E:Value->Shared->Prop}(h:wpAny M A t Q E s) (hQ:∀ a s,Q a s->Q' a s):wpAny M A t Q' E s:=FV h hQ fun _ _ x=>x
section
variable {X:Cx}
theorem bin {a b:Expr}{ta tb:TE}(ha:PE X a ta) (hb:PE X b tb) {aq:List (Addr×Obj)}{s:Shared}{σ:St}{H:Hp}{R:V->V->Hp->Prop}(I:Inv X aq σ H s) (h:ta σ H fun x H1=>tb σ H1 fun y H2=>R x y H2)
  {α:Type} {Q:α->Shared->Prop} {f:Value->Value->Sem α}
  (hf:∀ v u s2 x y H2,Inv X aq σ H2 s2->RelV x v->RelV y u->R x y H2->wpAny (model X.prog X.w) X.A (f v u) Q X.xe s2) :
  wpAny (model X.prog X.w) X.A (eval a X.env) (fun v s₁=>wpAny (model X.prog X.w) X.A (eval b X.env) (fun u s₂=>wpAny (model X.prog X.w) X.A (f v u) Q X.xe s₂) X.xe s₁) X.xe s:=by
 refine thn (ha aq s σ H _ I h) fun v s1 ⟨x,H1,I1,r1,q1⟩=>?_
 refine thn (hb aq s1 σ H1 _ I1 q1) fun u s2 ⟨y,H2,I2,r2,q2⟩=>?_
 exact hf v u s2 x y H2 I2 r1 r2 q2
def Se (i:Nat):TE:=fun σ H Q=>∃ v,σ[i]?=some (some v)/\Q v H
def tC (v:V):TE:=fun _ H Q=>Q v H
theorem RQ (hN:X.N[i]?=some x) (hv:Vis X.env.scope x) (hd:(x == ("__debug__":Str))=false:=by decide) (hcd:(x == ("__classdict__":Str))=false:=by decide):PE X (.Name x pos) (Se i):=by
 intro aq s σ H Q I h;obtain ⟨v,e,h⟩:=h;obtain ⟨m,hn,hl⟩:=I.loc;obtain ⟨u,r,l⟩:=hl i x v hN e hv;have fin:EP X aq σ Q u s:=⟨v,H,I,r,h⟩
 rcases l with ⟨hk,hm⟩ | ⟨hk,c,hc,hcell⟩
 ·exact wpAny_Name (wpAny_loadName_local I.ok.kind hk hn hm fin) hd
 ·rcases hk with hk | hk
  ·exact wpAny_Name (wpAny_loadName_cell I.ok.kind hk hc hcell fin) hd
  ·exact wpAny_Name (wpAny_loadName_free I.ok.kind hk hc hcell fin hcd) hd
theorem Qb {i j pos}:PE X (.Constant (.int i) j pos) (tC (.int i)):=fun _ _ _ H _ I h=>wpAny_Constant_int ⟨.int i,H,I.tok _,⟨_,rfl⟩,h⟩
theorem Z1 {b j pos}:PE X (.Constant (.bool b) j pos) (tC (.bl b)):=fun _ _ _ H _ I h=>Constant_bool ⟨.bl b,H,I,rfl,h⟩
theorem ZF {j pos}:PE X (.Constant .none j pos) (tC .non):=fun _ _ _ H _ I h=>Constant_none ⟨.non,H,I,rfl,h⟩
theorem Q5 {x j pos}:PE X (.Constant (.str x) j pos) (tC (.str x)):=fun _ _ _ H _ I h=>Calls.Constant_str ⟨.str x,H,I.tok _,⟨_,rfl⟩,h⟩
def Gl (X:Cx) (x:Str):Prop:=X.env.kindOf x=some .globalImplicit
theorem XT {E:Value->Shared->Prop}{σ:St}{H:Hp}{Q:Value->Shared->Prop}(I:Inv X aq σ H s) (hg:Gl X x) (hm:X.mg x=some u) (h:Q u s)
  (hd:(x == ("__debug__":Str))=false:=by decide):wpAny (model X.prog X.w) X.A (eval (.Name x pos) X.env) Q E s:=
 Calls.Name_function_global I.ok.kind hg (Calls.loadGlobal_global (by rw [I.ok.glob];exact I.mod.glob.keeps I.bk) hm h) hd
theorem WH {E:Value->Shared->Prop}{σ:St}{H:Hp}{Q:Value->Shared->Prop}(I:Inv X aq σ H s) (hg:Gl X x) (hm:X.mg x=none) (hv:bootBuiltins x=some u) (h:Q u s)
  (hn:x≠"__name__":=by decide) (hd:(x == ("__debug__":Str))=false:=by decide):wpAny (model X.prog X.w) X.A (eval (.Name x pos) X.env) Q E s:=by
 obtain ⟨mb,h1,h2⟩:=I.mod.blt;exact Calls.Name_function_global I.ok.kind hg (Calls.loadGlobal_builtin (by rw [I.ok.glob];exact I.mod.glob.keeps I.bk) hm (by rw [I.ok.blt];exact h1.keeps I.bk) ((h2 x hn).trans hv) h) hd
theorem Zj {v:V}(hg:Gl X x) (hm:X.mg x=some u) (r:RelV v u) (hd:(x == ("__debug__":Str))=false:=by decide):PE X (.Name x pos) (tC v):=
 fun _ _ _ H _ I h=>XT I hg hm ⟨v,H,I,r,h⟩ hd
theorem LQ {v:V}(hg:Gl X x) (hm:X.mg x=none) (hv:bootBuiltins x=some u) (r:RelV v u) (hn:x≠"__name__":=by decide) (hd:(x == ("__debug__":Str))=false:=by decide):PE X (.Name x pos) (tC v):=
 fun _ _ _ H _ I h=>WH I hg hm hv ⟨v,H,I,r,h⟩ hn hd
variable {a b:Expr} {ta tb:TE} {pos:Pos}
def PC (X:Cx) (op:CmpOp) (a b:Expr) (t:TE):Prop:=
 ∀ (aq:List (Addr×Obj)) (s:Shared) (σ:St) (H:Hp) (Q:VK),Inv X aq σ H s->t σ H Q ->
  wpAny (model X.prog X.w) X.A (eval a X.env) (fun v s₁=>wpAny (model X.prog X.w) X.A (eval b X.env) (fun u s₂=>wpAny (model X.prog X.w) X.A (compareOp op v u) (EP X aq σ Q) X.xe s₂) X.xe s₁) X.xe s
theorem Ml (b:Expr) {op:CmpOp}(h:op≠.In) (h2:op≠.NotIn):behindInMarks op b=false:=by
 have e1:(op == CmpOp.In)=false:=by cases op <;> first | rfl | exact absurd rfl h
 have e2:(op == CmpOp.NotIn)=false:=by cases op <;> first | rfl | exact absurd rfl h2
 cases b <;> simp [behindInMarks,e1,e2]
def tB (t:TE):TT:=fun σ H Q=>t σ H fun x H1=>∃ c,x=.bl c/\Q c H1
theorem N0 {t:TE}(h:PC X op a b t) (h1:behindInMarks op b=false:=by first | exact Ml _ (by decide) (by decide) | rfl):PT X (.Compare a [op] [b] pos) (tB t):=by
 intro aq s σ H Q I hw;refine wpAny_isTrue_Compare1 (thn (h aq s σ H _ I hw) fun v s1 h1=>thn h1 fun u s2 h2=>thn h2 fun c s3 ⟨x,H1,I1,r1,q1⟩=>?_) h1;obtain ⟨d,rfl,q⟩:=q1;cases r1;exact EE ⟨H1,I1,q⟩
variable {tA tB':TT} {rest:List Expr}
def Sn (t u:TT):TT:=fun σ H Q=>t σ H fun c H1=>if c=true then u σ H1 Q else Q false H1
def tOr (t u:TT):TT:=fun σ H Q=>t σ H fun c H1=>if c=true then Q true H1 else u σ H1 Q
def Si (t:TT):TT:=fun σ H Q=>t σ H fun c H1=>Q (!c) H1
theorem ZL (ha:PT X a tA):PW X (.BoolOp .And [a] pos) tA:=by
 intro wh aq s σ H Q I h;refine isTrue_and (thn (ha aq s σ H Q I h) fun c s1 e=>?_);cases c with
 | true=>exact isTrue_and_nil e
 | false=>exact e
theorem Wx (ha:PT X a tA):PW X (.BoolOp .Or [a] pos) tA:=by
 intro wh aq s σ H Q I h;refine isTrue_or (thn (ha aq s σ H Q I h) fun c s1 e=>?_);cases c with
 | false=>exact isTrue_or_nil e
 | true=>exact e
theorem ZM (ha:PT X a tA) (hb:PW X (.BoolOp .And (b :: rest) pos) tB'):PW X (.BoolOp .And (a :: b :: rest) pos) (Sn tA tB'):=by
 intro wh aq s σ H Q I h;refine isTrue_and (thn (ha aq s σ H _ I h) fun c s1 ⟨H1,I1,q1⟩=>?_);cases c with
 | true=>exact hb wh aq s1 σ H1 Q I1 q1
 | false=>exact ⟨H1,I1,q1⟩
theorem Y1 (ha:PT X a tA) (hb:PW X (.BoolOp .Or (b :: rest) pos) tB'):PW X (.BoolOp .Or (a :: b :: rest) pos) (tOr tA tB'):=by
 intro wh aq s σ H Q I h;refine isTrue_or (thn (ha aq s σ H _ I h) fun c s1 ⟨H1,I1,q1⟩=>?_);cases c with
 | true=>exact ⟨H1,I1,q1⟩
 | false=>exact hb wh aq s1 σ H1 Q I1 q1
theorem ZT (ha:PT X a tA):PT X (.UnaryOp .Not a pos) (Si tA):=by
 intro aq s σ H Q I h;exact isTrue_not (ha aq s σ H (fun c H1=>Q (!c) H1) I h)
theorem Jt {op}{t:TE}(h:PE X a t):PE X (.BoolOp op [a] pos) t:=fun aq s σ H Q I hw=>BoolOp_one (h aq s σ H Q I hw)
def tIf (t:TT) (ta tb:TE):TE:=fun σ H Q=>t σ H fun c H1=>if c=true then ta σ H1 Q else tb σ H1 Q
theorem N8 {c:Expr}(hc:PT X c tA) (ha:PE X a ta) (hb:PE X b tb):PE X (.IfExp c a b pos) (tIf tA ta tb):=by
 intro aq s σ H Q I h;refine wpAny_IfExp (thn (hc aq s σ H _ I h) fun d s1 ⟨H1,I1,q1⟩=>?_);cases d with
 | true=>exact ha aq s1 σ H1 Q I1 q1
 | false=>exact hb aq s1 σ H1 Q I1 q1
end
def SqL (K:W.Frag) (H:Hp) (a:Addr) (xs:List V):Prop:=
 Rd H a (.lst xs) ∨
  ∃ (o:Obj) (its:Array Value) (n:Nat),K.lookup a=some o/\o.cls=.type "list"/\o.dict=none/\o.data=.seq its n/\its.size<=sizeLine/\Vals xs its.toList
def SqT (K:W.Frag) (H:Hp) (a:Addr) (xs:List V):Prop:=
 Rd H a (.tup xs) ∨
  ∃ (o:Obj) (its:Array Value) (n:Nat),K.lookup a=some o/\o.cls=.type "tuple"/\o.data=.seq its n/\its.size<=sizeLine/\Vals xs its.toList
def HY:Value->Option V
 | .none=>some .non
 | .bool b=>some (.bl b)
 | .int i _=>some (.int i)
 | .str x _=>some (.str x)
 | .bytes b _=>some (.byt b)
 | .float b _=>some (.flt b)
 | .ref a=>some (.ref a)
 | .type n=>some (.ty n)
 | _=>none
theorem RelV.abs {x:V}(r:RelV x u):HY u=some x:=by
 cases x with
 | non=>cases r;rfl
 | bl _=>cases r;rfl
 | int _=>obtain ⟨t,rfl⟩:=r;rfl
 | str _=>obtain ⟨t,rfl⟩:=r;rfl
 | byt _=>obtain ⟨t,rfl⟩:=r;rfl
 | flt _=>obtain ⟨t,rfl⟩:=r;rfl
 | ref _=>cases r;rfl
 | ty _=>cases r;rfl
theorem RelV.inj {x y:V}(r:RelV x u) (q:RelV y u):x=y:=Fy (r.abs.symm.trans q.abs)
theorem Vals.inj:∀ {xs ys:List V}{us:List Value},Vals xs us->Vals ys us->xs=ys
 | _,_,_,.nil,.nil=>rfl
 | _,_,_,.cons r t,.cons r' t'=>by rw [r.inj r',Vals.inj t t']
section
variable {X:Cx} {aq:List (Addr×Obj)} {σ:St} {H:Hp} {s:Shared} {a:Addr} {xs ys:List V}
theorem SqL.of (h:H a=some (.lst xs)):SqL K H a xs:=.inl (.inl h)
theorem SqT.of (h:H a=some (.tup xs)):SqT K H a xs:=.inl (.inl h)
theorem Inv.list (I:Inv X aq σ H s) (h:SqL X.K H a xs):∃ its:List Value,Vals xs its/\PlainL s.heap a its.toArray/\xs.length<=sizeLine:=by
 rcases h with h | ⟨o,its,n,hk,hc,hd,hs,hz,r⟩
 ·obtain ⟨z,its,n,r,e⟩:=h.ok I.hok;exact ⟨its,r,⟨_,n,e,rfl,rfl,rfl⟩,z⟩
 ·refine ⟨its.toList,r,⟨o,n,I.kIn a o hk,hc,hd,by simpa using hs⟩,?_⟩;have e:=r.length;simp only [Array.length_toList] at e;omega
theorem Inv.tuple (I:Inv X aq σ H s) (h:SqT X.K H a xs):∃ its:List Value,Vals xs its/\IsTup s.heap a its.toArray/\xs.length<=sizeLine:=by
 rcases h with h | ⟨o,its,n,hk,hc,hs,hz,r⟩
 ·obtain ⟨z,its,r,p⟩:=h.ok I.hok;exact ⟨its,r,p,z⟩
 ·refine ⟨its.toList,r,⟨o,I.kIn a o hk,hc,n,by simpa using hs⟩,?_⟩;have e:=r.length;simp only [Array.length_toList] at e;omega
theorem Inv.list_inj (I:Inv X aq σ H s) (h:SqL X.K H a xs) (h':SqL X.K H a ys):xs=ys:=by
 obtain ⟨its,r,⟨o,n,e,_,_,d⟩,_⟩:=I.list h;obtain ⟨its',r',⟨o',n',e',_,_,d'⟩,_⟩:=I.list h';rw [e] at e';cases e';rw [d] at d';injection d' with d1 _
 have:its=its':=by simpa using congrArg Array.toList d1
 subst this;exact r.inj r'
theorem Inv.tuple_inj (I:Inv X aq σ H s) (h:SqT X.K H a xs) (h':SqT X.K H a ys):xs=ys:=by
 obtain ⟨its,r,⟨o,e,_,n,d⟩,_⟩:=I.tuple h;obtain ⟨its',r',⟨o',e',_,n',d'⟩,_⟩:=I.tuple h';rw [e] at e';cases e';rw [d] at d';injection d' with d1 _
 have:its=its':=by simpa using congrArg Array.toList d1
 subst this;exact r.inj r'
end
abbrev Cx.wish (X:Cx) (E:Value->Shared->Prop):Cx:={ X with xe:=E }
abbrev Cx.nox (X:Cx):Cx:=X.wish fun _ _=>False
theorem Cx.Ok.wish {X:Cx}(ok:X.Ok) (E:Value->Shared->Prop):(X.wish E).Ok:=
 ⟨ok.mod,ok.kind,ok.glob,ok.blt,ok.above,ok.inj,ok.has,ok.cab,ok.hd,ok.frames,ok.stk,ok.exf,ok.bs,ok.bsz,ok.noex,ok.exfs,ok.funs,ok.frf⟩
theorem Cx.Ok.unwish {X:Cx}{E:Value->Shared->Prop}(ok:(X.wish E).Ok):X.Ok:=
 ⟨ok.mod,ok.kind,ok.glob,ok.blt,ok.above,ok.inj,ok.has,ok.cab,ok.hd,ok.frames,ok.stk,ok.exf,ok.bs,ok.bsz,ok.noex,ok.exfs,ok.funs,ok.frf⟩
section
variable {X:Cx} {aq:List (Addr×Obj)} {σ:St} {H:Hp} {s:Shared} {E:Value->Shared->Prop}
theorem Inv.wish (I:Inv X aq σ H s) (E:Value->Shared->Prop):Inv (X.wish E) aq σ H s:=⟨I.ok.wish E,I.os,I.bare,I.base,I.loc,I.cell,I.free,I.freeC,I.pin,I.hok,I.len⟩
theorem Inv.unwish (I:Inv (X.wish E) aq σ H s):Inv X aq σ H s:=⟨I.ok.unwish,I.os,I.bare,I.base,I.loc,I.cell,I.free,I.freeC,I.pin,I.hok,I.len⟩
theorem SP.unwish {D:QU}{f:Flow}{s':Shared}(h:SP (X.wish E) aq D f s'):SP X aq D f s':=by
 cases f with
 | next=>obtain ⟨σ',H',I,q⟩:=h;exact ⟨σ',H',I.unwish,q⟩
 | brk=>obtain ⟨σ',H',I,q⟩:=h;exact ⟨σ',H',I.unwish,q⟩
 | cont=>obtain ⟨σ',H',I,q⟩:=h;exact ⟨σ',H',I.unwish,q⟩
 | ret u=>obtain ⟨v,σ',H',I,r,q⟩:=h;exact ⟨v,σ',H',I.unwish,r,q⟩
theorem PSs.nox {st:List Stmt}{t:TS}(h:PSs X.nox st t):PSs X st t:=fun aq s σ H D I hw=>
 FV (h aq s σ H D (I.wish _) hw) (fun _ _ q=>q.unwish) fun _ _ z=>False.elim z
end
section
variable {X:Cx} {st:Stmt} {rest:List Stmt} {t u:TS} {e:Expr} {te:TE} {pos:Pos}
def BJ:TS:=fun D σ H=>D.nx σ H
def ZX (t u:TS):TS:=fun D σ H=>t { D with nx:=u D } σ H
theorem Qy:PSs X [] BJ:=fun _ _ σ H _ I h=>E6 ⟨σ,H,I,h⟩
theorem Qd (h1:PS X st t) (h2:PSs X rest u):PSs X (st :: rest) (ZX t u):=by
 intro aq s σ H D I h;refine wpAny_execs_cons (thn (h1 aq s σ H { D with nx:=u D } I h) fun f s1 q=>?_);cases f with
 | next=>
  obtain ⟨σ',H',I',q⟩:=q;exact h2 aq s1 σ' H' D I' q
 | ret v=>exact q
 | brk=>exact q
 | cont=>exact q
theorem Qg (h1:PS X st t):PSs X [st] t:=by
 intro aq s σ H D I h;refine wpAny_execs_cons (thn (h1 aq s σ H D I h) fun f s1 q=>?_);cases f with
 | next=>exact E6 q
 | ret v=>exact q
 | brk=>exact q
 | cont=>exact q
theorem Inv.quiet {σ:St}{H:Hp}(I:Inv X aq σ H s):interactive X.env=false:=by simp [interactive,I.ok.kind]
def Kf (te:TE):TS:=fun D σ H=>te σ H fun _ H1=>D.nx σ H1
theorem Zu (he:PE X e te) (hs:swapsWith e none pos.line X.env=pure false:=by rfl):PS X (.Expr e pos) (Kf te):=by
 intro aq s σ H D I h;exact wpAny_Expr_any (thn (he aq s σ H _ I h) fun v s1 ⟨x,H1,I1,r1,q1⟩=>⟨σ,H1,I1,q1⟩) I.quiet hs
def NF (te:TE):TS:=fun D σ H=>te σ H D.rt
theorem Qu (he:PE X e te):PS X (.Return (some e) pos) (NF te):=by
 intro aq s σ H D I h;exact wpAny_Return_some (thn (he aq s σ H _ I h) fun v s1 ⟨x,H1,I1,r1,q1⟩=>⟨x,σ,H1,I1,r1,q1⟩)
def Vv (c:TT) (t u:TS):TS:=fun D σ H=>c σ H fun b H1=>if b=true then t D σ H1 else u D σ H1
theorem QM {c:Expr}{a b:List Stmt}{tc:TT}(hc:PT X c tc) (ha:PSs X a t) (hb:PSs X b u):PS X (.If c a b pos) (Vv tc t u):=by
 intro aq s σ H D I h;refine wpAny_If (thn (hc aq s σ H _ I h) fun d s1 ⟨H1,I1,q1⟩=>?_);cases d with
 | true=>exact ha aq s1 σ H1 D I1 q1
 | false=>exact hb aq s1 σ H1 D I1 q1
def NG:TS:=fun _ _ _=>False
theorem Js:PS X st NG:=fun _ _ _ _ _ _ h=>h.elim
end
abbrev TG:=V->St->Hp->(St->Hp->Prop)->Prop
abbrev TGs:=List V->St->Hp->(St->Hp->Prop)->Prop
def PG (X:Cx) (target:Expr) (t:TG):Prop:=
 ∀ (aq:List (Addr×Obj)) (s:Shared) (σ:St) (H:Hp) (v:V) (u:Value) (Q:St->Hp->Prop),Inv X aq σ H s->RelV v u->t v σ H Q ->
  wpAny (model X.prog X.w) X.A (assign target X.env u) (fun _ s'=>∃ σ' H',Inv X aq σ' H' s'/\Q σ' H') X.xe s
def PGs (X:Cx) (ts:List Expr) (t:TGs):Prop:=
 ∀ (aq:List (Addr×Obj)) (s:Shared) (σ:St) (H:Hp) (vs:List V) (us:List Value) (Q:St->Hp->Prop),Inv X aq σ H s->Vals vs us->t vs σ H Q ->
  wpAny (model X.prog X.w) X.A (assignInOrder ((assignEach ts X.env).map (·.2)) us) (fun _ s'=>∃ σ' H',Inv X aq σ' H' s'/\Q σ' H') X.xe s
section
variable {X:Cx} {pos:Pos}
def Ze (i:Nat):TG:=fun v σ H Q=>Q (σ.set i (some v)) H
theorem Qp (hN:X.N.Nodup) (hi:X.N[i]?=some x) (hx:Loc X.env.scope x) (hf:X.fn x=true∨X.env.scope.names.lookup x=some .local:=by first | exact .inl rfl | exact .inr rfl | assumption):PG X (.Name x pos) (Ze i):=by
 intro aq s σ H v u Q I r h;exact wpAny_assign_Name (Xz I hN hi hx r (fun s' I'=>⟨_,H,I',h⟩) hf)
def HM:TGs:=fun vs σ H Q=>vs=[]/\Q σ H
def SW (t:TG) (u:TGs):TGs:=fun vs σ H Q=>∃ v r,vs=v :: r/\t v σ H fun σ' H'=>u r σ' H' Q
theorem pgs_nil:PGs X [] HM:=by
 intro aq s σ H vs us Q I r h;obtain ⟨e,h⟩:=h;subst e;cases r;exact assignInOrder_nil ⟨σ,H,I,h⟩
theorem N5 {e:Expr}{t:TG}{u:TGs}(h1:PG X e t) (h2:PGs X es u)
  (hs:(assignEach (e :: es) X.env).map (·.2)=assign e X.env :: (assignEach es X.env).map (·.2):=by rfl):PGs X (e :: es) (SW t u):=by
 intro aq s σ H vs us Q I r h;obtain ⟨v,vr,e1,h⟩:=h;subst e1;cases r with
 | cons r rr=>
  rw [hs];refine assignInOrder_cons (thn (h1 aq s σ H _ _ _ I r h) fun _ s1 ⟨σ1,H1,I1,q1⟩=>?_);exact h2 aq s1 σ1 H1 _ _ Q I1 rr q1
def Pj (K:W.Frag) (n:Nat) (t:TGs):TG:=fun v σ H Q=>∃ a xs,v=.ref a/\SqT K H a xs/\xs.length=n/\t xs σ H Q
theorem RP {k:Nat}{t:TGs}(hc:X.calm=true) (h:PGs X es t)
  (hn:(assignEach es X.env).length=n:=by rfl) (hst:(assignEach es X.env).findIdx? (·.1)=none:=by rfl):PG X (.Tuple es k pos) (Pj X.K n t):=by
 intro aq s σ H v u Q I r hw;obtain ⟨a,xs,e1,hq,hl,hw⟩:=hw;subst e1;cases r;obtain ⟨its,rv,ht,hz⟩:=I.tuple hq;refine assign_Tuple_tuple (I.ok.hd hc) ht (by simp [hn,<-hl,rv.length]) hst fun h' hx=>?_
 have I1:Inv X aq σ H { s with heap:=h' }:=I.kept (t':=s.toks) fun b o e=>hx b o (FD (Ft e)) e
 exact h aq _ σ H xs _ Q I1 (by simpa using rv) hw
def Xe (te:TE) (g:TG):TS:=fun D σ H=>te σ H fun x H1=>g x σ H1 D.nx
theorem N3 {e:Expr}{te:TE}{g:TG}(he:PE X e te) (hg:PG X tg g) (hs:swapsWithSole [tg] e pos.line X.env=pure false:=by rfl) (hw:swappedStores [tg] e X.env=pure none:=by rfl)
  (h1:(assignEach [tg] X.env).map (·.2)=[assign tg X.env]:=by rfl):PS X (.Assign [tg] e pos) (Xe te g):=by
 intro aq s σ H D I h;refine wpAny_Assign_stores (thn (he aq s σ H _ I h) fun v s1 ⟨x,H1,I1,r1,q1⟩=>?_) hs hw;rw [h1];exact thn (hg aq s1 σ H1 x v _ I1 r1 q1) fun _ s2 q=>q
theorem Qk {e:Expr}{te:TE}{pos':Pos}(hN:X.N.Nodup) (hi:X.N[i]?=some x) (hx:Loc X.env.scope x) (he:PE X e te) (hs:swapsWith e (some (.Name x pos')) pos.line X.env=pure false:=by rfl) (hf:X.fn x=true∨X.env.scope.names.lookup x=some .local:=by first | exact .inl rfl | exact .inr rfl | assumption) :
  PS X (.Assign [.Name x pos'] e pos) (Xe te (Ze i)):=by
 intro aq s σ H D I h;refine wpAny_Assign_Name (thn (he aq s σ H _ I h) fun v s1 ⟨y,H1,I1,r1,q1⟩=>?_) hs;exact Xz I1 hN hi hx r1 (fun s2 I2=>⟨_,H1,I2,q1⟩) hf
def Sh (i j:Nat) (ta:TA):TS:=fun D σ H=>ta σ H fun vs H1=>∃ v w,vs=[v,w]/\D.nx ((σ.set i (some v)).set j (some w)) H1
theorem RL {a b:Expr}{ta:TA}{pt:Pos}{kt k2 pt2}(hc:X.calm=true) (hN:X.N.Nodup) (hi:X.N[i]?=some x) (hj:X.N[j]?=some y) (hij:i≠j)
  (hx:X.env.scope.names.lookup x=some .local) (hy:X.env.scope.names.lookup y=some .local) (ha:PA X [a,b] ta)
  (hw:swappedStores [.Tuple [.Name x px,.Name y py] kt pt] (.Tuple [a,b] k2 pt2) X.env=pure (some [x,y]))
  (hs:swapsWithSole [.Tuple [.Name x px,.Name y py] kt pt] (.Tuple [a,b] k2 pt2) pos.line X.env=pure false:=by rfl) :
  PS X (.Assign [.Tuple [.Name x px,.Name y py] kt pt] (.Tuple [a,b] k2 pt2) pos) (Sh i j ta):=by
 intro aq s σ H D I h;rw [exec_Assign_arm];refine Fg (wpAny_standAt ?_);rw [hs];refine Fg (Fs ?_);rw [Fh (by decide)];refine Fg (Tuple_ (thn (ha _ aq s σ H _ I h) fun us s1 ⟨vs,H1,I1,r1,q1⟩=>?_));obtain ⟨v,w,e1,q1⟩:=q1;subst e1;obtain ⟨u1,u2,rfl,rv,rw'⟩:∃ u1 u2,us=[u1,u2]/\RelV v u1/\RelV w u2:=by
  cases r1 with
  | cons p q=>
   cases q with
   | cons p' q'=>
    cases q';exact ⟨_,_,rfl,p,p'⟩
 refine wpAny_newObj_type ?_ (by show 2<=sizeLine;decide);have I2:Inv X aq σ H1 { s1 with heap:=s1.heap.push { cls:=.type "tuple",data:=.seq [u1,u2].toArray } }:=I1.kept (t':=s1.toks) fun b o e=>FA _ e
 rw [hw];refine Fg (Fs ?_);show wpAny (model X.prog X.w) X.A (do rule "assign.swapped-stores";let items <-unpackItems (.ref s1.heap.objs.size) 2 none;assignInOrder [fun v=>bindName X.env y v,fun v=>bindName X.env x v] items.reverse;pure Flow.next) _ _ _;refine Fg (wpAny_rule (Fg (unpackItems_tuple (items:=#[u1,u2]) (I.ok.hd hc) (IsTup.new s1.heap _) fun h' hx'=>?_)));have I3:=I2.kept (h':=h') (t':=s1.toks) fun b o e=>hx' b o (FD (Ft e)) e
 show wpAny _ _ (assignInOrder [fun v=>bindName X.env y v,fun v=>bindName X.env x v] [u2,u1] >>= fun _=>pure Flow.next) _ _ _;refine Fg (assignInOrder_cons (wpAny_bindName (Xz I3 hN hj (.inl hy) rw' (fun s2 I4=>?_) (.inr hy))));refine assignInOrder_cons (wpAny_bindName (Xz I4 hN hi (.inl hx) rv (fun s3 I5=>assignInOrder_nil (Fs ?_)) (.inr hx)));rw [List.set_comm _ _ (Ea hij)] at I5;exact ⟨_,H1,I5,q1⟩
end
section
variable {X:Cx} {pos:Pos}
def Rz (c:TT) (tb:TS):TS:=fun D σ H=>∃ W:Nat->St->Hp->Prop,(∃ m,W m σ H)/\∀ m σ H,W m σ H ->
 c σ H fun b H1=>if b=true then ∃ N:St->Hp->Prop,(∀ σ' H',N σ' H'->∃ m',m'<m/\W m' σ' H')/\tb { D with nx:=N,ct:=N,bk:=D.nx } σ H1 else D.nx σ H1
theorem XA {c:Expr}{tc:TT}{tb:TS}(hp:PassesOwn (model X.prog X.w) X.A X.env X.xe) (hc:PT X c tc) (hb:PSs X body tb):PS X (.While c body [] pos) (Rz tc tb):=by
 intro aq s σ H D I h;obtain ⟨W,⟨m0,w0⟩,turn⟩:=h;refine wpAny_While (codeAny_whileLoop (fun n s'=>∃ σ' H',Inv X aq σ' H' s'/\W n σ' H') ?_ m0 ⟨σ,H,I,w0⟩);rintro n s1 ⟨σ1,H1,I1,w1⟩;refine EX hp (thn (hc aq s1 σ1 H1 _ I1 (turn n σ1 H1 w1)) fun b s2 ⟨H2,I2,q2⟩=>?_);cases b with
 | true=>
  obtain ⟨N,hN,q2⟩:=q2;rw [Fk rfl];refine EX hp (thn (hb aq s2 σ1 H2 _ I2 q2) fun f s3 q3=>?_);cases f with
  | next=>
   obtain ⟨σ3,H3,I3,n3⟩:=q3;obtain ⟨m',hm,w3⟩:=hN σ3 H3 n3;exact ⟨m',hm,σ3,H3,I3,w3⟩
  | cont=>
   obtain ⟨σ3,H3,I3,n3⟩:=q3;obtain ⟨m',hm,w3⟩:=hN σ3 H3 n3;exact ⟨m',hm,σ3,H3,I3,w3⟩
  | brk=>exact q3
  | ret v=>exact q3
 | false=>
  rw [Fh FS];exact E6 ⟨σ1,H2,I2,q2⟩
end
structure It where
 go:Nat->Hp->Prop
 yld:Nat->Hp->V->Hp->Prop
 stop:Nat->Hp->Prop
def Xw (X:Cx) (aq:List (Addr×Obj)) (H:Hp) (b:Addr):Prop:=
 H b=none/\b≠X.env.locals/\b ∉ X.fs/\(b∈X.ex∨X.s₀.heap.objs.size<=b)/\(∀ x c,X.env.cells.lookup x=some c->c≠b)/\∀ p∈X.pn++aq,p.1≠b
theorem Inv.fpOk {X:Cx}{σ:St}{H H':Hp}{b:Addr}(I:Inv X aq σ H s) (hb:s.heap.objs.size<=b) (hn:H' b=none):Xw X aq H' b:=by
 refine ⟨hn,Dv (FL I.lt hb),I.nofs hb,.inr (FR I.sz hb),fun x c e z=>?_,fun p hp z=>?_⟩
 ·obtain ⟨v,q⟩:=I.cell x c e;exact absurd (FL q.lt (by rw [z];exact hb)) (FG _)
 ·exact absurd (FL (Ft (I.pin p hp).1) (by rw [z];exact hb)) (FG _)
structure Nm (P:Program) (w:World) (K:W.Frag) (tg:Expr) (J:It) (fp:List Addr) (it:Addr) (tn:Nat->Heap->Prop):Prop where
 mem:it∈fp
 obj:∀ i h,tn i h->∀ b∈fp,∃ o,h.get? b=some o/\∀ v,o.data≠.cell v
 keep:∀ i h h',tn i h->(∀ b∈fp,∀ o,h.get? b=some o->h'.get? b=some o)->tn i h'
 item:∀ (X:Cx),X.prog=P->X.w=w->X.K=K->X.calm=true->∀ (i:Nat) (aq:List (Addr×Obj)) (s:Shared) (σ:St) (H:Hp) (E:Value->Shared->Prop),Inv X aq σ H s->(∀ b∈fp,Xw X aq H b)->tn i s.heap->J.go i H ->
  wpAny (model P w) X.A (pyNext (.ref it)) (fun r s1=>∃ u,r=some u /\
   wpAny (model P w) X.A (letOwnedTupleGo tg (.ref it) u) (fun _ s2=>∃ x H',Inv X aq σ H' s2/\RelV x u/\J.yld i H x H'/\tn (i+1) s2.heap/\∀ b∈fp,H' b=none) E s1) E s
 done:∀ (X:Cx),X.prog=P->X.w=w->X.K=K->X.calm=true->∀ (i:Nat) (aq:List (Addr×Obj)) (s:Shared) (σ:St) (H:Hp) (E:Value->Shared->Prop),Inv X aq σ H s->(∀ b∈fp,Xw X aq H b)->tn i s.heap->J.stop i H ->
  wpAny (model P w) X.A (pyNext (.ref it)) (fun r s1=>r=none/\Inv X aq σ H s1) E s
 self:∀ (A:Around) (i:Nat) (s:Shared) (Q:Value->Shared->Prop) (E:Value->Shared->Prop),tn i s.heap->Q (.ref it) s->wpAny (model P w) A (pyIter (.ref it)) Q E s
abbrev TI:=St->Hp->(It->Hp->Prop)->Prop
def PIE (X:Cx) (aq:List (Addr×Obj)) (σ:St) (tg:Expr) (R:It->Hp->Prop) (itv:Value) (s2:Shared):Prop:=
 ∃ (it:Addr) (fp:List Addr) (tn:Nat->Heap->Prop) (J:It) (H':Hp),itv=.ref it/\Inv X aq σ H' s2/\Nm X.prog X.w X.K tg J fp it tn/\tn 0 s2.heap/\(∀ b∈fp,Xw X aq H' b)/\R J H'
def PI (X:Cx) (tg iter:Expr) (wi:TI):Prop:=
 ∀ (aq:List (Addr×Obj)) (s:Shared) (σ:St) (H:Hp) (R:It->Hp->Prop),Inv X aq σ H s->wi σ H R ->
  wpAny (model X.prog X.w) X.A (eval iter X.env) (fun v s1=>wpAny (model X.prog X.w) X.A (pyIter v) (PIE X aq σ tg R) X.xe s1) X.xe s
theorem U0 {E:Value->Shared->Prop}{o:Obj}{n:String}{vs:Array Value}{Q:Unit->Shared->Prop}(ho:s.heap.get? it=some o) (hc:o.cls=.type n) (hd:o.data=.fields vs)
    (hn:["enumerate","zip","dict_itemiterator","dict_reverseitemiterator","odict_iterator","itertools.zip_longest","itertools.pairwise"].contains n=false) (hQ:Q () s):wpAny M A (letOwnedTupleGo tg (.ref it) u) Q E s:=by
  unfold letOwnedTupleGo;cases tg <;> first
    | exact Fs hQ
    | (cases u <;> first
        | exact Fs hQ
        | (refine Fg (wpAny_load ho ?_)
           rw [hc,hd];show wpAny M A (if (["enumerate","zip","dict_itemiterator","dict_reverseitemiterator","odict_iterator","itertools.zip_longest","itertools.pairwise"].contains n&&vs[0]? == some (rawInt _))=true then _ else _) Q E s;rw [Fh (by intro h;rw [hn,Bool.false_and] at h;cases h)];exact Fs hQ))
def Itl (K:W.Frag) (a:Addr):It:=
 ⟨fun i H=>∃ xs x,SqL K H a xs/\xs[i]?=some x,fun i H x H'=>H'=H/\∀ xs,SqL K H a xs->xs[i]?=some x,fun i H=>∃ xs,SqL K H a xs/\xs.length<=i⟩
def Itr (lo:Int) (n:Nat):It:=⟨fun i _=>i<n,fun i H x H'=>H'=H/\x=.int (lo+i),fun i _=>n<=i⟩
theorem Gw (a it:Addr):Nm P w K tg (Itl K a) [it] it (fun i h=>h.IsListIter it a i) where
 mem:=by simp
 obj:=fun i h st b hb=>by
  have e:b=it:=by simpa using hb
  subst e;obtain ⟨o,e,c,d⟩:=st;exact ⟨o,e,fun v z=>by rw [d] at z;cases z⟩
 keep:=fun i h h' st k=>st.at fun o e=>k it (by simp) o e
 item:=by
  intro X hP hw hK hc i aq s σ H E I hf st hg;subst hP hw hK;obtain ⟨xs,x,hq,hx⟩:=hg;obtain ⟨its,rv,p,hz⟩:=I.list hq;obtain ⟨u,hu,ru⟩:=rv.get hx;obtain ⟨f0,f1,f2,f3,f4,f5⟩:=hf it (by simp);refine wpAny_pyNext_list_item st p.isList (x:=u) (by simpa using hu) fun h' st' sb=>?_
  have I1:Inv X aq σ H { s with heap:=h' }:=I.turned (t':=s.toks) (fun b o hb e=>(sb.2 b hb).trans e) f0 f1 f3 f4 f5;obtain ⟨o,e,c,d⟩:=id st';exact ⟨u,rfl,U0 (s:={ s with heap:=h' }) e c d (by decide) ⟨x,H,I1,ru,⟨rfl,fun ys hy=>by rw [I.list_inj hy hq];exact hx⟩,st',fun b hb=>(hf b hb).1⟩⟩
 done:=by
  intro X hP hw hK hc i aq s σ H E I hf st hg;subst hP hw hK;obtain ⟨xs,hq,hx⟩:=hg;obtain ⟨its,rv,p,hz⟩:=I.list hq;obtain ⟨f0,f1,f2,f3,f4,f5⟩:=hf it (by simp);have hl:=rv.length;exact wpAny_pyNext_list_end (I.ok.hd hc) st p.isList (by simp;omega) fun h' eb=>⟨rfl,I.turned (t':=s.toks) (fun b o hb e=>eb b o hb e) f0 f1 f3 f4 f5⟩
 self:=fun _ _ _ _ _ st h=>wpAny_pyIter_listiter st h
theorem V1 (it:Addr) (lo:Int) (n:Nat):Nm P w K tg (Itr lo n) [it] it (fun i h=>IsRangeIter h it (lo+(i:Nat)*1) ((n:Int)-(i:Nat)) 1) where
 mem:=by simp
 obj:=fun i h st b hb=>by
  have e:b=it:=by simpa using hb
  subst e;exact ⟨_,st,fun v z=>by
   have z':Data.fields _=Data.cell v:=z;cases z'⟩
 keep:=fun i h h' st k=>k it (by simp) _ st
 item:=by
  intro X hP hw hK hc i aq s σ H E I hf st hg;subst hP hw hK;obtain ⟨f0,f1,f2,f3,f4,f5⟩:=hf it (by simp);have W:=Walks.range (prog:=X.prog) (w:=X.w) (I.ok.hd hc) it lo 1 n;refine W.item i s _ _ hg st fun v h' tk hv st' kk=>?_
  obtain ⟨t,rfl⟩:=hv;have I1:Inv X aq σ H { s with heap:=h',toks:=tk }:=I.turned (fun b o hb e=>kk b o (by simpa using hb) e) f0 f1 f3 f4 f5;refine ⟨_,rfl,U0 (s:={ s with heap:=h',toks:=tk }) (n:="range_iterator") st' rfl rfl (by decide) ⟨.int (lo+i),H,I1,⟨t,?_⟩,⟨rfl,rfl⟩,st',fun b hb=>(hf b hb).1⟩⟩;rw [Int.mul_one]
 done:=by
  intro X hP hw hK hc i aq s σ H E I hf st hg;subst hP hw hK;obtain ⟨f0,f1,f2,f3,f4,f5⟩:=hf it (by simp);exact wpAny_pyNext_range_end (I.ok.hd hc) st (by have:n<=i:=hg;omega) fun h' eb=>⟨rfl,I.turned (t':=s.toks) (fun b o hb e=>eb b o hb e) f0 f1 f3 f4 f5⟩
 self:=fun _ _ _ _ _ st h=>wpAny_pyIter_rangeiter st h
section
variable {X:Cx} {tg:Expr}
def Mv (K:W.Frag) (tl:TE):TI:=fun σ H R=>tl σ H fun x H1=>∃ a,x=.ref a/\(∃ xs,SqL K H1 a xs)/\R (Itl K a) H1
theorem LK {l:Expr}{tl:TE}(hl:PE X l tl):PI X tg l (Mv X.K tl):=by
 intro aq s σ H R I h;refine thn (hl aq s σ H _ I h) fun v s1 ⟨x,H1,I1,r1,q1⟩=>?_
 obtain ⟨a,e,⟨xs,hq⟩,q⟩:=q1;subst e;cases r1;obtain ⟨its,rv,p,hz⟩:=I1.list hq;refine wpAny_pyIter_list p.isList ?_;refine ⟨s1.heap.objs.size,[s1.heap.objs.size],_,_,H1,rfl,I1.kept (t':=s1.toks) fun b o e=>FA _ e,Gw a _,⟨_,FY _ rfl,rfl,rfl⟩,fun b hb=>?_,q⟩;have e:b=s1.heap.objs.size:=by simpa using hb
 subst e;exact I1.fpOk (Fl _) (I1.hok.fresh (Fl _))
theorem NU {σ:St}{H:Hp}{R:It->Hp->Prop}{E:Value->Shared->Prop}{hi:Int}{t u v:Tok}{tk:Nat}(I:Inv X aq σ H s) (h1:-(2 ^ 62)<=lo) (h2:lo<2 ^ 62) (h3:-(2 ^ 62)<=hi) (h4:hi<2 ^ 62)
  (q:R (Itr lo (hi-lo).toNat) H):wpAny (model X.prog X.w) X.A (pyIter (.ref s.heap.objs.size)) (PIE X aq σ tg R) E { s with heap:=s.heap.push { cls:=.type "range",data:=.fields #[.int lo t,.int hi u,.int 1 v] },toks:=tk }:=by
 refine wpAny_pyIter_range (IsRange.new ..) (small_one h1 h2 h3 h4) ?_;have I1:Inv X aq σ H { s with heap:=s.heap.push { cls:=.type "range",data:=.fields #[.int lo t,.int hi u,.int 1 v] },toks:=tk }:=I.kept fun b o e=>FA _ e
 refine ⟨(s.heap.push { cls:=.type "range",data:=.fields #[.int lo t,.int hi u,.int 1 v] }).objs.size,[(s.heap.push { cls:=.type "range",data:=.fields #[.int lo t,.int hi u,.int 1 v] }).objs.size],_,_,H,rfl,
  I1.kept (t':=tk) fun b o e=>FA _ e,V1 _ lo (hi-lo).toNat,?_,fun b hb=>?_,q⟩
 ·have e1:lo+((0:Nat):Int)*1=lo:=by simp
  have e2:(((hi-lo).toNat:Nat):Int)-((0:Nat):Int)=Builtin.Range.rangeSize lo hi 1:=by rw [rangeSize_one];split <;> omega
  show IsRangeIter _ _ (lo+((0:Nat):Int)*1) ((((hi-lo).toNat:Nat):Int)-((0:Nat):Int)) 1;rw [e1,e2];exact FY _ rfl
 ·have e:b=(s.heap.push { cls:=.type "range",data:=.fields #[.int lo t,.int hi u,.int 1 v] }).objs.size:=by simpa using hb
  subst e;exact I1.fpOk (Fl _) (I1.hok.fresh (Fl _))
def BR (ta:TA):TI:=fun σ H R=>ta σ H fun vs H1=>∃ j:Int,vs=[.int j]/\-(2 ^ 62)<=j/\j<2 ^ 62/\R (Itr 0 j.toNat) H1
theorem Zf {a:Expr}{ta:TA}{p:Pos}(hg:Gl X "range") (hm:X.mg "range"=none) (ha:PA X [a] ta) (hs:starEach [a] X.env=[(false,eval a X.env)]:=by rfl):PI X tg (.Call (.Name "range" p) [a] [] pos) (BR ta):=by
 intro aq s σ H R I h;refine Call_ (WH I hg hm boot_range (Dp (thn (ha pos aq s σ H _ I h) fun us s1 ⟨vs,H1,I1,r1,q1⟩=>?_) hs rfl));obtain ⟨j,e,q1,q2,q⟩:=q1;subst e;cases r1 with
 | cons r rr=>
  cases rr;obtain ⟨t,rfl⟩:=r;exact call_range_1 (NU I1 (by omega) (by omega) q1 q2 (by simpa using q))
def Sk (wi:TI) (g:TG) (tb:TS):TS:=fun D σ H=>wi σ H fun J H1=>∃ W:Nat->Nat->St->Hp->Prop,(∃ m,W 0 m σ H1)/\∀ i m σ H,W i m σ H ->
 (J.stop i H/\D.nx σ H)∨(J.go i H/\∃ N:St->Hp->Prop,(∀ σ' H',N σ' H'->∃ m',m'<m/\W (i+1) m' σ' H')/\∀ x H',J.yld i H x H'->g x σ H' fun σ2 H2=>tb { D with nx:=N,ct:=N,bk:=D.nx } σ2 H2)
def Xu (fp:List Addr) (h:Heap):List (Addr×Obj):=fp.filterMap fun b=>(h.get? b).map fun o=>(b,o)
theorem Xg {b:Addr}{o:Obj}(hb:b∈fp) (e:h.get? b=some o):(b,o)∈Xu fp h:=List.mem_filterMap.mpr ⟨b,hb,by rw [e];rfl⟩
theorem GV {p:Addr×Obj}(hp:p∈Xu fp h):p.1∈fp/\h.get? p.1=some p.2:=by
 obtain ⟨b,hb,e⟩:=List.mem_filterMap.mp hp;cases q:h.get? b with
 | none=>rw [q] at e;cases e
 | some o=>
  rw [q] at e;have e':(b,o)=p:=Fy e;subst e';exact ⟨hb,q⟩
theorem Inv.pinned {σ:St}{H:Hp}(I:Inv X aq σ H s) (hf:∀ b∈fp,Xw X aq H b) (ho:∀ b∈fp,∃ o,s.heap.get? b=some o/\∀ v,o.data≠.cell v):Inv X (aq++Xu fp s.heap) σ H s:=
 I.pins_of fun p hp=>(FK.mp hp).elim (fun z=>I.pin p (F8 _ z)) fun z=>by
  obtain ⟨hb,e⟩:=GV z;obtain ⟨f0,f1,f2,_⟩:=hf p.1 hb;obtain ⟨o,e',d⟩:=ho p.1 hb;rw [e] at e';cases e';exact ⟨e,f0,f1,f2,d⟩
theorem Inv.unpinned {pl:List (Addr×Obj)}{σ:St}{H:Hp}(I:Inv X (aq++pl) σ H s):Inv X aq σ H s:=I.pins_of fun p hp=>I.pin p (F8 _ (EI _ hp))
theorem Za {wi:TI}{g:TG}{tb:TS}(hp:PassesOwn (model X.prog X.w) X.A X.env X.xe) (hc:X.calm=true) (hi:PI X tg iter wi) (hg:PG X tg g) (hb:PSs X body tb)
  (hs:∀ x,foldedSetIterable iter X.env x=pure x:=by intro _;rfl):PS X (.For tg iter body [] pos) (Sk wi g tb):=by
 intro aq s σ H D I h;refine wpAny_For (thn (hi aq s σ H _ I h) fun v s1 h1=>thn h1 fun itv s2 h2=>?_) hs;obtain ⟨it,fp,tn,J,H2,e,I2,T,st2,f2,W,⟨m0,w0⟩,turn⟩:=h2;subst e;have stat:∀ {H':Hp},(∀ b∈fp,H' b=none)->∀ b∈fp,Xw X aq H' b:=fun hn b hb=>⟨hn b hb,(f2 b hb).2⟩
 refine codeAny_forLoop_any (fun n s'=>∃ i σ' H',Inv X aq σ' H' s'/\tn i s'.heap/\(∀ b∈fp,H' b=none)/\W i n σ' H') ?_ m0 ⟨0,σ,H2,I2,st2,fun b hb=>(f2 b hb).1,w0⟩;rintro n s3 ⟨i,σ3,H3,I3,st3,fr3,w3⟩;rcases turn i n σ3 H3 w3 with ⟨stop,qn⟩ | ⟨go,N,hN,step⟩
 ·refine EX hp (thn (T.done X rfl rfl rfl hc i aq s3 σ3 H3 X.xe I3 (stat fr3) st3 stop) fun r s4 ⟨hr,I4⟩=>?_);subst hr;exact E6 ⟨σ3,H3,I4,qn⟩
 ·refine EX hp (thn (T.item X rfl rfl rfl hc i aq s3 σ3 H3 X.xe I3 (stat fr3) st3 go) fun r s4 ⟨u,hr,h4⟩=>?_);subst hr;refine EX hp (thn h4 fun _ s5 ⟨x,H5,I5,r5,y5,st5,fr5⟩=>?_);have I5':=I5.pinned (stat fr5) (T.obj _ _ st5);refine EX hp (thn (hg _ s5 σ3 H5 x u _ I5' r5 (step x H5 y5)) fun _ s6 ⟨σ6,H6,I6,q6⟩=>?_);refine EX hp (thn (hb _ s6 σ6 H6 _ I6 q6) fun f s7 q7=>?_);have again:∀ {σ7:St} {H7:Hp},Inv X (aq++Xu fp s5.heap) σ7 H7 s7->N σ7 H7->∃ m,m<n/\∃ i σ' H',Inv X aq σ' H' s7/\tn i s7.heap/\(∀ b∈fp,H' b=none)/\W i m σ' H':=fun {σ7 H7} I7 n7=>by
   obtain ⟨m',hm,w7⟩:=hN σ7 H7 n7;refine ⟨m',hm,i+1,σ7,H7,I7.unpinned,T.keep _ _ _ st5 fun b hb o e=>(I7.pin (b,o) (F8 _ (F8 _ (Xg hb e)))).1,fun b hb=>?_,w7⟩;obtain ⟨o,e,d⟩:=T.obj _ _ st5 b hb;exact (I7.pin (b,o) (F8 _ (F8 _ (Xg hb e)))).2.1
  cases f with
  | next=>obtain ⟨σ7,H7,I7,n7⟩:=q7;exact again I7 n7
  | cont=>obtain ⟨σ7,H7,I7,n7⟩:=q7;exact again I7 n7
  | brk=>obtain ⟨σ7,H7,I7,q7⟩:=q7;exact ⟨σ7,H7,I7.unpinned,q7⟩
  | ret v=>obtain ⟨x7,σ7,H7,I7,r7,q7⟩:=q7;exact ⟨x7,σ7,H7,I7.unpinned,r7,q7⟩
end
theorem MM {xs:List V}{g:TG}{tb:TS}{D:QU}{σ:St}{H:Hp}(Pv:Nat->St->Hp->Prop) (h0:Pv 0 σ H) (hl:∀ i σ H,i<=xs.length->Pv i σ H->SqL K H a xs)
  (hs:∀ i x σ H,xs[i]?=some x->Pv i σ H->g x σ H fun σ2 H2=>tb { D with nx:=Pv (i+1),ct:=Pv (i+1),bk:=D.nx } σ2 H2) (hd:∀ σ H,Pv xs.length σ H->D.nx σ H) :
  ∃ W:Nat->Nat->St->Hp->Prop,(∃ m,W 0 m σ H)/\∀ i m σ H,W i m σ H ->
   ((Itl K a).stop i H/\D.nx σ H)∨((Itl K a).go i H/\∃ N:St->Hp->Prop,(∀ σ' H',N σ' H'->∃ m',m'<m/\W (i+1) m' σ' H')/\∀ x H',(Itl K a).yld i H x H'->g x σ H' fun σ2 H2=>tb { D with nx:=N,ct:=N,bk:=D.nx } σ2 H2):=by
 refine ⟨fun i m σ H=>m=xs.length-i/\i<=xs.length/\Pv i σ H,⟨xs.length,by simp,F1 _,h0⟩,?_⟩;rintro i m σ H ⟨rfl,hi,p⟩;have q:=hl i σ H hi p;by_cases hlt:i<xs.length
 ·refine .inr ⟨⟨xs,xs[i],q,by simp [hlt]⟩,Pv (i+1),fun σ' H' p'=>⟨xs.length-(i+1),by omega,rfl,hlt,p'⟩,fun x H' y=>?_⟩;obtain ⟨e,y⟩:=y;subst e;exact hs i x σ _ (y xs q) p
 ·have e:i=xs.length:=by omega
  subst e;exact .inl ⟨⟨xs,q,Fl _⟩,hd σ H p⟩
theorem G5 {g:TG}{tb:TS}{D:QU}{σ:St}{H:Hp}(Pv:Nat->St->Hp->Prop) (h0:Pv 0 σ H)
  (hs:∀ i σ H,i<n->Pv i σ H->g (.int (lo+i)) σ H fun σ2 H2=>tb { D with nx:=Pv (i+1),ct:=Pv (i+1),bk:=D.nx } σ2 H2) (hd:∀ σ H,Pv n σ H->D.nx σ H) :
  ∃ W:Nat->Nat->St->Hp->Prop,(∃ m,W 0 m σ H)/\∀ i m σ H,W i m σ H ->
   ((Itr lo n).stop i H/\D.nx σ H)∨((Itr lo n).go i H/\∃ N:St->Hp->Prop,(∀ σ' H',N σ' H'->∃ m',m'<m/\W (i+1) m' σ' H')/\∀ x H',(Itr lo n).yld i H x H'->g x σ H' fun σ2 H2=>tb { D with nx:=N,ct:=N,bk:=D.nx } σ2 H2):=by
 refine ⟨fun i m σ H=>m=n-i/\i<=n/\Pv i σ H,⟨n,by simp,F1 _,h0⟩,?_⟩;rintro i m σ H ⟨rfl,hi,p⟩;by_cases hlt:i<n
 ·refine .inr ⟨hlt,Pv (i+1),fun σ' H' p'=>⟨n-(i+1),by omega,rfl,hlt,p'⟩,fun x H' y=>?_⟩;obtain ⟨e,y⟩:=y;subst e y;exact hs i σ _ hlt p
 ·have e:i=n:=by omega
  subst e;exact .inl ⟨Fl _,hd σ H p⟩
abbrev R2:=V->V->Hp->VK->Prop
def OpR (X:Cx) (f:Value->Value->Sem Value) (r:R2):Prop:=
 ∀ (aq:List (Addr×Obj)) (s:Shared) (σ:St) (H:Hp) (x y:V) (v u:Value) (Q:VK),Inv X aq σ H s->RelV x v->RelV y u->r x y H Q ->
  wpAny (model X.prog X.w) X.A (f v u) (EP X aq σ Q) X.xe s
def UnR (X:Cx) (f:Value->Sem Value) (r:V->Hp->VK->Prop):Prop:=
 ∀ (aq:List (Addr×Obj)) (s:Shared) (σ:St) (H:Hp) (x:V) (v:Value) (Q:VK),Inv X aq σ H s->RelV x v->r x H Q ->
  wpAny (model X.prog X.w) X.A (f v) (EP X aq σ Q) X.xe s
def Zx (X:Cx) (f:Value) (r:List V->Hp->VK->Prop):Prop:=
 ∀ (aq:List (Addr×Obj)) (s:Shared) (σ:St) (H:Hp) (xs:List V) (us:List Value) (Q:VK),Inv X aq σ H s->Vals xs us->r xs H Q ->
  wpAny (model X.prog X.w) X.A (call f us) (EP X aq σ Q) X.xe s
def HZ (X:Cx) (r:V->Hp->(Bool->Hp->Prop)->Prop):Prop:=
 ∀ (aq:List (Addr×Obj)) (s:Shared) (σ:St) (H:Hp) (x:V) (v:Value) (Q:Bool->Hp->Prop),Inv X aq σ H s->RelV x v->r x H Q ->
  wpAny (model X.prog X.w) X.A (truthy v) (TP X aq σ Q) X.xe s
def tOp (r:R2) (ta tb:TE):TE:=fun σ H Q=>ta σ H fun x H1=>tb σ H1 fun y H2=>r x y H2 Q
def tUn (r:V->Hp->VK->Prop) (ta:TE):TE:=fun σ H Q=>ta σ H fun x H1=>r x H1 Q
def rI (C:Int->Int->Prop) (g:Int->Int->V):R2:=fun x y H Q=>∃ i j,x=.int i/\y=.int j/\C i j/\Q (g i j) H
def rI0 (g:Int->Int->V):R2:=fun x y H Q=>∃ i j,x=.int i/\y=.int j/\Q (g i j) H
def rU (g:Int->V):V->Hp->VK->Prop:=fun x H Q=>∃ i,x=.int i/\Q (g i) H
section
variable {X:Cx} {a b c:Expr} {ta tb tc:TE} {pos:Pos}
theorem PK (ha:PE X a ta) (hb:PE X b tb) {aq:List (Addr×Obj)}{s:Shared}{σ:St}{H:Hp}{R:V->V->Hp->Prop}(I:Inv X aq σ H s)
  (h:ta σ H fun x H1=>tb σ H1 fun y H2=>R x y H2) {Q:Value->Shared->Prop} {f:Value->Value->Sem Value}
  (hf:∀ v u s2 x y H2,Inv X aq σ H2 s2->RelV x v->RelV y u->R x y H2->wpAny (model X.prog X.w) X.A (f v u) Q X.xe s2) :
  wpAny (model X.prog X.w) X.A (eval a X.env) (fun v s₁=>wpAny (model X.prog X.w) X.A (eval b X.env) (fun u s₂=>wpAny (model X.prog X.w) X.A (f v u) Q X.xe s₂) X.xe s₁) X.xe s:=by
 refine thn (ha aq s σ H _ I h) fun v s1 ⟨x,H1,I1,r1,q1⟩=>?_
 refine thn (hb aq s1 σ H1 _ I1 q1) fun u s2 ⟨y,H2,I2,r2,q2⟩=>?_
 exact hf v u s2 x y H2 I2 r1 r2 q2
theorem Qf {op:Operator}{r:R2}(ho:OpR X (binaryOp op) r) (ha:PE X a ta) (hb:PE X b tb):PE X (.BinOp a op b pos) (tOp r ta tb):=by
 intro aq s σ H Q I h;exact wpAny_BinOp (PK ha hb I h fun v u s2 x y H2 I2 rx ry q=>ho aq s2 σ H2 x y v u Q I2 rx ry q)
theorem SJ {op:UnaryOp}{r:V->Hp->VK->Prop}(ho:UnR X (unaryOp op) r) (ha:PE X a ta):PE X (.UnaryOp op a pos) (tUn r ta):=by
 intro aq s σ H Q I h;exact UnaryOp_ (thn (ha aq s σ H _ I h) fun v s1 ⟨x,H1,I1,r1,q1⟩=>ho aq s1 σ H1 x v Q I1 r1 q1)
theorem opI {f:Value->Value->Sem Value}{C:Int->Int->Prop}{g:Int->Int->Int} 
  (rule:∀ (i j:Int) (t u:Tok) (s:Shared) (Q:Value->Shared->Prop) (E:Value->Shared->Prop),C i j->Q (.int (g i j) s.toks) { s with toks:=s.toks+1 }->wpAny (model X.prog X.w) X.A (f (.int i t) (.int j u)) Q E s) :
  OpR X f (rI C fun i j=>.int (g i j)):=by
 intro aq s σ H x y v u Q I rx ry h;obtain ⟨i,j,rfl,rfl,hc,q⟩:=h;obtain ⟨t,rfl⟩:=rx;obtain ⟨t',rfl⟩:=ry;exact rule i j t t' s _ _ hc ⟨.int (g i j),H,I.tok _,⟨_,rfl⟩,q⟩
theorem SM {f:Value->Value->Sem Value}{g:Int->Int->Int} 
  (rule:∀ (i j:Int) (t u:Tok) (s:Shared) (Q:Value->Shared->Prop) (E:Value->Shared->Prop),Q (.int (g i j) s.toks) { s with toks:=s.toks+1 }->wpAny (model X.prog X.w) X.A (f (.int i t) (.int j u)) Q E s) :
  OpR X f (rI0 fun i j=>.int (g i j)):=by
 intro aq s σ H x y v u Q I rx ry h;obtain ⟨i,j,rfl,rfl,q⟩:=h;obtain ⟨t,rfl⟩:=rx;obtain ⟨t',rfl⟩:=ry;exact rule i j t t' s _ _ ⟨.int (g i j),H,I.tok _,⟨_,rfl⟩,q⟩
theorem R1 {f:Value->Value->Sem Value}{g:Int->Int->Bool} 
  (rule:∀ (i j:Int) (t u:Tok) (s:Shared) (Q:Value->Shared->Prop) (E:Value->Shared->Prop),Q (.bool (g i j)) s->wpAny (model X.prog X.w) X.A (f (.int i t) (.int j u)) Q E s) :
  OpR X f (rI0 fun i j=>.bl (g i j)):=by
 intro aq s σ H x y v u Q I rx ry h;obtain ⟨i,j,rfl,rfl,q⟩:=h;obtain ⟨t,rfl⟩:=rx;obtain ⟨t',rfl⟩:=ry;exact rule i j t t' s _ _ ⟨.bl (g i j),H,I,rfl,q⟩
def UE (i j:Int):Prop:=0<=j/\j<=1000000/\i.natAbs<2 ^ 64
theorem op_add:OpR X (binaryOp .Add) (rI0 fun i j=>.int (i+j)):=SM fun _ _ _ _ _ _ _ q=>add_int q
theorem op_sub:OpR X (binaryOp .Sub) (rI0 fun i j=>.int (i-j)):=SM fun _ _ _ _ _ _ _ q=>sub_int q
theorem op_mod:OpR X (binaryOp .Mod) (rI (fun _ j=>0<j) fun i j=>.int (i % j)):=opI fun i j _ _ _ _ _ hc q=>by
 have h1:(0:Int)<j:=hc;exact mod_int' (by omega) (by rw [Int.fmod_eq_emod_of_nonneg i (by omega)];exact q)
theorem op_modN:OpR X (binaryOp .Mod) (rI (fun _ j=>j≠0) fun i j=>.int (i.fmod j)):=opI fun _ _ _ _ _ _ _ hc q=>mod_int' hc q
theorem op_pow:OpR X (binaryOp .Pow) (rI UE fun i j=>.int (i ^ j.toNat)):=opI fun _ _ _ _ _ _ _ hc q=>pow_int_small hc.1 hc.2.1 hc.2.2 q
theorem unI {f:Value->Sem Value}{g:Int->Int} 
  (rule:∀ (i:Int) (t:Tok) (s:Shared) (Q:Value->Shared->Prop) (E:Value->Shared->Prop),Q (.int (g i) s.toks) { s with toks:=s.toks+1 }->wpAny (model X.prog X.w) X.A (f (.int i t)) Q E s) :
  UnR X f (rU fun i=>.int (g i)):=by
 intro aq s σ H x v Q I rx h;obtain ⟨i,rfl,q⟩:=h;obtain ⟨t,rfl⟩:=rx;exact rule i t s _ _ ⟨.int (g i),H,I.tok _,⟨_,rfl⟩,q⟩
theorem un_neg:UnR X (unaryOp .USub) (rU fun i=>.int (-i)):=unI fun _ _ _ _ _ q=>neg_int q
end
def Ss:V->V->Bool
 | .non,.non=>true | .non,.int _=>true | .int _,.non=>true | .non,.bl _=>true | .bl _,.non=>true | .non,.str _=>true | .str _,.non=>true
 | .int _,.int _=>true | .bl _,.bl _=>true | .str _,.str _=>true | .byt _,.byt _=>true
 | .int _,.str _=>true | .str _,.int _=>true | .bl _,.str _=>true | .str _,.bl _=>true
 | _,_=>false
def rEq:R2:=fun x y H Q=>Ss x y=true/\Q (.bl (decide (x=y))) H
def rNe:R2:=fun x y H Q=>Ss x y=true/\Q (.bl (!decide (x=y))) H
theorem Jh {i j:Int}:decide (V.int i=V.int j)=(i == j):=by
 rw [F7];simp
theorem MX {i j:Bool}:decide (V.bl i=V.bl j)=(i == j):=by
 rw [F7];simp
theorem Gd {i j:Str}:decide (V.str i=V.str j)=(i == j):=by
 rw [F7];simp
theorem Ge {i j:Array UInt8}:decide (V.byt i=V.byt j)=(i.toList == j.toList):=by
 rw [F7];cases i;cases j;simp
section
variable {X:Cx} {a b c:Expr} {ta tb tc:TE} {pos:Pos}
theorem QD {σ:St}{H:Hp}{Q:VK}{k k':Bool}(I:Inv X aq σ H s) (q:Q (.bl k) H) (e:k=k'):EP X aq σ Q (.bool k') s:=by
 subst e;exact ⟨.bl k,H,I,rfl,q⟩
theorem op_eq:OpR X (compareOp .Eq) rEq:=by
 intro aq s σ H x y v u Q I rx ry h;obtain ⟨hs,q⟩:=h;cases x with
 | non=>
  cases rx;cases y with
  | non=>cases ry;exact EqNone.eq_none_none (QD I q (by simp))
  | bl j=>cases ry;exact EqNone.eq_none_bool (QD I q (by simp))
  | int j=>obtain ⟨t',rfl⟩:=ry;exact EqNone.eq_none_int (QD I q (by simp))
  | str j=>obtain ⟨t',rfl⟩:=ry;exact EqNone.eq_none_str (QD I q (by simp))
  | _=>exact absurd (show false=true from hs) FS
 | bl i=>
  cases rx;cases y with
  | non=>cases ry;exact EqNone.eq_bool_none (QD I q (by simp))
  | bl j=>cases ry;exact eq_bool (QD I q MX)
  | str j=>obtain ⟨t',rfl⟩:=ry;exact EqMixed.eq_bool_str (QD I q (by simp))
  | _=>exact absurd (show false=true from hs) FS
 | int i=>
  obtain ⟨t,rfl⟩:=rx;cases y with
  | non=>cases ry;exact EqNone.eq_int_none (QD I q (by simp))
  | int j=>obtain ⟨t',rfl⟩:=ry;exact eq_int (QD I q Jh)
  | str j=>obtain ⟨t',rfl⟩:=ry;exact EqMixed.eq_int_str (QD I q (by simp))
  | _=>exact absurd (show false=true from hs) FS
 | str i=>
  obtain ⟨t,rfl⟩:=rx;cases y with
  | non=>cases ry;exact EqNone.eq_str_none (QD I q (by simp))
  | bl j=>cases ry;exact EqMixed.eq_str_bool (QD I q (by simp))
  | int j=>obtain ⟨t',rfl⟩:=ry;exact EqMixed.eq_str_int (QD I q (by simp))
  | str j=>obtain ⟨t',rfl⟩:=ry;exact eq_str (QD I q Gd)
  | _=>exact absurd (show false=true from hs) FS
 | byt i=>
  obtain ⟨t,rfl⟩:=rx;cases y with
  | byt j=>obtain ⟨t',rfl⟩:=ry;exact W.eq_bytes (QD I q Ge)
  | _=>exact absurd (show false=true from hs) FS
 | _=>cases y <;> exact absurd (show false=true from hs) FS
theorem op_ne:OpR X (compareOp .NotEq) rNe:=by
 intro aq s σ H x y v u Q I rx ry h;obtain ⟨hs,q⟩:=h;cases x with
 | non=>
  cases rx;cases y with
  | non=>cases ry;exact EqNone.ne_none_none (QD I q (by simp))
  | bl j=>cases ry;exact EqNone.ne_none_bool (QD I q (by simp))
  | int j=>obtain ⟨t',rfl⟩:=ry;exact EqNone.ne_none_int (QD I q (by simp))
  | str j=>obtain ⟨t',rfl⟩:=ry;exact EqNone.ne_none_str (QD I q (by simp))
  | _=>exact absurd (show false=true from hs) FS
 | bl i=>
  cases rx;cases y with
  | non=>cases ry;exact EqNone.ne_bool_none (QD I q (by simp))
  | bl j=>cases ry;exact ne_bool (QD I q (congrArg not MX))
  | str j=>obtain ⟨t',rfl⟩:=ry;exact EqMixed.ne_bool_str (QD I q (by simp))
  | _=>exact absurd (show false=true from hs) FS
 | int i=>
  obtain ⟨t,rfl⟩:=rx;cases y with
  | non=>cases ry;exact EqNone.ne_int_none (QD I q (by simp))
  | int j=>obtain ⟨t',rfl⟩:=ry;exact ne_int (QD I q (congrArg not Jh))
  | str j=>obtain ⟨t',rfl⟩:=ry;exact EqMixed.ne_int_str (QD I q (by simp))
  | _=>exact absurd (show false=true from hs) FS
 | str i=>
  obtain ⟨t,rfl⟩:=rx;cases y with
  | non=>cases ry;exact EqNone.ne_str_none (QD I q (by simp))
  | bl j=>cases ry;exact EqMixed.ne_str_bool (QD I q (by simp))
  | int j=>obtain ⟨t',rfl⟩:=ry;exact EqMixed.ne_str_int (QD I q (by simp))
  | str j=>obtain ⟨t',rfl⟩:=ry;exact ne_str (QD I q (congrArg not Gd))
  | _=>exact absurd (show false=true from hs) FS
 | byt i=>
  obtain ⟨t,rfl⟩:=rx;cases y with
  | byt j=>obtain ⟨t',rfl⟩:=ry;exact W.ne_bytes (QD I q (congrArg not Ge))
  | _=>exact absurd (show false=true from hs) FS
 | _=>cases y <;> exact absurd (show false=true from hs) FS
theorem op_lt:OpR X (compareOp .Lt) (rI0 fun i j=>.bl (decide (i<j))):=R1 fun _ _ _ _ _ _ _ q=>lt_int q
theorem op_gt:OpR X (compareOp .Gt) (rI0 fun i j=>.bl (decide (j<i))):=R1 fun _ _ _ _ _ _ _ q=>gt_int q
theorem op_ge:OpR X (compareOp .GtE) (rI0 fun i j=>.bl (decide (j<=i))):=R1 fun _ _ _ _ _ _ _ q=>ge_int q
theorem GL:OpR X (compareOp .In) (fun x y H Q=>∃ i j,x=.str i/\y=.str j/\Q (.bl (!(Builtin.Str.occurrences j i 0 j.length 1).isEmpty)) H):=by
 intro aq s σ H x y v u Q I rx ry h;obtain ⟨i,j,rfl,rfl,q⟩:=h;obtain ⟨t,rfl⟩:=rx;obtain ⟨t',rfl⟩:=ry;exact in_str (QD I q rfl)
theorem KQ:OpR X (compareOp .IsNot) (fun x y H Q=>y=.non/\Q (.bl (!decide (x=.non))) H):=by
 intro aq s σ H x y v u Q I rx ry h;obtain ⟨rfl,q⟩:=h;cases ry;refine isnot_none_gen (QD I q ?_);cases x <;> first
  | (cases rx;rfl)
  | (obtain ⟨t,rfl⟩:=rx;rfl)
theorem KP:OpR X (compareOp .NotIn) (fun x y H Q=>∃ i j,x=.str i/\y=.str j/\Q (.bl (!(!(Builtin.Str.occurrences j i 0 j.length 1).isEmpty))) H):=by
 intro aq s σ H x y v u Q I rx ry h;obtain ⟨i,j,rfl,rfl,q⟩:=h;obtain ⟨t,rfl⟩:=rx;obtain ⟨t',rfl⟩:=ry;exact notIn_str (QD I q rfl)
theorem OpR.or {f:Value->Value->Sem Value}{r r':R2}(h:OpR X f r) (h':OpR X f r'):OpR X f (fun x y H Q=>r x y H Q∨r' x y H Q):=by
 intro aq s σ H x y v u Q I rx ry q;rcases q with q | q
 ·exact h aq s σ H x y v u Q I rx ry q
 ·exact h' aq s σ H x y v u Q I rx ry q
theorem Qw (b:Expr) {op:CmpOp}(h:op≠.In:=by decide) (h2:op≠.NotIn:=by decide):behindInMarks op b=false:=by
 have e1:(op == CmpOp.In)=false:=by cases op <;> first | rfl | exact absurd rfl h
 have e2:(op == CmpOp.NotIn)=false:=by cases op <;> first | rfl | exact absurd rfl h2
 cases b <;> simp [behindInMarks,e1,e2]
theorem Zw {r:R2}(ho:OpR X (compareOp op) r) (ha:PE X a ta) (hb:PE X b tb) (hm:behindInMarks op b=false):PE X (.Compare a [op] [b] pos) (tOp r ta tb):=by
 intro aq s σ H Q I h;exact wpAny_Compare1 (PK ha hb I h fun v u s2 x y H2 I2 rx ry q=>ho aq s2 σ H2 x y v u Q I2 rx ry q) hm
def PP (K:W.Frag) (x:V) (H:Hp) (k:Bool):Prop:=
 match x with
 | .non=>k=false
 | .bl b=>k=b
 | .int i=>k=(i != 0)
 | .str y=>y.length<=sizeLine/\k=((y.length:Int) != 0)
 | .byt y=>y.size<=sizeLine/\k=((y.size:Int) != 0)
 | .ref p=>(∃ xs,SqL K H p xs/\k=!xs.isEmpty)∨(∃ xs,SqT K H p xs/\k=!xs.isEmpty)∨∃ kvs,H p=some (.dK kvs)/\k=!kvs.isEmpty
 | _=>False
theorem Uu {κ:Type}{kvs:List (κ×V)}{vs:List (κ×Value)}(r:KV kvs vs):(!vs.isEmpty)=!kvs.isEmpty:=by
 cases r <;> rfl
theorem JB {xs:List V}(r:Vals xs its):(!its.toArray.isEmpty)=!xs.isEmpty:=by
 cases r <;> simp
theorem Jy:(sizeLine:Nat)<2 ^ 63:=by rw [Ew];decide
theorem Rx:HZ X (fun x H Q=>∃ k,PP X.K x H k/\Q k H):=by
 intro aq s σ H x v Q I rx h;obtain ⟨k,e,q⟩:=h;have hl:=Jy;have hs:sizeLine=16777216:=Ew;cases x with
 | non=>
  cases rx;have e':k=false:=e;subst e';exact truthy_none ⟨H,I,q⟩
 | bl b=>
  cases rx;have e':k=b:=e;subst e';exact EE ⟨H,I,q⟩
 | int i=>
  obtain ⟨t,rfl⟩:=rx;have e':k=(i != 0):=e;subst e';exact PySem.P.truthy_int ⟨H,I,q⟩
 | str y=>
  obtain ⟨t,rfl⟩:=rx;obtain ⟨hy,e'⟩:y.length<=sizeLine/\k=((y.length:Int) != 0):=e;subst e';exact PySem.P.truthy_str (by omega) ⟨H,I.tok _,q⟩
 | byt y=>
  obtain ⟨t,rfl⟩:=rx;obtain ⟨hy,e'⟩:y.size<=sizeLine/\k=((y.size:Int) != 0):=e;subst e';exact W.truthy_bytes (by omega) ⟨H,I.tok _,q⟩
 | ref p=>
  cases rx;have e':(∃ xs,SqL X.K H p xs/\k=!xs.isEmpty)∨(∃ xs,SqT X.K H p xs/\k=!xs.isEmpty)∨∃ kvs,H p=some (.dK kvs)/\k=!kvs.isEmpty:=e;rcases e' with ⟨xs,hx,e'⟩ | ⟨xs,hx,e'⟩ | ⟨kvs,hx,e'⟩
  ·subst e';obtain ⟨its,r,pl,hz⟩:=I.list hx;have hlen:=r.length;exact wpAny_truthy_list pl.isList (by simp only [FJ];omega) ⟨H,I.tok _,by rw [JB r];exact q⟩
  ·subst e';obtain ⟨its,r,pl,hz⟩:=I.tuple hx;have hlen:=r.length;exact truthy_tuple pl (by simp only [FJ];omega) ⟨H,I.tok _,by rw [JB r];exact q⟩
  ·subst e';obtain ⟨hz,hS,vs,r,m⟩:kvs.length<=sizeLine/\(p == sysModules)=false/\∃ vs,KV kvs vs/\s.heap.DictOf (QP X.prog X.w) p vs:=I.hok p _ hx;have hlen:kvs.length=vs.length:=Paired.length r;exact wpAny_truthy_dict hS m (by omega) ⟨H,I.tok _,by rw [Uu r];exact q⟩
 | _=>exact (show False from e).elim
theorem ZN (ha:PE X a ta) (he:∀ whole,isTrue a X.env whole=(do let v <-whole;standAt a.pos;holding [v] (truthy v))) :
  PT X a (fun σ H Q=>ta σ H fun x H'=>∃ k,PP X.K x H' k/\Q k H'):=by
 intro aq s σ H Q I h;exact isTrue_plain (thn (ha aq s σ H _ I h) fun v s1 ⟨x,H1,I1,r1,q1⟩=>Rx aq s1 σ H1 x v Q I1 r1 q1) (he _)
theorem op_add_str:OpR X (binaryOp .Add) (fun x y H Q=>∃ i j,x=.str i/\y=.str j/\i.length+j.length<=sizeLine/\Q (.str (i++j)) H):=by
 intro aq s σ H x y v u Q I rx ry h;obtain ⟨i,j,rfl,rfl,hz,q⟩:=h;obtain ⟨t,rfl⟩:=rx;obtain ⟨t',rfl⟩:=ry;exact add_str (fun t' tk=>⟨.str (i++j),H,I.tok _,⟨_,rfl⟩,q⟩) hz
theorem Z0 {x:V}(r:Vals [x] us):∃ u,us=[u]/\RelV x u:=by
 cases r with
 | cons r1 r2=>cases r2;exact ⟨_,rfl,r1⟩
theorem Jl {x y:V}(r:Vals [x,y] us):∃ u w',us=[u,w']/\RelV x u/\RelV y w':=by
 cases r with
 | cons r1 r2=>
  cases r2 with
  | cons r3 r4=>cases r4;exact ⟨_,_,rfl,r1,r3⟩
theorem JK:Zx X (.builtin "abs") (fun xs H Q=>∃ i,xs=[.int i]/\Q (.int (if i<0 then -i else i)) H):=by
 intro aq s σ H xs us Q I r h;obtain ⟨i,rfl,q⟩:=h;obtain ⟨u,rfl,t,rfl⟩:=Z0 r;exact call_abs_int fun u tk=>⟨.int (if i<0 then -i else i),H,I.tok _,⟨_,rfl⟩,q⟩
theorem Nh (hc:X.calm=true):Zx X (.builtin "max") (fun xs H Q=>∃ i j,xs=[.int i,.int j]/\Q (.int (if j > i then j else i)) H):=by
 intro aq s σ H xs us Q I r h;obtain ⟨i,j,rfl,q⟩:=h;obtain ⟨u,w',rfl,⟨t,rfl⟩,⟨t',rfl⟩⟩:=Jl r;refine max_two_ints (I.ok.hd hc) fun h' tk k=>⟨_,H,I.kept k,?_,q⟩
 by_cases hj:j > i
 ·rw [Fk hj,Fk hj];exact ⟨_,rfl⟩
 ·rw [Fh hj,Fh hj];exact ⟨_,rfl⟩
theorem WL:Zx X (.type "int") (fun xs H Q=>(∃ i,xs=[.int i]/\Q (.int i) H)∨∃ k,xs=[.bl k]/\Q (.int (if k then 1 else 0)) H):=by
 intro aq s σ H xs us Q I r h;rcases h with ⟨i,rfl,q⟩ | ⟨k,rfl,q⟩
 ·obtain ⟨u,rfl,t,rfl⟩:=Z0 r;exact call_int_int ⟨.int i,H,I,⟨_,rfl⟩,q⟩
 ·obtain ⟨u,rfl,r1⟩:=Z0 r;cases r1;exact call_int_bool ⟨.int (if k then 1 else 0),H,I.tok _,⟨_,rfl⟩,q⟩
def Hj (K:W.Frag) (x:V) (H:Hp) (n:Nat):Prop:=
 match x with
 | .str y=>y.length<=sizeLine/\n=y.length
 | .byt y=>y.size<=sizeLine/\n=y.size
 | .ref p=>(∃ xs,SqL K H p xs/\n=xs.length)∨∃ xs,SqT K H p xs/\n=xs.length
 | _=>False
theorem M4:Zx X (.builtin "len") (fun xs H Q=>∃ x n,xs=[x]/\Hj X.K x H n/\Q (.int n) H):=by
 intro aq s σ H xs us Q I r h;obtain ⟨x,n,rfl,e,q⟩:=h;obtain ⟨u,rfl,rx⟩:=Z0 r;have hl:=Jy;have hs:sizeLine=16777216:=Ew;cases x with
 | str y=>
  obtain ⟨t,rfl⟩:=rx;obtain ⟨hy,e'⟩:y.length<=sizeLine/\n=y.length:=e;subst e';exact len_str (by omega) ⟨.int _,H,I.tok _,⟨_,rfl⟩,q⟩
 | byt y=>
  obtain ⟨t,rfl⟩:=rx;obtain ⟨hy,e'⟩:y.size<=sizeLine/\n=y.size:=e;subst e';exact W.len_bytes (by omega) ⟨.int _,H,I.tok _,⟨_,rfl⟩,q⟩
 | ref p=>
  cases rx;have e':(∃ xs,SqL X.K H p xs/\n=xs.length)∨∃ xs,SqT X.K H p xs/\n=xs.length:=e;rcases e' with ⟨xs,hx,e'⟩ | ⟨xs,hx,e'⟩
  ·subst e';obtain ⟨its,r',pl,hz⟩:=I.list hx;have hlen:=r'.length;exact Calls.call_len_list pl.isList (by simp only [FJ];omega) ⟨.int xs.length,H,I.tok _,⟨_,by simp only [FJ];rw [hlen]⟩,q⟩
  ·subst e';obtain ⟨its,r',pl,hz⟩:=I.tuple hx;have hlen:=r'.length;exact len_tuple pl (by simp only [FJ];omega) ⟨.int xs.length,H,I.tok _,⟨_,by simp only [FJ];rw [hlen]⟩,q⟩
 | _=>exact (show False from e).elim
end
structure ObjM (h:Heap) (x dx C:Addr) (mA:Str->Option Value):Prop where
 obj:h.get? x=some (W.instObj C dx)
 ns:h.Ns1 dx mA
 ne:dx≠x
theorem WG (n:h.Ns1 dx mA):∃ od,h.get? dx=some od/\∀ name,W.lookIn name od=some (mA name):=by
 obtain ⟨o,es,ep,ho,hd,hk,_,hm⟩:=n;refine ⟨o,ho,fun name=>?_⟩;have e:=hm name;unfold nsFind findBy at e;rw [<-Array.find?_toList] at e;unfold W.lookIn;rw [hd];dsimp only;split
 ·rename_i y q;rw [q] at e;exact congrArg some e
 ·rename_i q;rw [q] at e;have a:es.toList.any (·.refKey)=false:=by
   rw [List.any_eq_false];intro y hy;obtain ⟨z,t,hkey⟩:=hk y (Array.mem_toList_iff.mp hy);simp [DictEntry.refKey,hkey]
  have a':¬ es.toList.any (·.refKey)=true:=by rw [a];exact FS
  rw [Fh a'];exact congrArg some e
theorem ObjM.look {x:Addr}(I:ObjM h x dx C mA):∃ od,W.InstAt h x (W.instObj C dx) C (some od)/\∀ name,W.lookIn name od=some (mA name):=
 let ⟨od,ho,hl⟩:=WG I.ns
 ⟨od,⟨I.obj,rfl,rfl,ho⟩,hl⟩
section
variable {prog:Program} {w:World} {A:Around} {E:Value->Shared->Prop} {s:Shared} {K:W.Frag} {x dx C f:Addr} {mA:Str->Option Value} {name:Str} {v:Value}
theorem Bc {expr:Bool}{Q:Value->Shared->Prop}(X:K.In s.heap) (I:ObjM s.heap x dx C mA) (hg:W.plainGet K C name=true) (hh:W.hasDictIn K C=true)
  (ha:W.findIn K (.ref C) name=some none) (hv:mA name=some v) (hv':W.handedIn v=true) (h:Q v { s with toks:=s.toks+1 }) :
  wpAny (model prog w) A (getAttr (.ref x) name expr) Q E s:=by
 obtain ⟨od,J,hl⟩:=I.look;exact W.get_value X J (W.plainGet_of hg).1 (W.findObj_own hh ha rfl (by rw [hl,hv])) hv' h
theorem MG {Q:Value×List Value->Shared->Prop}(X:K.In s.heap) (I:ObjM s.heap x dx C mA) (hg:W.plainGet K C name=true)
  (hf:W.findIn K (.ref C) name=some (some (.ref f))) (ht:W.isFn K (.ref f)=true) (hv:mA name=none) (h:Q (.ref f,[.ref x]) s) :
  wpAny (model prog w) A (getMethod (.ref x) name pl) Q E s:=by
 obtain ⟨od,J,hl⟩:=I.look;exact W.method_fn X J (W.plainGet_of hg).1 (W.plainGet_of hg).2 hf (beq_iff_eq.mp ht) (by show (W.lookIn name od).map (·.isSome)=some false;rw [hl,hv];rfl) h
theorem Lv {ns:List Str}{Q:Unit->Shared->Prop}(X:K.In s.heap) (I:ObjM s.heap x dx C mA)
  (hs:W.findIn K (.ref C) "__setattr__"=some (some (.builtin "object.__setattr__"))) (hp:W.plainOver K C=true) (ht:W.takerIn K C name=some none) (hh:W.hasDictIn K C=true)
  (hw:PySem.Within mA ns) (hsz:ns.length<=sizeLine)
  (h:∀ h',ObjM h' x dx C (fun y=>if y=name then some v else mA y)->Heap.SameBut dx s.heap h'->Q () { s with heap:=h',toks:=s.toks+2 }) :
  wpAny (model prog w) A (setAttr (.ref x) name v) Q E s:=by
 obtain ⟨od,J,hl⟩:=I.look;refine W.set_plain X J hs (W.osa_open (s:={ s with toks:=s.toks+1 }) (r:=none) X J hp ht fun b=>?_);obtain ⟨cd,hc,hd'⟩:=W.any_some hh;have hx:s.heap.get? x=some ⟨.ref C,some dx,.plain,#[]⟩:=I.obj;refine Fg (Fs (Fg (Fg (wpAny_loadPart hx (Fg (W.Looks.here (s:={ s with toks:=s.toks+1 }) (W.looks_clsIn X hc) ?_))))));rw [hd'];refine Fs (a:=some dx) (Fg (Fs (Fg ?_)));refine wpAny_nsSet1 (s:={ s with toks:=s.toks+1 }) I.ns fun h' hn2 hs2=>?_
 obtain ⟨oD,esD,epD,hoD,hdD,hcD⟩:=hn2.count (Within.cons name v hw);refine Fg (wpAny_lookBehind hoD (by rw [hdD];exact pastItsLine_dict (FR hcD (by rw [El];omega))) ?_);exact Fs (h _ ⟨(hs2.2 _ (Ea I.ne)).trans I.obj,hn2,I.ne⟩ hs2)
theorem Mo {R:Result->Shared->Prop}{vs:List Value}(X:K.In s.heap) (hm:W.makesIn K C=true)
  (hi:W.findIn K (.ref C) "__init__"=some (some (.ref f))) (hf:W.typeIn K (.ref f)=some (.type "function"))
  (h:codeAny (model prog w) (A.under (.builtin "type.__call__" ⟨.ref C :: vs,kw⟩)) (.call (.ref f) ⟨.ref (s.heap.objs.size+1) :: vs,kw⟩) (W.InitBack (s.heap.objs.size+1) R)
   { s with heap:=(s.heap.push W.emptyDict).push (W.instObj C s.heap.objs.size) }) :
  codeAny (model prog w) A (.call (.ref C) ⟨vs,kw⟩) R s:=by
 obtain ⟨hh,g,d,t,os⟩:=s;exact W.make_core (W.makes_of X hm) (W.looks_findIn X hi) (fun self=>W.bind_fn X self hf) (.inl rfl) h
end
def QX (f:Str) (v:V):List (Str×V)->List (Str×V)
 | []=>[(f,v)]
 | (g,x) :: r=>if g=f then (g,v) :: r else (g,x) :: QX f v r
theorem Ql (f g:Str) (v:V):∀ fs:List (Str×V),(QX f v fs).lookup g=if g=f then some v else fs.lookup g
 | []=>by
  show List.lookup g [(f,v)]=_;by_cases h:g=f
  ·have hb:(g == f)=true:=beq_iff_eq.mpr h;simp only [List.lookup,hb,Fk h]
  ·have hb:(g == f)=false:=beq_eq_false_iff_ne.mpr h;simp only [List.lookup,hb,Fh h]
 | (k,x) :: r=>by
  have ih:=Ql f g v r;rw [show QX f v ((k,x) :: r)=(if k=f then (k,v) :: r else (k,x) :: QX f v r) from rfl];by_cases hk:k=f
  ·rw [Fk hk];by_cases h:g=k
   ·have hb:(g == k)=true:=beq_iff_eq.mpr h;simp only [List.lookup,hb,Fk (h.trans hk)]
   ·have hb:(g == k)=false:=beq_eq_false_iff_ne.mpr h;simp only [List.lookup,hb,Fh (fun e:g=f=>h (e.trans hk.symm))]
  ·rw [Fh hk];by_cases h:g=k
   ·have hb:(g == k)=true:=beq_iff_eq.mpr h;simp only [List.lookup,hb,Fh (fun e:g=f=>hk (h.symm.trans e))]
   ·have hb:(g == k)=false:=beq_eq_false_iff_ne.mpr h;simp only [List.lookup,hb];exact ih
theorem XE (f:Str) (v:V):∀ fs:List (Str×V),f∈(QX f v fs).map (·.1)/\∀ g,g∈fs.map (·.1)->g∈(QX f v fs).map (·.1)
 | []=>⟨by simp [QX],fun g h=>by simp at h⟩
 | (k,x) :: r=>by
  obtain ⟨i1,i2⟩:=XE f v r;rw [show QX f v ((k,x) :: r)=(if k=f then (k,v) :: r else (k,x) :: QX f v r) from rfl];by_cases hk:k=f
  ·rw [Fk hk];subst hk;exact ⟨by simp,fun g h=>by simpa using h⟩
  ·rw [Fh hk];refine ⟨?_,fun g h=>?_⟩
   ·rw [F3];exact FZ _ i1
   ·rw [F3] at h ⊢;rcases FF.mp h with e | e
    ·exact FF.mpr (.inl e)
    ·exact FZ _ (i2 g e)
theorem WX (f:Str) (v:V):∀ fs:List (Str×V),(QX f v fs).length<=fs.length+1
 | []=>by simp [QX]
 | (k,x) :: r=>by
  have ih:=WX f v r;rw [show QX f v ((k,x) :: r)=(if k=f then (k,v) :: r else (k,x) :: QX f v r) from rfl];by_cases hk:k=f
  ·rw [Fk hk,El,El];omega
  ·rw [Fh hk,El,El];omega
theorem RelO.some_of {v:V}{o:Option Value}(r:RelO (some v) o):∃ u,o=some u/\RelV v u:=by
 cases o with
 | none=>exact (show False from r).elim
 | some u=>exact ⟨u,rfl,r⟩
theorem RelO.none_of {o:Option Value}(r:RelO none o):o=none:=by
 cases o with
 | none=>rfl
 | some u=>exact (show False from r).elim
theorem Km {v:V}(r:RelV v u):W.handedIn u=true:=by
 cases v with
 | non=>cases (show u=Value.none from r);rfl
 | bl b=>cases (show u=Value.bool b from r);rfl
 | int i=>obtain ⟨t,e⟩:=(show ∃ t,u=Value.int i t from r);cases e;rfl
 | str x=>obtain ⟨t,e⟩:=(show ∃ t,u=Value.str x t from r);cases e;rfl
 | byt b=>obtain ⟨t,e⟩:=(show ∃ t,u=Value.bytes b t from r);cases e;rfl
 | flt b=>obtain ⟨t,e⟩:=(show ∃ t,u=Value.float b t from r);cases e;rfl
 | ref a=>cases (show u=Value.ref a from r);rfl
 | ty n=>cases (show u=Value.type n from r);rfl
section
variable {P:Program} {w:World} {H H':Hp} {h h':Heap} {a C dx:Addr} {fs fs':List (Str×V)}
theorem Jf (hok:HOk P w H h) (e:H a=some (.ins C dx fs)):∃ mA,ObjM h a dx C mA/\(∀ f,RelO (fs.lookup f) (mA f))/\PySem.Within mA (fs.map (·.1))/\fs.length<=1000/\H dx=some (.own a):=by
 obtain ⟨d,z,ne,ob,mA,n,r,q⟩:=(show ObjOk P w H h a (.ins C dx fs) from hok a _ e)
 exact ⟨mA,⟨ob,n,ne⟩,r,q,z,d⟩
end
structure Cls (K:W.Frag) (C:Addr):Prop where
 pg:W.plainGet K C Str.empty=true
 hd:W.hasDictIn K C=true
 po:W.plainOver K C=true
 sa:W.findIn K (.ref C) "__setattr__"=some (some (.builtin "object.__setattr__"))
theorem Cls.get (c:Cls K C) (f:Str):W.plainGet K C f=true:=c.pg
def NoAttr (K:W.Frag) (C:Addr) (f:Str):Prop:=W.findIn K (.ref C) f=some none
theorem NoAttr.taker {f:Str}(n:NoAttr K C f):W.takerIn K C f=some none:=by
 unfold W.takerIn;rw [show W.findIn K (.ref C) f=some none from n];rfl
structure M9 (K:W.Frag) (C:Addr) (m:Str) (f:Addr):Prop where
 at_:W.findIn K (.ref C) m=some (some (.ref f))
 fn:W.isFn K (.ref f)=true
 kp:W.keepIn K (.ref f)=true
section
variable {X:Cx} {aq:List (Addr×Obj)} {σ:St} {H:Hp} {s:Shared} {a C dx:Addr} {fs:List (Str×V)} {f:Str} {v:V} {A:Around} {E:Value->Shared->Prop}
theorem Uw {b:Bool}{Q:Value->Shared->Prop}(I:Inv X aq σ H s) (e:H a=some (.ins C dx fs)) (c:Cls X.K C) (n:NoAttr X.K C f) (l:fs.lookup f=some v)
  (h:∀ u s',Inv X aq σ H s'->RelV v u->Q u s'):wpAny (model X.prog X.w) A (getAttr (.ref a) f b) Q E s:=by
 obtain ⟨mA,O,r,_,_,_⟩:=Jf I.hok e;obtain ⟨u,hu,ru⟩:=RelO.some_of (v:=v) (o:=mA f) (by rw [<-l];exact r f);exact Bc I.kIn O (c.get f) c.hd n hu (Km ru) (h u _ (I.tok _) ru)
theorem YF {m:Str}{g:Addr}{Q:Value×List Value->Shared->Prop}(I:Inv X aq σ H s) (e:H a=some (.ins C dx fs)) (c:Cls X.K C) (k:M9 X.K C m g) (l:fs.lookup m=none)
  (h:Q (.ref g,[.ref a]) s):wpAny (model X.prog X.w) A (getMethod (.ref a) m pl) Q E s:=by
 obtain ⟨mA,O,r,_,_,_⟩:=Jf I.hok e;have hn:mA m=none:=RelO.none_of (by rw [<-l];exact r m);exact MG I.kIn O (c.get m) k.at_ k.fn hn h
theorem V7 {y:V}{Q:Unit->Shared->Prop}(I:Inv X aq σ H s) (e:H a=some (.ins C dx fs)) (c:Cls X.K C) (n:NoAttr X.K C f) (hl:fs.length<1000) (ry:RelV y u)
  (h:∀ s',Inv X aq σ (upd H a (.ins C dx (QX f y fs))) s'->Q () s'):wpAny (model X.prog X.w) A (setAttr (.ref a) f u) Q E s:=by
 obtain ⟨mA,O,r,wi,_,ho⟩:=Jf I.hok e;have hz:(fs.map (·.1)).length<=sizeLine:=by rw [Fi,Ew];omega
 refine Lv I.kIn O c.sa c.po n.taker c.hd wi hz fun h' O' sb=>h _ ?_
 have hd:∃ o,h'.get? dx=some o:=let ⟨o,_,_,e',_⟩:=O'.ns;⟨o,e'⟩;refine I.write (x:=a) (e:=dx) (by rw [e];exact True.intro) (.inr ho) (fun b q hb z=>(sb.2 b hb).trans z) hd ?_;refine ⟨by rw [Qj O.ne];exact ho,?_,O.ne,O'.obj,_,O'.ns,fun g=>?_,fun g hg=>?_⟩
 ·have:=WX f y fs;omega
 ·show RelO ((QX f y fs).lookup g) (if g=f then some u else mA g);rw [Ql];by_cases q:g=f
  ·rw [Fk q,Fk q];exact ry
  ·rw [Fh q,Fh q];exact r g
 ·by_cases q:g=f
  ·rw [q];exact (XE f y fs).1
  ·refine (XE f y fs).2 g (wi g fun z=>hg ?_);show (if g=f then some u else mA g)=none;rw [Fh q];exact z
theorem Inv.made (I:Inv X aq σ H s):Inv X aq σ (upd (upd H s.heap.objs.size (.own (s.heap.objs.size+1))) (s.heap.objs.size+1) (.ins C s.heap.objs.size []))
  { s with heap:=(s.heap.push W.emptyDict).push (W.instObj C s.heap.objs.size) }:=by
 have e1:(s.heap.push W.emptyDict).get? s.heap.objs.size=some W.emptyDict:=FY s.heap rfl;have e2:((s.heap.push W.emptyDict).push (W.instObj C s.heap.objs.size)).get? (s.heap.objs.size+1)=some (W.instObj C s.heap.objs.size):=by
  have:=FY (s.heap.push W.emptyDict) (o:=W.instObj C s.heap.objs.size) rfl;rwa [Heap.size_push] at this
 have e3:(s.heap.push W.emptyDict).Ns s.heap.objs.size (fun _=>none):=⟨W.emptyDict,#[],_,e1,rfl,(fun e he=>absurd he (by simp)),fun _=>rfl⟩
 have I1:=I.laid (a:=s.heap.objs.size) (o:=.own (s.heap.objs.size+1)) (h':=s.heap.push W.emptyDict) (t':=s.toks) (fun b u q=>FA _ q) (Fl _) ⟨_,e1⟩;refine I1.laid (a:=s.heap.objs.size+1) (o:=.ins C s.heap.objs.size []) (t':=s.toks) (fun b u q=>FA _ q) (Nat.le_of_eq (Heap.size_push _ _)) ?_;have ne:s.heap.objs.size≠s.heap.objs.size+1:=FD (Dg _);refine ⟨by rw [Qj ne,Qe],F1 _,ne,e2,fun _=>none,(Heap.Ns1.of_empty e3).at fun o q=>FA _ q,fun _=>True.intro,fun y hy=>absurd rfl hy⟩
theorem Gn {e:Expr}{f:Str}{Q:Value->Shared->Prop}(hb:attributeBase e f env (eval e env)=eval e env)
  (h:wpAny (model prog w) A (eval e env) (fun o s₁=>wpAny (model prog w) A (getAttr o f true) Q E s₁) E s):wpAny (model prog w) A (eval (.Attribute e f pos) env) Q E s:=
 Attribute_any_ h (by rw [arm_eval_Attribute,hb])
end
def Lp (K:W.Frag) (ta:TE) (f:Str):TE:=fun σ H Q=>ta σ H fun x H1=>∃ a C dx fs v,x=.ref a/\H1 a=some (.ins C dx fs)/\Cls K C/\NoAttr K C f/\fs.lookup f=some v/\Q v H1
def Lx (K:W.Frag) (ta tv:TE) (f:Str):TS:=fun D σ H=>tv σ H fun y H1=>ta σ H1 fun x H2=>∃ a C dx fs,x=.ref a/\H2 a=some (.ins C dx fs)/\Cls K C/\NoAttr K C f/\fs.length<1000 /\
 D.nx σ (upd H2 a (.ins C dx (QX f y fs)))
section
variable {X:Cx} {o e value:Expr} {f:Str} {pos pos' tpos:Pos} {ta tv:TE}
theorem RS (he:PE X e ta) (hb:attributeBase e f X.env (eval e X.env)=eval e X.env):PE X (.Attribute e f pos) (Lp X.K ta f):=by
 intro aq s σ H Q I h;refine Gn hb (thn (he aq s σ H _ I h) fun u s1 ⟨x,H1,I1,rx,a,C,dx,fs,v,ex,ea,c,n,l,q⟩=>?_);subst ex;obtain rfl:u=Value.ref a:=rx;exact Uw I1 ea c n l fun u' s2 I2 ru=>⟨v,H1,I2,ru,q⟩
theorem RM (ha:PE X o ta) (hv:PE X value tv) (hs:swapsWith value (some (.Attribute o f pos')) pos.line X.env=pure false):PS X (.Assign [.Attribute o f pos'] value pos) (Lx X.K ta tv f):=by
 intro aq s σ H D I h;refine Dw (thn (hv aq s σ H _ I h) fun u s1 ⟨y,H1,I1,ry,q⟩=>thn (ha aq s1 σ H1 _ I1 q) fun ov s2 ⟨x,H2,I2,rx,a,C,dx,fs,ex,ea,c,n,l,q2⟩=>?_) hs;subst ex;obtain rfl:ov=Value.ref a:=rx;exact V7 I2 ea c n l ry fun s3 I3=>⟨σ,_,I3,q2⟩
theorem BQ {m:Str}{apos:Pos}{args:List Expr}{σ:St}{H:Hp}{Q:Value->Shared->Prop}{te:TE}(he:PE X e te) (I:Inv X aq σ H s)
  (h:te σ H fun x H1=>∃ a C dx fs g,x=.ref a/\H1 a=some (.ins C dx fs)/\Cls X.K C/\M9 X.K C m g/\fs.lookup m=none /\
   ∀ s1,Inv X aq σ H1 s1->wpAny (model X.prog X.w) X.A (callWith pos (.ref g) [.ref a] (backTo pos (starEach args X.env)) (backToKw pos (keywordEach [] X.env))) Q X.xe s1)
  (ht:eval (.Call (.Attribute e m apos) args [] pos) X.env=(do
   let ov <-eval e X.env
   standAt apos.atName
   let (f,first) <-holding [ov] (getMethod ov m pl)
   callWith pos f first (backTo pos (starEach args X.env)) (backToKw pos (keywordEach [] X.env)))) :
  wpAny (model X.prog X.w) X.A (eval (.Call (.Attribute e m apos) args [] pos) X.env) Q X.xe s:=by
 refine W.methodCall_KW (pl:=pl) (thn (he aq s σ H _ I h) fun u s1 ⟨x,H1,I1,rx,a,C,dx,fs,g,ex,ea,c,k,l,q⟩=>?_) ht;subst ex;obtain rfl:u=Value.ref a:=rx;exact YF I1 ea c k l (q s1 I1)
end
section
variable {X:Cx} {aq:List (Addr×Obj)} {σ:St} {H:Hp} {s:Shared} {A:Around} {E:Value->Shared->Prop} {Q:Value->Shared->Prop} {c:Value} {b:Bool}
inductive TyOf (K:W.Frag) (H:Hp):V->Value->Prop where
 | non:TyOf K H .non (.type "NoneType")
 | bl (x:Bool):TyOf K H (.bl x) (.type "bool")
 | int (i:Int):TyOf K H (.int i) (.type "int")
 | str (x:Str):TyOf K H (.str x) (.type "str")
 | flt (x:UInt64):TyOf K H (.flt x) (.type "float")
 | lst {a:Addr} {xs:List V} (e:H a=some (.lst xs)):TyOf K H (.ref a) (.type "list")
 | frz {a:Addr} {o:Obj} {xs:List V} (e:H a=some (.frz o (.lst xs))):TyOf K H (.ref a) (.type "list")
 | tup {a:Addr} {xs:List V} (e:H a=some (.tup xs)):TyOf K H (.ref a) (.type "tuple")
 | dK {a:Addr} {kvs:List (Key×V)} (e:H a=some (.dK kvs)):TyOf K H (.ref a) (.type "dict")
 | dT {a:Addr} {kvs:List (List Key×V)} (e:H a=some (.dT kvs)):TyOf K H (.ref a) (.type "dict")
 | ins {a C dx:Addr} {fs:List (Str×V)} (e:H a=some (.ins C dx fs)) (cl:Cls K C) (ha:W.findIn K (.ref C) "__class__"=some (some (.builtin "object.__class__")))
   (hn:W.specialIn K (.builtin "object.__class__") "__get__"=some (some (.builtin "getset_descriptor.__get__"))) (htk:W.takesIn K (.builtin "object.__class__")=some true)
   (hm:W.mroIn K C (.type "object")=some true):TyOf K H (.ref a) (.ref C)
theorem G2 {x:V}{t:Value}(I:Inv X aq σ H s) (rx:RelV x u) (ty:TyOf X.K H x t) (e:W.kitOne X.K t c=some b) (h:∀ tk,Q (.bool b) { s with toks:=tk }) :
  wpAny (model X.prog X.w) A (call (.builtin "isinstance") [u,c]) Q E s:=by
 cases ty with
 | non=>cases (show u=Value.none from rx);exact W.kia_one W.kitx_none I.kIn True.intro e (fun z=>nomatch z) h
 | bl y=>cases (show u=Value.bool y from rx);exact W.kia_one W.kitx_bool I.kIn True.intro e (fun z=>nomatch z) h
 | int i=>obtain ⟨t,q⟩:=(show ∃ t,u=Value.int i t from rx);cases q;exact W.kia_one W.kitx_int I.kIn True.intro e (fun z=>nomatch z) h
 | str y=>obtain ⟨t,q⟩:=(show ∃ t,u=Value.str y t from rx);cases q;exact W.kia_one W.kitx_str I.kIn True.intro e (fun z=>nomatch z) h
 | flt y=>obtain ⟨t,q⟩:=(show ∃ t,u=Value.float y t from rx);cases q;exact W.kia_one W.kitx_float I.kIn True.intro e (fun z=>nomatch z) h
 | @lst a xs ea=>
  cases (show u=Value.ref a from rx);obtain ⟨_,_,n,_,h1⟩:=(show ObjOk X.prog X.w H s.heap a (.lst xs) from I.hok a _ ea)
  exact W.kia_one W.kitx_list I.kIn ⟨_,h1,rfl⟩ e (fun z=>nomatch z) h
 | @frz a ob xs ea=>
  cases (show u=Value.ref a from rx);obtain ⟨_,_,_,n,_,h1⟩:=(show ObjOk X.prog X.w H s.heap a (.frz ob (.lst xs)) from I.hok a _ ea)
  exact W.kia_one W.kitx_list I.kIn ⟨_,h1,rfl⟩ e (fun z=>nomatch z) h
 | @tup a xs ea=>
  cases (show u=Value.ref a from rx);obtain ⟨_,_,_,p⟩:=(show ObjOk X.prog X.w H s.heap a (.tup xs) from I.hok a _ ea)
  obtain ⟨o,h1,h2,_⟩:=p;exact W.kia_one W.kitx_tuple I.kIn ⟨o,h1,h2⟩ e (fun z=>nomatch z) h
 | @dK a kvs ea=>
  cases (show u=Value.ref a from rx);obtain ⟨_,_,vs,_,p⟩:=(show ObjOk X.prog X.w H s.heap a (.dK kvs) from I.hok a _ ea)
  obtain ⟨o,es,ep,h1,h2,_⟩:=p;exact W.kia_one W.kitx_dict I.kIn ⟨o,h1,h2.1⟩ e (fun z=>nomatch z) h
 | @dT a kvs ea=>
  cases (show u=Value.ref a from rx);obtain ⟨_,_,xs,_,o,es,ep,h1,h2,_⟩:=(show ObjOk X.prog X.w H s.heap a (.dT kvs) from I.hok a _ ea)
  exact W.kia_one W.kitx_dict I.kIn ⟨o,h1,h2.1⟩ e (fun z=>nomatch z) h
 | @ins a C dx fs ea cl ha hn htk hm=>
  cases (show u=Value.ref a from rx);obtain ⟨mA,O,_⟩:=Jf I.hok ea;obtain ⟨od,J,_⟩:=O.look;exact W.kia_one (W.kitx_own (cl.get _) cl.hd ha hn htk hm) I.kIn J e (fun z=>nomatch z) h
end
structure Room (k:Nat) (A:Around):Prop where
 hd:A.handled=none
 dp:A.depth+3*k+5<recursionLimit
 un:A.units+16*k+200<cLine
theorem Room.mono {k:Nat}(r:Room k A) (h:j<=k):Room j A:=⟨r.hd,by have:=r.dp;omega,by have:=r.un;omega⟩
theorem hrm {k:Nat}(h:Room k A) (e:j<=k:=by decide):Room j A:=h.mono e
theorem Room.deeper {k:Nat}(r:Room (k+1) A) (env:Env):Room k (A.deeper env):=
 ⟨r.hd,by have:=r.dp;show A.depth+1+3*k+5<_;omega,by have:=r.un;show A.units+3+16*k+200<_;omega⟩
theorem Up:(A.under (.builtin "type.__call__" ⟨.ref C :: us,kw⟩)).depth=A.depth+1:=by
 first | rfl | simp [Around.under,Code.weight,Code.isCreation,Code.isGuard,Code.isCaller,Code.frames,Code.isFrame,guardIds]
theorem Uo:(A.under (.builtin "type.__call__" ⟨.ref C :: us,kw⟩)).units=A.units+1:=by
 first | rfl | simp [Around.under,Code.cUnits,Code.frames,Code.isFrame]
theorem Room.make {k:Nat}(r:Room (k+1) A) (C:Addr) (us:List Value) (kw:List (Str×Value)):Room k (A.under (.builtin "type.__call__" ⟨.ref C :: us,kw⟩)):=
 ⟨r.hd,by have:=r.dp;rw [Up];omega,by have:=r.un;rw [Uo];omega⟩
theorem Room.depth {k:Nat}(r:Room k A):A.depth<recursionLimit:=by have:=r.dp;omega
theorem Room.units {k:Nat}(r:Room k A):A.units+64<cLine:=by have:=r.un;omega
def Lo:TA:=fun _ H Q=>Q [] H
def BL (ta:TE) (tr:TA):TA:=fun σ H Q=>ta σ H fun x H1=>tr σ H1 fun xs H2=>Q (x :: xs) H2
section
variable {X:Cx} {e:Expr} {es:List Expr} {te:TE} {t:TA} {pos:Pos}
theorem Qc:PA X [] Lo:=fun _ _ _ _ H Q I h=>Calls.spliced_nil ⟨[],H,I,.nil,h⟩
theorem Qa (ha:PE X e te) (hr:PA X es t) (hs:starEach (e :: es) X.env=(false,eval e X.env) :: starEach es X.env:=by rfl):PA X (e :: es) (BL te t):=by
 intro pos aq s σ H Q I h;rw [hs];show wpAny _ _ (spliced ((false,eval e X.env) :: backTo pos (starEach es X.env))) _ _ s;refine Calls.spliced_cons (thn (ha aq s σ H _ I h) fun u s1 ⟨x,H1,I1,r1,q1⟩=>?_);exact thn (hr pos aq s1 σ H1 _ I1 q1) fun us s2 ⟨xs,H2,I2,r2,q2⟩=>⟨x :: xs,H2,I2,.cons r1 r2,q2⟩
def Sf (t:TA):TE:=fun σ H Q=>t σ H fun xs H1=>xs.length<=sizeLine/\∀ p,H1 p=none->Q (.ref p) (upd H1 p (.tup xs))
def Sj (t:TA):TE:=fun σ H Q=>t σ H fun xs H1=>xs.length<=sizeLine/\∀ p,H1 p=none->Q (.ref p) (upd H1 p (.lst xs))
theorem QA {x1}(h:PA X es t):PE X (.Tuple es x1 pos) (Sf t):=by
 intro aq s σ H Q I hq;refine wpAny_Tuple_spliced (thn (h pos aq s σ H _ I hq) fun us s1 ⟨xs,H1,I1,r,z,q⟩=>⟨by rw [<-r.length];exact z,?_⟩);have hf:H1 s1.heap.objs.size=none:=I1.hok.fresh (Fl _);refine ⟨.ref s1.heap.objs.size,upd H1 s1.heap.objs.size (.tup xs),I1.laid (t':=s1.toks) (fun b u e=>FA _ e) (Fl _) ?_,rfl,q _ hf⟩;exact ⟨z,us,r,⟨_,FY _ rfl,rfl,_,rfl⟩⟩
theorem QB (h:PA X es t):PE X (.List es pos) (Sj t):=by
 intro aq s σ H Q I hq;refine wpAny_List_spliced (thn (h pos aq s σ H _ I hq) fun us s1 ⟨xs,H1,I1,r,z,q⟩=>⟨by rw [<-r.length];exact z,?_⟩);have hf:H1 s1.heap.objs.size=none:=I1.hok.fresh (Fl _);refine ⟨.ref s1.heap.objs.size,upd H1 s1.heap.objs.size (.lst xs),I1.laid (t':=s1.toks) (fun b u e=>FA _ e) (Fl _) ?_,rfl,q _ hf⟩;exact ⟨z,us,0,r,FY _ rfl⟩
end
abbrev Sp:=List V->Hp->VK->XK->Prop
abbrev CXT:=List Env->Hp->Shared->XK->Value->Shared->Prop
structure Env0 (P:Program) (w:World) (K:W.Frag) (mg:Str->Option Value) (base:Heap) (A:Around) (outer:List Env) (s:Shared) (H:Hp):Prop where
 frames:A.frames=some outer
 mod:Mod K mg base
 bs:∀ b o,base.get? b=some o->s.heap.get? b=some o/\H b=none
 bsz:base.objs.size<=s.heap.objs.size
 funs:s.heap.FunFrames base outer
 frf:∀ b∈frs outer,H b=none
 hok:HOk P w H s.heap
 bare:AllBare s.gens
def CE (outer:List Env) (P:Program) (w:World) (H:Hp) (s:Shared) (Q:VK) (u:Value) (s':Shared):Prop:=
 ∃ v H',s'.os=s.os/\AllBare s'.gens/\Un (frs outer) [] H H' s.heap s'.heap/\HOk P w H' s'.heap/\RelV v u/\Q v H'
def CR (CX:CXT) (outer:List Env) (P:Program) (w:World) (H:Hp) (s:Shared) (Q:VK) (E:XK) (r:Result) (s':Shared):Prop:=
 match r with
 | .ok (.ret u)=>CE outer P w H s Q u s'
 | .ok _=>False
 | .error e=>CX outer H s E e s'
structure FnOk (P:Program) (w:World) (K:W.Frag) (mg:Str->Option Value) (base:Heap) (CX:CXT) (k:Nat) (f:Addr) (fd:FuncData) (ps:List Str) (sp:Sp):Prop where
 len:∀ vs H Q E,sp vs H Q E->vs.length=ps.length
 run:∀ (A:Around) (outer:List Env) (s:Shared) (H:Hp) (args:Args) (us:List Value) (vs:List V) (Q:VK) (E:XK),Room k A->Env0 P w K mg base A outer s H->BindsTo s fd args (ps.zip us)->Vals vs us->sp vs H Q E ->
  codeAny (model P w) A (.call (.ref f) args) (CR CX outer P w H s Q E) s
theorem FnOk.imp {CX:CXT}{k:Nat}{sp sp':Sp}(F:FnOk P w K mg base CX k f fd ps sp)
  (h:∀ vs H Q E,sp' vs H Q E->sp vs H Q E):FnOk P w K mg base CX k f fd ps sp':=
 ⟨fun vs H Q E q=>F.len vs H Q E (h _ _ _ _ q),fun A outer s H args us vs Q E hr he hb hv hs=>F.run A outer s H args us vs Q E hr he hb hv (h _ _ _ _ hs)⟩
theorem Env0.make {H:Hp}(e:Env0 P w K mg base A outer s H) (C:Addr) (us:List Value) (kw:List (Str×Value)) :
  Env0 P w K mg base (A.under (.builtin "type.__call__" ⟨.ref C :: us,kw⟩)) outer s H:=⟨by first | exact e.frames | (simpa [Around.under,Code.envs,Code.isFrame,pushEnvs] using e.frames),e.mod,e.bs,e.bsz,e.funs,e.frf,e.hok,e.bare⟩
section
variable {X:Cx} {aq:List (Addr×Obj)} {σ:St} {H:Hp} {s s':Shared}
theorem Inv.env0 (I:Inv X aq σ H s):Env0 X.prog X.w X.K X.mg X.base X.A X.stack s H:=
 ⟨I.ok.frames,I.ok.mod,I.bs,FR I.ok.bsz I.sz,I.stack,I.stkFree,I.hok,I.bare⟩
theorem Inv.after {Q:VK}(I:Inv X aq σ H s) (h:CE X.stack X.prog X.w H s Q u s'):EP X aq σ Q u s':=by
 obtain ⟨v,H',os,bare,un,hok,r,q⟩:=h;obtain ⟨hh,g,d,t,os'⟩:=s';obtain rfl:os'=s.os:=os;exact ⟨v,H',I.call (h':=hh) (g':=g) (d':=d) (t':=t) (ch:=[]) un hok bare (fun b z=>absurd z (by simp)),r,q⟩
end
def Vw (sp:Sp) (dvs:List V) (E:XK) (t:TA):TE:=fun σ H Q=>t σ H fun vs H1=>sp (vs++dvs) H1 Q E
def Vu (C:Addr) (m:Str) (sp:Sp) (dvs:List V) (E:XK) (ta:TE) (t:TA):TE:=fun σ H Q=>ta σ H fun x H1=>∃ a dx fs,x=.ref a/\H1 a=some (.ins C dx fs)/\fs.lookup m=none /\
 t σ H1 fun vs H2=>sp (x :: (vs++dvs)) H2 Q E
def WV (C:Addr) (sp:Sp) (dvs:List V) (E:XK) (t:TA):TE:=fun σ H Q=>t σ H fun vs H1=>∀ x dx,H1 x=none->H1 dx=none->dx≠x ->
 sp (.ref x :: (vs++dvs)) (upd (upd H1 dx (.own x)) x (.ins C dx [])) (fun v H2=>v=.non/\Q (.ref x) H2) E
def Binds (K:W.Frag) (fd:FuncData) (ps:List Str) (ds:List Value):Prop:=
 ∀ (s:Shared) (us:List Value),K.In s.heap->(us++ds).length=ps.length->BindsTo s fd ⟨us,[]⟩ (ps.zip (us++ds))
theorem Binds.all (h:∀ us:List Value,us.length=ps.length->bindArgs fd ⟨us,[]⟩=pure (ps.zip us)):Binds K fd ps []:=fun s us _ hl=>by
 rw [Ed] at hl ⊢;exact .of_eq (h us hl)
def XX (CX:CXT) (X:Cx) (E:XK):Prop:=∀ (aq:List (Addr×Obj)) (σ:St) (H:Hp) (s:Shared) (e:Value) (s':Shared),Inv X aq σ H s->CX X.stack H s E e s'->X.xe e s'
section
variable {X:Cx} {CX:CXT} {k:Nat} {f C:Addr} {fd:FuncData} {ps:List Str} {sp:Sp} {dvs:List V} {ds:List Value} {E:XK} {x m:Str} {p pos apos:Pos} {e o:Expr} {es:List Expr} {ta:TE} {t:TA}
theorem Ub {σ:St}{H:Hp}{Q:VK}{vs:List V}(F:FnOk X.prog X.w X.K X.mg X.base CX k f fd ps sp) (hr:Room k X.A) (hb:Binds X.K fd ps ds) (hd:Vals dvs ds) (hx:XX CX X E)
  (I:Inv X aq σ H s) (r:Vals vs us) (h:sp (vs++dvs) H Q E):wpAny (model X.prog X.w) X.A (call (.ref f) us) (EP X aq σ Q) X.xe s:=by
 have r2:Vals (vs++dvs) (us++ds):=r.append hd;have hl:(us++ds).length=ps.length:=by rw [<-r2.length];exact F.len _ _ _ _ h
 refine wpAny_call (EK (F.run X.A X.stack s H ⟨us,[]⟩ (us++ds) (vs++dvs) Q E hr I.env0 (hb s us I.kIn hl) r2 h) fun r s' hq=>?_);cases r with
 | error e=>exact hx aq σ H s e s' I hq
 | ok fl=>
  cases fl with
  | ret u=>exact I.after hq
  | next=>exact False.elim hq
  | brk=>exact False.elim hq
  | cont=>exact False.elim hq
theorem US (F:FnOk X.prog X.w X.K X.mg X.base CX k f fd ps sp) (hr:Room k X.A) (hg:Gl X x) (hm:X.mg x=some (.ref f)) (hk:W.keepIn X.K (.ref f)=true) (hb:Binds X.K fd ps ds) (hd:Vals dvs ds) (hx:XX CX X E)
  (ha:PA X (e :: es) t) (hdb:(x == ("__debug__":Str))=false:=by decide) (he:starEach (e :: es) X.env=(false,eval e X.env) :: starEach es X.env:=by rfl) (hpl:(backTo pos (starEach es X.env)).any (·.1)=false:=by rfl) :
  PE X (.Call (.Name x p) (e :: es) [] pos) (Vw sp dvs E t):=by
 intro aq s σ H Q I h;refine EY (XT I hg hm ?_ hdb);refine W.callWith_K (h₀:=X.base) I.ok.mod.kin hk (thn (ha pos aq s σ H _ I h) fun us s1 ⟨vs,H1,I1,r,q⟩=>⟨I1.kIn,?_⟩) he hpl;exact Ub F hr hb hd hx I1 r q
theorem LN (he:PE X o ta) (c:Cls X.K C) (hm:M9 X.K C m f) (F:FnOk X.prog X.w X.K X.mg X.base CX k f fd ps sp) (hr:Room k X.A) (hb:Binds X.K fd ps ds) (hd:Vals dvs ds) (hx:XX CX X E) (ha:PA X (e :: es) t)
  (hst:starEach (e :: es) X.env=(false,eval e X.env) :: starEach es X.env:=by rfl) (hpl:(backTo pos (starEach es X.env)).any (·.1)=false:=by rfl)
  (ht:eval (.Call (.Attribute o m apos) (e :: es) [] pos) X.env=(do
   let ov <-eval o X.env
   standAt apos.atName
   let (f,first) <-holding [ov] (getMethod ov m pl)
   callWith pos f first (backTo pos (starEach (e :: es) X.env)) (backToKw pos (keywordEach [] X.env))):=by rfl) :
  PE X (.Call (.Attribute o m apos) (e :: es) [] pos) (Vu C m sp dvs E ta t):=by
 intro aq s σ H Q I h;refine W.methodCall_KW (pl:=pl) (thn (he aq s σ H _ I h) fun u s1 ⟨x,H1,I1,rx,a,dx,fs,ex,ea,l,q⟩=>?_) ht;subst ex;obtain rfl:u=Value.ref a:=rx;refine YF I1 ea c hm l ?_;refine W.callWith_K (first:=[.ref a]) (h₀:=X.base) I.ok.mod.kin hm.kp (thn (ha pos aq s1 σ H1 _ I1 q) fun us s2 ⟨vs,H2,I2,r,q2⟩=>⟨I2.kIn,?_⟩) hst hpl;exact Ub (us:=.ref a :: us) (vs:=.ref a :: vs) F hr hb hd hx I2 (.cons rfl r) q2
theorem N7 (he:PE X o ta) (c:Cls X.K C) (hm:M9 X.K C m f) (F:FnOk X.prog X.w X.K X.mg X.base CX k f fd ps sp) (hr:Room k X.A) (hb:Binds X.K fd ps ds) (hd:Vals dvs ds) (hx:XX CX X E)
  (ht:eval (.Call (.Attribute o m apos) [] [] pos) X.env=(do
   let ov <-eval o X.env
   standAt apos.atName
   let (f,first) <-holding [ov] (getMethod ov m pl)
   callWith pos f first (backTo pos (starEach [] X.env)) (backToKw pos (keywordEach [] X.env))):=by rfl) :
  PE X (.Call (.Attribute o m apos) [] [] pos) (Vu C m sp dvs E ta Lo):=by
 intro aq s σ H Q I h;refine W.methodCall_KW (pl:=pl) (thn (he aq s σ H _ I h) fun u s1 ⟨x,H1,I1,rx,a,dx,fs,ex,ea,l,q⟩=>?_) ht;subst ex;obtain rfl:u=Value.ref a:=rx;refine YF I1 ea c hm l ?_;exact W.callWith_K0 (first:=[.ref a]) I1.kIn hm.kp (Ub (us:=[.ref a]) (vs:=[.ref a]) F hr hb hd hx I1 (.cons rfl .nil) q)
structure Mk (K:W.Frag) (C f:Addr):Prop where
 makes:W.makesIn K C=true
 init:W.findIn K (.ref C) "__init__"=some (some (.ref f))
 fn:W.isFn K (.ref f)=true
 kp:W.keepIn K (.ref C)=true
theorem NN {σ:St}{H:Hp}{Q:VK}{vs:List V}(M:Mk X.K C f) (F:FnOk X.prog X.w X.K X.mg X.base CX k f fd ps sp) (hr:Room (k+1) X.A) (hb:Binds X.K fd ps ds) (hd:Vals dvs ds)
  (hx:XX CX X E) (I:Inv X aq σ H s) (r:Vals vs us)
  (h:∀ x dx,H x=none->H dx=none->dx≠x->sp (.ref x :: (vs++dvs)) (upd (upd H dx (.own x)) x (.ins C dx [])) (fun v H2=>v=.non/\Q (.ref x) H2) E) :
  wpAny (model X.prog X.w) X.A (call (.ref C) us) (EP X aq σ Q) X.xe s:=by
 have hq:=h (s.heap.objs.size+1) s.heap.objs.size (I.hok.fresh (Em _)) (I.hok.fresh (Fl _)) (FD (Dg _));have I2:=Inv.made (C:=C) I;have r2:Vals (V.ref (s.heap.objs.size+1) :: (vs++dvs)) (Value.ref (s.heap.objs.size+1) :: (us++ds)):=.cons rfl (r.append hd);have hl:(Value.ref (s.heap.objs.size+1) :: us++ds).length=ps.length:=by
  have e:=r2.length;rw [F.len _ _ _ _ hq] at e;exact e.symm
 refine wpAny_call (Mo (f:=f) I.kIn M.makes M.init (beq_iff_eq.mp M.fn) (EK (F.run _ X.stack _ _ ⟨Value.ref (s.heap.objs.size+1) :: us,[]⟩ (Value.ref (s.heap.objs.size+1) :: (us++ds)) _ _ E (hr.make C us [])
  (I2.env0.make C us []) (hb _ (Value.ref (s.heap.objs.size+1) :: us) I2.kIn hl) r2 hq) fun r s' hq'=>?_))
 cases r with
 | error e=>exact hx aq σ _ _ e s' I2 hq'
 | ok fl=>
  cases fl with
  | ret u=>
   obtain ⟨v,H',I3,rv,ev,q3⟩:=I2.after hq';subst ev;exact ⟨rv,⟨V.ref (s.heap.objs.size+1),H',I3,rfl,q3⟩⟩
  | next=>exact False.elim hq'
  | brk=>exact False.elim hq'
  | cont=>exact False.elim hq'
theorem LO (M:Mk X.K C f) (F:FnOk X.prog X.w X.K X.mg X.base CX k f fd ps sp) (hr:Room (k+1) X.A) (hg:Gl X x) (hm:X.mg x=some (.ref C)) (hb:Binds X.K fd ps ds) (hd:Vals dvs ds) (hx:XX CX X E)
  (ha:PA X (e :: es) t) (hdb:(x == ("__debug__":Str))=false:=by decide) (he:starEach (e :: es) X.env=(false,eval e X.env) :: starEach es X.env:=by rfl) (hpl:(backTo pos (starEach es X.env)).any (·.1)=false:=by rfl) :
  PE X (.Call (.Name x p) (e :: es) [] pos) (WV C sp dvs E t):=by
 intro aq s σ H Q I h;refine EY (XT I hg hm ?_ hdb);refine W.callWith_K (h₀:=X.base) I.ok.mod.kin M.kp (thn (ha pos aq s σ H _ I h) fun us s1 ⟨vs,H1,I1,r,q⟩=>⟨I1.kIn,?_⟩) he hpl;exact NN M F hr hb hd hx I1 r q
end
structure Qo (N P:List Str) (sc:Scope):Prop where
 kind:sc.kind=.function
 co:sc.isCoroutine=false
 gen:sc.isGenerator=false
 nd:N.Nodup
 pre:N.take P.length=P
 par:∀ x∈P,sc.names.lookup x=some .local∨sc.names.lookup x=some .cell
 nofree:∀ y∈sc.names,y.2≠.free
theorem Ku {kindOf:Str->Option NameKind}{x:Str}:∀ {binds:List (Str×Value)}{m:Str->Option Value},(∀ v,(x,v) ∉ binds)->bindL kindOf binds m x=m x
 | [],_,_=>rfl
 | (n,v) :: r,m,h=>by
  unfold bindL;rw [Ku fun w hw=>h w (FZ _ hw)];split
  ·have:x≠n:=by rintro rfl;exact h v FU
   simp [this]
  ·rfl
theorem Kv {kindOf:Str->Option NameKind}{x:Str}:∀ {binds:List (Str×Value)}{m:Str->Option Value},(∀ v,(x,v) ∉ binds)->bindC kindOf binds m x=m x
 | [],_,_=>rfl
 | (n,v) :: r,m,h=>by
  unfold bindC;rw [Kv fun w hw=>h w (FZ _ hw)];split
  ·rfl
  ·have:x≠n:=by rintro rfl;exact h v FU
   simp [this]
theorem WQ {kindOf:Str->Option NameKind}{x:Str}{v:Value}:∀ {P:List Str}{vs:List Value}{i:Nat}{m:Str->Option Value},P.Nodup->P[i]?=some x->vs[i]?=some v->kindOf x=some .local ->
  bindL kindOf (P.zip vs) m x=some v
 | [],_,_,_,_,h,_,_=>by simp at h
 | _ :: _,[],_,_,_,_,h,_=>by simp at h
 | p :: P,w :: vs,0,m,nd,h1,h2,hk=>by
  simp at h1 h2;subst h1;subst h2;show bindL kindOf ((p,w) :: P.zip vs) m p=_;unfold bindL;rw [Ku fun v hv=>(Ex.mp nd).1 (List.of_mem_zip hv).1,Fk hk];simp
 | p :: P,w :: vs,i+1,m,nd,h1,h2,hk=>by
  show bindL kindOf ((p,w) :: P.zip vs) m x=_;unfold bindL;exact WQ (i:=i) (Ex.mp nd).2 (by simpa using h1) (by simpa using h2) hk
theorem WR {kindOf:Str->Option NameKind}{x:Str}{v:Value}:∀ {P:List Str}{vs:List Value}{i:Nat}{m:Str->Option Value},P.Nodup->P[i]?=some x->vs[i]?=some v->kindOf x≠some .local ->
  bindC kindOf (P.zip vs) m x=some v
 | [],_,_,_,_,h,_,_=>by simp at h
 | _ :: _,[],_,_,_,_,h,_=>by simp at h
 | p :: P,w :: vs,0,m,nd,h1,h2,hk=>by
  simp at h1 h2;subst h1;subst h2;show bindC kindOf ((p,w) :: P.zip vs) m p=_;unfold bindC;rw [Kv fun v hv=>(Ex.mp nd).1 (List.of_mem_zip hv).1,Fh hk];simp
 | p :: P,w :: vs,i+1,m,nd,h1,h2,hk=>by
  show bindC kindOf ((p,w) :: P.zip vs) m x=_;unfold bindC;exact WR (i:=i) (Ex.mp nd).2 (by simpa using h1) (by simpa using h2) hk
def start (N:List Str) (vs:List V):St:=vs.map some++List.replicate (N.length-vs.length) none
def Wh (CX:CXT) (P:Program) (w:World) (K:W.Frag) (mg:Str->Option Value) (base:Heap) (N:List Str) (qual:Str) (scope:Scope) (f:Addr) (cd:Value) (A:Around) (outer:List Env) (s:Shared) (H:Hp) (E:XK):Cx where
 prog:=P
 w:=w
 K:=K
 mg:=mg
 base:=base
 A:=A.deeper (envOfC qual scope s.heap.objs.size f cd)
 N:=N
 s₀:=s
 H₀:=H
 env:=envOfC qual scope s.heap.objs.size f cd
 outer:=outer
 stack:=envOfC qual scope s.heap.objs.size f cd :: outer
 ex:=[]
 calm:=true
 fn:=fun _=>true
 pn:=[]
 xe:=fun e s'=>wpAny (model P w) (A.deeper (envOfC qual scope s.heap.objs.size f cd)) (leaving (envOfC qual scope s.heap.objs.size f cd) e) (fun _ s''=>CX outer H s E e s'') (fun e' s''=>CX outer H s E e' s'') s'
theorem Wk {sc:Scope}(h:sc.names.lookup x=some .cell):∃ c,(cellsFrom n sc.names []).lookup x=some c:=by
 have q:=W.cellsFrom_some sc.names n [] (.inl h);exact Option.isSome_iff_exists.mp q
theorem G3 {CX:CXT}{cd:Value}{s1:Shared}{H:Hp}{E:XK}{vs:List V} 
  (S:Qo N ps scope) (hd:A.handled=none) (e0:Env0 P w K mg base A outer s H) (hl:vs.length=ps.length) (r:Vals vs us)
  (x:InCallC s s.heap.objs.size (bindL (envOfC qual scope s.heap.objs.size f cd).kindOf (ps.zip us) fun _=>none) (cellsFrom (s.heap.objs.size+1) scope.names []) (bindC (envOfC qual scope s.heap.objs.size f cd).kindOf (ps.zip us) fun _=>none) s1) :
  Inv (Wh CX P w K mg base N qual scope f cd A outer s H E) [] (start N vs) H s1:=by
 have hpl:ps.length<=N.length:=by have:=congrArg List.length S.pre;rw [FN] at this;omega
 obtain ⟨h1,tk,rfl,hk⟩:=x.done;have noA:∀ b:Addr,b ∉ (Wh CX P w K mg base N qual scope f cd A outer s H E).ex:=fun b z=>absurd (show b∈([]:List Addr) from z) (by simp)
 refine ⟨⟨e0.mod,S.kind,rfl,rfl,Fl _,fun y z c h1 h2=>?_,fun y hy=>?_,fun y c _ h=>?_,fun _=>hd,Around.frames_deeper e0.frames,.inr ⟨rfl,rfl⟩,fun b z=>absurd z (noA b),e0.bs,e0.bsz,fun b _ _=>noA b,fun b z=>absurd z (noA b),e0.funs,e0.frf⟩,
  rfl,e0.bare,Un.kept hk,⟨_,x.toInCall.ns,fun i y v h1 h2 h3=>?_⟩,fun y c h=>⟨_,x.cell y c h⟩,e0.hok.fresh (Fl _),fun y c h=>?_,fun p hp=>absurd (show p∈([]:List (Addr×Obj)) from hp) (by simp),e0.hok.kept hk,?_⟩
 ·exact name_of_addr x.apart (Ey h1) (Ey h2)
 ·have hy:scope.names.lookup y=some .cell∨scope.names.lookup y=some .free:=hy;rcases hy with hy | hy
  ·exact Wk hy
  ·exact absurd rfl (S.nofree _ (Ey hy))
 ·exact E5 (x.above y c (Ey h))
 ·have hi:i<vs.length:=by
   unfold start at h2;by_cases hi:i<vs.length
   ·exact hi
   ·rw [Ee (by simpa using hi)] at h2;rw [List.getElem?_replicate] at h2;split at h2 <;> cases h2
  have ha:vs[i]?=some v:=by
   unfold start at h2;rw [Eh (by simpa using hi),Fv] at h2;cases e:vs[i]? with
   | none=>rw [e] at h2;cases h2
   | some a=>rw [e] at h2;cases h2;rfl
  obtain ⟨u,hu,rv⟩:=r.get ha;have hp:ps[i]?=some y:=by
   rw [<-S.pre,List.getElem?_take_of_lt (by omega)];exact h1
  have ndP:ps.Nodup:=by rw [<-S.pre];exact S.nd.sublist (List.take_sublist _ _)
  refine ⟨u,rv,?_⟩;rcases S.par y (Fu hp) with k | k
  ·exact .inl ⟨k,WQ ndP hp hu k⟩
  ·obtain ⟨c,e⟩:=Wk (n:=s.heap.objs.size+1) k;refine .inr ⟨.inl k,c,e,?_⟩;have q:=x.cell y c e;rw [WR ndP hp hu (by show scope.names.lookup y≠_;rw [k];decide)] at q;exact q
 ·exact e0.hok.fresh (E5 (x.above y c (Ey h)))
 ·unfold start;show _=N.length;rw [Fo,Fi,List.length_replicate];omega
theorem MO {CX:CXT}{k:Nat}{name:Str}{params:Arguments}{dV kV:Value} 
  {osl:Array (Option Value)} {N ps:List Str} {sp:Sp} (lk:K.lookup f=some ⟨oc,od,.func (W.fnOf name qual params body scope dV kV doc pm an cdv ct),osl⟩) (hcd:W.codeIn K cdv qual=true) (S:Qo N ps scope)
  (len:∀ vs H Q E,sp vs H Q E->vs.length=ps.length)
  (hbody:∀ (A:Around) (outer:List Env) (s:Shared) (H:Hp) (vs:List V) (Q:VK) (E:XK),Room k (A.deeper (envOfC qual scope s.heap.objs.size f cdv))->sp vs H Q E ->
   ∃ t,PSs (Wh CX P w K mg base N qual scope f cdv A outer s H E) body t/\t { nx:=fun _ H'=>Q .non H',rt:=Q } (start N vs) H) :
  FnOk P w K mg base CX (k+1) f (W.fnOf name qual params body scope dV kV doc pm an cdv ct) ps sp:=by
 refine ⟨len,fun A outer s H args us vs Q E hr e0 hb r hsp=>?_⟩;have hl:=len _ _ _ _ hsp;have KX:K.In s.heap:=e0.mod.kin.keeps fun b o e=>(e0.bs b o e).1
 have lim:s.heap.NoLimit:=e0.mod.nolimit.keeps fun b o e=>(e0.bs b o e).1
 have hkind:∀ y∈ps.zip us,scope.names.lookup y.1=some .local∨(scope.names.lookup y.1=some .cell/\((cellsFrom (s.heap.objs.size+1) scope.names []).lookup y.1).isSome=true):=fun ⟨n,v⟩ hy=>by
  rcases S.par n (List.of_mem_zip hy).1 with q | q
  ·exact .inl q
  ·exact .inr ⟨q,W.cellsFrom_some _ _ _ (.inl q)⟩
 refine codeAny_call_function hr.depth (KX _ _ lk) rfl S.co S.gen rfl (W.codeRec_of KX hcd) (hb _ _ _ _ ?_);refine wpAny_newFunctionEnv_cells S.kind hkind fun env he s1 x=>?_
 subst he;refine ⟨lim.keeps x.toInCall.keep,codeAny_func ?_⟩;obtain ⟨t,ht,hq⟩:=hbody A outer s H vs Q E (hr.deeper _) hsp;have I:Inv (Wh CX P w K mg base N qual scope f cdv A outer s H E) [] (start N vs) H s1:=G3 S hr.hd e0 hl r x;refine FV (ht [] s1 (start N vs) H _ I hq) (fun fl s' hs=>?_) fun e s' hs=>hs
 have fin:∀ {σ':St} {H':Hp} {v:V} {u:Value},Inv (Wh CX P w K mg base N qual scope f cdv A outer s H E) [] σ' H' s'->RelV v u->Q v H'->CE outer P w H s Q u s':=
  fun {σ' H' v u} J rv q=>⟨v,H',J.os,J.bare,J.base,J.hok,rv,q⟩
 cases fl with
 | ret u=>
  obtain ⟨v,σ',H',J,rv,q⟩:=hs;exact fin J rv q
 | next=>
  obtain ⟨σ',H',J,q⟩:=hs;exact fin (v:=V.non) (u:=Value.none) J rfl q
 | brk=>
  obtain ⟨_,_,_,q⟩:=hs;exact False.elim q
 | cont=>
  obtain ⟨_,_,_,q⟩:=hs;exact False.elim q
section
variable {X:Cx} {x:Str} {p pos:Pos} {e:Expr} {es:List Expr} {t:TA} {id T:String} {r:List V->Hp->VK->Prop}
def tCB (r:List V->Hp->VK->Prop) (t:TA):TE:=fun σ H Q=>t σ H fun vs H1=>r vs H1 Q
theorem Qm (hc:Zx X (.builtin id) r) (hg:Gl X x) (hm:X.mg x=none) (hv:bootBuiltins x=some (.builtin id)) (ha:PA X (e :: es) t) (hn:x≠"__name__":=by decide) (hdb:(x == ("__debug__":Str))=false:=by decide)
  (he:starEach (e :: es) X.env=(false,eval e X.env) :: starEach es X.env:=by rfl) (hpl:(backTo pos (starEach es X.env)).any (·.1)=false:=by rfl):PE X (.Call (.Name x p) (e :: es) [] pos) (tCB r t):=by
 intro aq s σ H Q I h;refine EY (WH I hg hm hv ?_ hn hdb);exact PyProof.Rows.callWith_builtin1 (thn (ha pos aq s σ H _ I h) fun us s1 ⟨vs,H1,I1,r1,q1⟩=>hc aq s1 σ H1 vs us Q I1 r1 q1) he hpl
theorem QK (hc:Zx X (.type T) r) (hg:Gl X x) (hm:X.mg x=none) (hv:bootBuiltins x=some (.type T)) (ha:PA X (e :: es) t) (hn:x≠"__name__":=by decide) (hdb:(x == ("__debug__":Str))=false:=by decide)
  (he:starEach (e :: es) X.env=(false,eval e X.env) :: starEach es X.env:=by rfl) (hpl:(backTo pos (starEach es X.env)).any (·.1)=false:=by rfl):PE X (.Call (.Name x p) (e :: es) [] pos) (tCB r t):=by
 intro aq s σ H Q I h;refine EY (WH I hg hm hv ?_ hn hdb);exact Dp (thn (ha pos aq s σ H _ I h) fun us s1 ⟨vs,H1,I1,r1,q1⟩=>hc aq s1 σ H1 vs us Q I1 r1 q1) he hpl
end
end L2
variable {g:L2.TG}{c v z:L2.V}{xs vs ys ws:List L2.V}{H H' H1 H2:L2.Hp}{E:L2.XK}{Q:L2.VK}{X:L2.Cx}{ta te tl:L2.TE}{tb:L2.TS}{σ σ0:L2.St}{R:L2.It->L2.Hp->Prop}{CX:L2.CXT}{tt:L2.TT}{kvs:List (L2.Key×L2.V)}
namespace HT
open PySem PyProof.Rows
section
variable {prog:Program} {w:World} {A:Around} {E:Value->Shared->Prop} {s:Shared}
def sIx (n d:Nat):Option Int->Nat
 | none=>d
 | some v=>if v<0 then (v+(n:Int)).toNat else min v.toNat n
theorem sIx_none (n d:Nat):sIx n d none=d:=rfl
theorem sIx_nat (n d k:Nat):sIx n d (some (k:Int))=min k n:=by
 show (if (k:Int)<0 then ((k:Int)+(n:Int)).toNat else min (k:Int).toNat n)=min k n;rw [Fh (by omega),Int.toNat_natCast]
end
end HT
namespace L2
open PySem PySem.Spec PyProof.Rows
abbrev TO:=St->Hp->(Option Int->Hp->Prop)->Prop
def PO (X:Cx) (e:Option Expr) (t:TO):Prop:=
 ∀ (aq:List (Addr×Obj)) (s:Shared) (σ:St) (H:Hp) (Q:Option Int->Hp->Prop),Inv X aq σ H s->t σ H Q ->
  wpAny (model X.prog X.w) X.A (evalPart e X.env) (fun u s'=>∃ o H',Inv X aq σ H' s'/\IsPart u o/\Q o H') X.xe s
def UJ:TO:=fun _ H Q=>Q none H
def BI (t:TE):TO:=fun σ H Q=>t σ H fun x H1=>∃ i,x=.int i/\Q (some i) H1
theorem Xh:∀ {us:List Value},Vals (ns.map V.int) us->IntsAre us ns:=by
 induction ns with
 | nil=>intro us r;rw [List.map_nil] at r;cases r;exact .nil
 | cons n ns ih=>
  intro us r;rw [F3] at r;cases r with
  | cons r1 r2=>
   obtain ⟨t,e⟩:=r1;subst e;exact .cons n t (ih r2)
section
variable {X:Cx} {e:Expr} {te:TE} {lo hi:Option Expr} {tl th:TO} {pos p2:Pos}
theorem Zc:PO X none UJ:=by
 intro aq s σ H Q I h;rw [evalPart_none];exact Fs ⟨none,H,I,.none,h⟩
theorem Zb (h:PE X e te):PO X (some e) (BI te):=by
 intro aq s σ H Q I hw;rw [evalPart_some];refine thn (h aq s σ H _ I hw) fun u s1 ⟨x,H1,I1,r1,q1⟩=>?_
 obtain ⟨i,rfl,q⟩:=q1;obtain ⟨t,rfl⟩:=r1;exact ⟨some i,H1,I1,.int i t,q⟩
def SlR (X:Cx) (r:V->Option Int->Option Int->Hp->VK->Prop):Prop:=
 ∀ (aq:List (Addr×Obj)) (s:Shared) (σ:St) (H:Hp) (x:V) (v vl vu:Value) (lo hi:Option Int) (sl:Addr) (Q:VK),Inv X aq σ H s->RelV x v->s.heap.IsSliceOf sl vl vu .none->IsPart vl lo->IsPart vu hi->r x lo hi H Q ->
  ∃ T id,typeLookup (.type T) "__getitem__"=pure (some (.builtin id))/\s.TypeIs v T/\wpAny (model X.prog X.w) X.A (getItem v (.ref sl)) (EP X aq σ Q) X.xe s
def tSl (r:V->Option Int->Option Int->Hp->VK->Prop) (te:TE) (tl th:TO):TE:=fun σ H Q=>te σ H fun x H1=>tl σ H1 fun l H2=>th σ H2 fun u H3=>r x l u H3 Q
theorem QW {r:V->Option Int->Option Int->Hp->VK->Prop}(hr:SlR X r) (he:PE X e te) (hl:PO X lo tl) (hu:PO X hi th):PE X (.Subscript e (.Slice lo hi none p2) pos) (tSl r te tl th):=by
 intro aq s σ H Q I h;refine Subscript_ (thn (he aq s σ H _ I h) fun v s1 ⟨x,H1,I1,r1,q1⟩=>?_);refine wpAny_Slice (thn (hl aq s1 σ H1 _ I1 q1) fun vl s2 ⟨l,H2,I2,pl,q2⟩=>thn (hu aq s2 σ H2 _ I2 q2) fun vu s3 ⟨u,H3,I3,pu,q3⟩=>?_);rw [evalPart_none];refine Fs ?_;have I4:Inv X aq σ H3 { s3 with heap:=s3.heap.push { cls:=.type "slice",data:=.fields #[vl,vu,.none] } }:=I3.kept (t':=s3.toks) fun b ob q=>FA _ q
 obtain ⟨T,id,hT,ht,hg⟩:=hr aq { s3 with heap:=s3.heap.push { cls:=.type "slice",data:=.fields #[vl,vu,.none] } } σ H3 x v vl vu l u s3.heap.objs.size Q I4 r1 (Heap.IsSliceOf.new ..) pl pu q3;show wpAny (model X.prog X.w) X.A (subscriptTail e (.Slice lo hi none p2) v (.ref s3.heap.objs.size)) (EP X aq σ Q) X.xe { s3 with heap:=s3.heap.push { cls:=.type "slice",data:=.fields #[vl,vu,.none] } };exact tail_any (ops:=[.ref s3.heap.objs.size,v]) ht hT hg (by with_unfolding_all rfl)
def YI (xs:List V) (lo hi:Option Int):List V:=(xs.drop (HT.sIx xs.length 0 lo)).take (HT.sIx xs.length xs.length hi-HT.sIx xs.length 0 lo)
theorem VT (xs:List V) (lo hi:Option Int):(YI xs lo hi).length<=xs.length:=by
 unfold YI;rw [FN,F5];omega
end
def ixN (n:Nat) (i:Int):Option Nat:=if 0<=i then (if i<n then some i.toNat else none) else if -(n:Int)<=i then some (i+n).toNat else none
def atI (xs:List α) (i:Int):Option α:=(ixN xs.length i).bind fun j=>xs[j]?
theorem L8 {i:Int}(h:ixN n i=some j):seqIndex? i n=some j/\j<n/\-(n:Int)<=i/\i<n:=by
 unfold ixN at h;by_cases h0:0<=i
 ·rw [Fk h0] at h;by_cases h1:i<n
  ·rw [Fk h1] at h;have e:i.toNat=j:=Fy h;exact ⟨by rw [seqIndex_of h0 h1,e],by omega,by omega,h1⟩
  ·rw [Fh h1] at h;cases h
 ·rw [Fh h0] at h;by_cases h1:-(n:Int)<=i
  ·rw [Fk h1] at h;have e:(i+n).toNat=j:=Fy h;exact ⟨by rw [seqIndex_neg (by omega) h1,e],by omega,h1,by omega⟩
  ·rw [Fh h1] at h;cases h
theorem Vm {xs:List α}{i:Int}{v:α}(h:atI xs i=some v):∃ j,seqIndex? i xs.length=some j/\xs[j]?=some v/\j<xs.length/\-(xs.length:Int)<=i/\i<xs.length:=by
 unfold atI at h;cases e:ixN xs.length i with
 | none=>rw [e] at h;cases h
 | some j=>
  rw [e] at h;obtain ⟨h1,h2,h3,h4⟩:=L8 e;exact ⟨j,h1,h,h2,h3,h4⟩
theorem QL {xs:List α}{v:α}(h:xs[j]?=some v):atI xs (j:Int)=some v:=by
 have hj:j<xs.length:=(EJ.mp h).1;have e:ixN xs.length (j:Int)=some j:=by
  unfold ixN;rw [Fk (by omega),Fk (by omega)];simp
 unfold atI;rw [e];exact h
def Bz (b:Expr):Prop:=∀ o i,subscripted b false o i=operate [o,i] (getItem o i)
def IxR (X:Cx) (r:R2):Prop:=
 ∀ (value slice:Expr) (aq:List (Addr×Obj)) (s:Shared) (σ:St) (H:Hp) (x y:V) (v u:Value) (Q:VK),Inv X aq σ H s->RelV x v->RelV y u->r x y H Q ->
  subscripted slice false v u=operate [v,u] (getItem v u)->wpAny (model X.prog X.w) X.A (subscriptTail value slice v u) (EP X aq σ Q) X.xe s
def MtR (X:Cx) (id:String) (r:V->List V->Hp->VK->Prop):Prop:=
 ∀ (aq:List (Addr×Obj)) (s:Shared) (σ:St) (H:Hp) (x:V) (xs:List V) (v:Value) (us:List Value) (Q:VK),Inv X aq σ H s->RelV x v->Vals xs us->r x xs H Q ->
  wpAny (model X.prog X.w) X.A (call (.builtin id) (v :: us)) (EP X aq σ Q) X.xe s
section
variable {X:Cx} {a b:Expr} {ta tb:TE} {pos:Pos}
theorem IxR.or {r r':R2}(h:IxR X r) (h':IxR X r'):IxR X (fun x y H Q=>r x y H Q∨r' x y H Q):=by
 intro value slice aq s σ H x y v u Q I rx ry q hs;rcases q with q | q
 ·exact h value slice aq s σ H x y v u Q I rx ry q hs
 ·exact h' value slice aq s σ H x y v u Q I rx ry q hs
theorem Qr {r:R2}(hr:IxR X r) (ha:PE X a ta) (hb:PE X b tb) (hs:Bz b):PE X (.Subscript a b pos) (tOp r ta tb):=by
 intro aq s σ H Q I h;exact Subscript_ (PK ha hb I h fun v u s2 x y H2 I2 rx ry q=>hr a b aq s2 σ H2 x y v u Q I2 rx ry q (hs _ _))
def SC (K:W.Frag):R2:=fun x y H Q=>∃ p xs i v,x=.ref p/\y=.int i/\SqL K H p xs/\atI xs i=some v/\Q v H
def SA (K:W.Frag):R2:=fun x y H Q=>∃ p xs i v,x=.ref p/\y=.int i/\SqT K H p xs/\atI xs i=some v/\Q v H
def SB:R2:=fun x y H Q=>∃ z i c,x=.str z/\y=.int i/\z.length<=sizeLine/\atI z.cps.toList i=some c/\Q (.str ⟨#[c]⟩) H
theorem ix_list:IxR X (SC X.K):=by
 intro value slice aq s σ H x y v u Q I rx ry h hs;obtain ⟨p,xs,i,z,rfl,rfl,hq,he,q⟩:=h;cases rx;obtain ⟨t,rfl⟩:=ry;obtain ⟨its,r,pl,hz⟩:=I.list hq;obtain ⟨j,h1,h2,h3,h4,h5⟩:=Vm he;obtain ⟨w,ew,rw'⟩:=r.get h2;have hl:=r.length;have hn:=Jy;have fin:EP X aq σ Q w s:=⟨z,H,I,rw',q⟩
 by_cases h0:0<=i
 ·have hj:i.toNat=j:=by
   rw [seqIndex_of h0 h5] at h1;exact Fy h1
  exact item_listR pl.isList h0 (by omega) (by rw [hj];simpa using ew) fin hs
 ·have hj:(i+(its.toArray.size:Int)).toNat=j:=by
   rw [seqIndex_neg (by omega) h4] at h1;rw [FJ,<-hl];exact Fy h1
  exact subscriptTail_builtinR (x:=w) pl.isList.typeIs slot_list_getitem.lookup
   (wpAny_getItem_list_neg (Q:=fun r s'=>r=w/\EP X aq σ Q r s') pl.isList (by omega) (by rw [FJ] <;> omega) (by omega) (by rw [hj];simpa using ew) ⟨rfl,fin⟩) hs
theorem ix_tup:IxR X (SA X.K):=by
 intro value slice aq s σ H x y v u Q I rx ry h hs;obtain ⟨p,xs,i,z,rfl,rfl,hq,he,q⟩:=h;cases rx;obtain ⟨t,rfl⟩:=ry;obtain ⟨its,r,pl,hz⟩:=I.tuple hq;obtain ⟨j,h1,h2,h3,h4,h5⟩:=Vm he;obtain ⟨w,ew,rw'⟩:=r.get h2;have hl:=r.length;have hn:=Jy;have fin:EP X aq σ Q w s:=⟨z,H,I,rw',q⟩
 exact subscriptTail_builtinR (x:=w) pl.typeIs slot_tuple_getitem.lookup
  (getItem_tuple (j:=j) (Q:=fun r s'=>r=w/\EP X aq σ Q r s') pl (by omega) (by omega) (by rw [FJ,<-hl];exact h1) (by simpa using ew) ⟨rfl,fin⟩) hs
theorem Ph:IxR X SB:=by
 intro value slice aq s σ H x y v u Q I rx ry h hs;obtain ⟨z,i,c,rfl,rfl,hz,he,q⟩:=h;obtain ⟨t,rfl⟩:=rx;obtain ⟨t',rfl⟩:=ry;obtain ⟨j,h1,h2,h3,h4,h5⟩:=Vm he;have hl:z.cps.toList.length=z.length:=by simp [Str.length]
 rw [hl] at h1 h4 h5;have hn:=Jy;exact tail_any (typeIs_str s z t) slot_str_getitem.lookup (getItem_str (c:=c) (by
  have e1:decide (i < -(2 ^ 63:Int))=false:=FQ (by omega);have e2:decide (i ≥ 2 ^ 63)=false:=FQ (by omega);rw [e1,e2,Bool.or_false]) (by rw [h1];simpa using h2) ⟨.str ⟨#[c]⟩,H,I.tok _,⟨_,rfl⟩,q⟩) hs
def rIx (K:W.Frag):R2:=fun x y H Q=>SC K x y H Q∨SA K x y H Q∨SB x y H Q
theorem Pi:IxR X (rIx X.K):=ix_list.or (ix_tup.or Ph)
theorem KB (lo hi:Option Int) (n:Nat):(sliceBounds lo hi none n).1=((HT.sIx n 0 lo:Nat):Int)/\(sliceBounds lo hi none n).2.1=((HT.sIx n n hi:Nat):Int)/\(sliceBounds lo hi none n).2.2=1:=by
 refine ⟨?_,?_,rfl⟩
 ·cases lo with
  | none=>simp [sliceBounds,HT.sIx]
  | some i=>
   simp only [sliceBounds,HT.sIx,Option.getD_none,show (1:Int) > 0 by decide,if_true];by_cases h:i<0
   ·simp only [h,if_true] <;> omega
   ·simp only [h,if_false] <;> omega
 ·cases hi with
  | none=>simp [sliceBounds,HT.sIx]
  | some i=>
   simp only [sliceBounds,HT.sIx,Option.getD_none,show (1:Int) > 0 by decide,if_true];by_cases h:i<0
   ·simp only [h,if_true] <;> omega
   ·simp only [h,if_false] <;> omega
theorem JS (its:List Value) (lo hi:Option Int):slicePick its.toArray lo hi none=((its.drop (HT.sIx its.length 0 lo)).take (HT.sIx its.length its.length hi-HT.sIx its.length 0 lo)).toArray:=by
 obtain ⟨h1,h2,h3⟩:=KB lo hi its.toArray.size;unfold slicePick;rw [h1,h2,h3];simp only [sliceRange_one,pick_run,FJ] <;> rfl
def NV (K:W.Frag):V->Option Int->Option Int->Hp->VK->Prop:=fun x lo hi H Q=>∃ a xs,x=.ref a/\SqL K H a xs/\∀ p,H p=none->Q (.ref p) (upd H p (.lst (YI xs lo hi)))
theorem Lu:SlR X (NV X.K):=by
 intro aq s σ H x v vl vu lo hi sl Q I rx hs pl pu h;obtain ⟨a,xs,rfl,hx,q⟩:=h;cases rx;obtain ⟨its,r,ht,hz⟩:=I.list hx;have hlen:=r.length;refine ⟨"list",_,slot_list_getitem.lookup,ht.isList.typeIs,?_⟩;refine wpAny_getItem_list_slice ht.isList hs pl pu .none (by simp) ?_ (by rw [FJ] <;> omega);rw [JS,<-hlen];refine ⟨.ref s.heap.objs.size,_,I.laid (t':=s.toks) (o:=.lst (YI xs lo hi)) (fun b ob q=>FA _ q) (Fl _) ?_,rfl,q _ (I.hok.fresh (Fl _))⟩;exact ⟨FR (VT xs lo hi) hz,_,0,(r.drop (HT.sIx xs.length 0 lo)).take (HT.sIx xs.length xs.length hi-HT.sIx xs.length 0 lo),FY _ rfl⟩
def Wd:V->Bool
 | .non=>true
 | .bl _=>true
 | .int _=>true
 | .str _=>true
 | _=>false
def eqV:V->V->Bool
 | .non,.non=>true
 | .bl a,.bl b=>a == b
 | .bl a,.int b=>(if a then 1 else 0) == b
 | .int a,.bl b=>a == (if b then 1 else 0)
 | .int a,.int b=>a == b
 | .str a,.str b=>a == b
 | _,_=>false
theorem Pq {y x:V}{v:Value}(ry:RelV y u) (rx:RelV x v) (fy:Wd y=true) (fx:Wd x=true):SeqAt.EqAt A s u v (eqV y x):=by
 cases y with
 | non=>
  cases ry;cases x with
  | non=>cases rx;exact SeqAt.EqAt.same _
  | bl b=>cases rx;exact SeqAt.EqAt.none_bool b
  | int b=>obtain ⟨t,rfl⟩:=rx;exact SeqAt.EqAt.none_int b t
  | str b=>obtain ⟨t,rfl⟩:=rx;exact SeqAt.EqAt.none_str b t
  | _=>exact absurd (show false=true from fx) FS
 | bl a=>
  cases ry;cases x with
  | non=>cases rx;exact SeqAt.EqAt.bool_none a
  | bl b=>cases rx;exact SeqAt.EqAt.bool_bool a b
  | int b=>obtain ⟨t,rfl⟩:=rx;exact SeqAt.EqAt.bool_int a b t
  | str b=>obtain ⟨t,rfl⟩:=rx;exact SeqAt.EqAt.bool_str a b t
  | _=>exact absurd (show false=true from fx) FS
 | int a=>
  obtain ⟨t',rfl⟩:=ry;cases x with
  | non=>cases rx;exact SeqAt.EqAt.int_none a t'
  | bl b=>cases rx;exact SeqAt.EqAt.int_bool a t' b
  | int b=>obtain ⟨t,rfl⟩:=rx;exact SeqAt.EqAt.int_int a t' b t
  | str b=>obtain ⟨t,rfl⟩:=rx;exact SeqAt.EqAt.int_str a t' b t
  | _=>exact absurd (show false=true from fx) FS
 | str a=>
  obtain ⟨t',rfl⟩:=ry;cases x with
  | non=>cases rx;exact SeqAt.EqAt.str_none a t'
  | bl b=>cases rx;exact SeqAt.EqAt.str_bool a t' b
  | int b=>obtain ⟨t,rfl⟩:=rx;exact SeqAt.EqAt.str_int a t' b t
  | str b=>obtain ⟨t,rfl⟩:=rx;exact SeqAt.EqAt.str_str a t' b t
  | _=>exact absurd (show false=true from fx) FS
 | _=>exact absurd (show false=true from fy) FS
def eqU (x:V) (u:Value):Bool:=match u with
 | .none=>eqV .non x
 | .bool b=>eqV (.bl b) x
 | .int i _=>eqV (.int i) x
 | .str z _=>eqV (.str z) x
 | _=>false
theorem MU {x y:V}(r:RelV y u) (f:Wd y=true):eqU x u=eqV y x:=by
 cases y with
 | non=>cases r;rfl
 | bl b=>cases r;rfl
 | int i=>obtain ⟨t,rfl⟩:=r;rfl
 | str z=>obtain ⟨t,rfl⟩:=r;rfl
 | _=>exact absurd (show false=true from f) FS
theorem Wl {x:V}:∀ {xs:List V}{us:List Value},Vals xs us->xs.all Wd=true->us.any (eqU x)=xs.any fun y=>eqV y x
 | _,_,.nil,_=>rfl
 | y :: xs,u :: us,.cons r t,f=>by
  rw [List.all_cons,Eb] at f;rw [List.any_cons,List.any_cons,MU r f.1,Wl t f.2]
theorem X5 {A:Around}{s:Shared}{x:V}{v:Value}(rx:RelV x v) (fx:Wd x=true):∀ {xs:List V}{us:List Value},Vals xs us->xs.all Wd=true->∀ u∈us,SeqAt.EqAt A s u v (eqU x u)
 | _,_,.nil,_=>fun u hu=>by cases hu
 | y :: xs,u :: us,.cons r t,f=>fun u' hu=>by
  rw [List.all_cons,Eb] at f;rcases FF.mp hu with rfl | hu
  ·rw [MU r f.1];exact Pq r rx f.1 fx
  ·exact X5 rx fx t f.2 u' hu
def inV (x:V) (xs:List V):Bool:=xs.any fun y=>eqV y x
def rIn (K:W.Frag) (neg:Bool):R2:=fun x y H Q=>∃ p xs,y=.ref p/\(SqL K H p xs∨SqT K H p xs)/\Wd x=true/\xs.all Wd=true/\Q (.bl (if neg then !inV x xs else inV x xs)) H
theorem op_in_seq:OpR X (compareOp .In) (rIn X.K false):=by
 intro aq s σ H x y v u Q I rx ry h;obtain ⟨p,xs,rfl,hq,fx,fs,q⟩:=h;cases ry;rcases hq with hq | hq
 ·obtain ⟨its,r,pl,hz⟩:=I.list hq;refine SeqAt.in_listAt (eqU x) pl.isList (fun w hw=>X5 rx fx r fs w (by simpa using hw)) ⟨.bl _,H,I,rfl,?_⟩;rw [show its.toArray.any (eqU x)=its.any (eqU x) by simp,Wl r fs];exact q
 ·obtain ⟨its,r,pl,hz⟩:=I.tuple hq;refine SeqAt.in_tupleAt (eqU x) pl (fun w hw=>X5 rx fx r fs w (by simpa using hw)) ⟨.bl _,H,I,rfl,?_⟩;rw [show its.toArray.any (eqU x)=its.any (eqU x) by simp,Wl r fs];exact q
theorem op_notIn_seq:OpR X (compareOp .NotIn) (rIn X.K true):=by
 intro aq s σ H x y v u Q I rx ry h;obtain ⟨p,xs,rfl,hq,fx,fs,q⟩:=h;cases ry;rcases hq with hq | hq
 ·obtain ⟨its,r,pl,hz⟩:=I.list hq;refine SeqAt.notIn_listAt (eqU x) pl.isList (fun w hw=>X5 rx fx r fs w (by simpa using hw)) ⟨.bl _,H,I,rfl,?_⟩;rw [show its.toArray.any (eqU x)=its.any (eqU x) by simp,Wl r fs];exact q
 ·obtain ⟨its,r,pl,hz⟩:=I.tuple hq;refine SeqAt.notIn_tupleAt (eqU x) pl (fun w hw=>X5 rx fx r fs w (by simpa using hw)) ⟨.bl _,H,I,rfl,?_⟩;rw [show its.toArray.any (eqU x)=its.any (eqU x) by simp,Wl r fs];exact q
theorem Vk:Zx X (.type "list") (fun xs H Q=>∃ p ys,xs=[.ref p]/\(SqL X.K H p ys∨SqT X.K H p ys)/\∀ l,H l=none->Q (.ref l) (upd H l (.lst ys))):=by
 intro aq s σ H xs us Q I r h;obtain ⟨p,ys,rfl,hq,q⟩:=h;obtain ⟨u,rfl,rx⟩:=Z0 r;cases rx;have fin:∀ (its:List Value),Vals ys its->ys.length<=sizeLine->∀ (h':Heap) (c':Nat),(∀ b o',s.heap.get? b=some o'->h'.get? b=some o') ->
   h'.get? s.heap.objs.size=some { cls:=.type "list",dict:=none,data:=.seq its.toArray c',slots:=#[] }->EP X aq σ Q (.ref s.heap.objs.size) { s with heap:=h' }:=fun its r' hz h' c' kp e=>
  ⟨.ref s.heap.objs.size,_,I.laid (t':=s.toks) kp (Fl _) (show ObjOk X.prog X.w _ h' _ (.lst ys) from ⟨hz,its,c',r',e⟩),rfl,q _ (I.hok.fresh (Fl _))⟩
 rcases hq with hq | hq
 ·obtain ⟨its,r',pl,hz⟩:=I.list hq;have hlen:=r'.length;obtain ⟨o,ho,hc,n,hd⟩:=pl.isList;exact call_list_seq p (.inl rfl) ho hc hd (fun h' c' kp e=>fin its r' hz h' c' kp e) (by simp only [FJ] <;> omega)
 ·obtain ⟨its,r',pl,hz⟩:=I.tuple hq;have hlen:=r'.length;obtain ⟨o,ho,hc,n,hd⟩:=pl;exact call_list_seq p (.inr rfl) ho hc hd (fun h' c' kp e=>fin its r' hz h' c' kp e) (by simp only [FJ] <;> omega)
def tyV (K:W.Frag) (T:String) (x:V) (H:Hp):Prop:=match x with
 | .str _=>T="str"
 | .int _=>T="int"
 | .ref p=>(T="list"/\∃ xs,SqL K H p xs)∨(T="tuple"/\∃ o,K.lookup p=some o/\o.cls=.type "tuple"/\o.dict=none) ∨
   (T="dict"/\((∃ kvs,H p=some (.dK kvs))∨∃ kvs,H p=some (.dT kvs)))∨(T="set"/\∃ S n,H p=some (.set S n))
 | _=>False
theorem Nz {x:V}{v:Value}(I:Inv X aq σ H s) (r:RelV x v) (ty:tyV X.K T x H) :
  s.TypeIs v T/\∀ a,v=.ref a->∃ ob,s.heap.get? a=some ob/\ob.dict=none:=by
 cases x with
 | str z=>
  obtain ⟨t,rfl⟩:=r;cases (show T="str" from ty);exact ⟨typeIs_str s z t,fun _ e=>nomatch e⟩
 | int i=>
  obtain ⟨t,rfl⟩:=r;cases (show T="int" from ty);exact ⟨typeIs_int s i t,fun _ e=>nomatch e⟩
 | ref p=>
  cases r;rcases ty with ⟨rfl,xs,hq⟩ | ⟨rfl,o,hk,hc,hd⟩ | ⟨rfl,hk⟩ | ⟨rfl,S,n,hk⟩
  ·obtain ⟨its,_,pl,_⟩:=I.list hq;refine ⟨pl.isList.typeIs,fun a e=>?_⟩;cases e;obtain ⟨o,n,e,c,hd,_⟩:=pl;exact ⟨o,e,hd⟩
  ·refine ⟨⟨o,I.kIn p o hk,hc⟩,fun a e=>?_⟩;cases e;exact ⟨o,I.kIn _ o hk,hd⟩
  ·have z:∃ o,s.heap.get? p=some o/\o.ExactDict:=by
    rcases hk with ⟨kvs,hk⟩ | ⟨kvs,hk⟩
    ·obtain ⟨_,_,_,_,o,_,_,e,ex,_⟩:=I.hok p _ hk;exact ⟨o,e,ex⟩
    ·obtain ⟨_,_,_,_,o,_,_,e,ex,_⟩:=I.hok p _ hk;exact ⟨o,e,ex⟩
   obtain ⟨o,e,ex⟩:=z;refine ⟨⟨o,e,ex.1⟩,fun a e2=>?_⟩;cases e2;exact ⟨o,e,ex.2.1⟩
  ·obtain ⟨o,_,_,_,e,ex,_⟩:=I.hok p _ hk;refine ⟨⟨o,e,ex.1⟩,fun a e2=>?_⟩;cases e2;exact ⟨o,e,ex.2.1⟩
 | _=>exact False.elim ty
def RA (K:W.Frag) (T:String) (r:V->List V->Hp->VK->Prop) (to:TE):TE:=fun σ H Q=>to σ H fun x H1=>tyV K T x H1/\r x [] H1 Q
def tBM (K:W.Frag) (T:String) (r:V->List V->Hp->VK->Prop) (to:TE) (t:TA):TE:=fun σ H Q=>to σ H fun x H1=>tyV K T x H1/\t σ H1 fun xs H2=>r x xs H2 Q
variable {o e:Expr} {es:List Expr} {to:TE} {t:TA} {name:Str} {apos cpos:Pos} {T id:String} {r:V->List V->Hp->VK->Prop}
theorem RU (pa:PlainAttrs T) (slot:Slot T name id) (hty:typeOf (.builtin id)=pure (.type "method_descriptor")) (hm:MtR X id r) (ho:PE X o to)
  (hbase:attributeBase o name X.env (eval o X.env)=eval o X.env:=by rfl) (hline:(apos.endLine == cpos.line)=true:=by rfl):PE X (.Call (.Attribute o name apos) [] [] cpos) (RA X.K T r to):=by
 intro aq s σ H Q I h;refine wpAny_Call_method0_late hbase hline (thn (ho aq s σ H _ I h) fun v s1 ⟨x,H1,I1,r1,ty,q1⟩=>?_);obtain ⟨h1,h2⟩:=Nz I1 r1 ty;exact ⟨T,id,pa,slot,hty,h1,h2,Calls.callWith_builtin rfl (PySem.evalArgs_none (hm aq s1 σ H1 x [] v [] Q I1 r1 .nil q1))⟩
theorem SK (pa:PlainAttrs T) (slot:Slot T name id) (hty:typeOf (.builtin id)=pure (.type "method_descriptor")) (hm:MtR X id r) (ho:PE X o to) (ha:PA X (e :: es) t)
  (hbase:attributeBase o name X.env (eval o X.env)=eval o X.env:=by rfl)
  (hfew:((backTo cpos (starEach (e :: es) X.env)).all (fun x=>!x.1)&&(backToKw cpos (keywordEach [] X.env)).all (fun x=>x.1.isSome)
   && decide ((e :: es).length+([]:List Keyword).length+(if ([]:List Keyword).isEmpty then 0 else 1)<30))=true:=by rfl)
  (hline:(apos.endLine == cpos.line)=true:=by rfl) (hs:starEach (e :: es) X.env=(false,eval e X.env) :: starEach es X.env:=by rfl) (hplain:(backTo cpos (starEach es X.env)).any (·.1)=false:=by rfl) :
  PE X (.Call (.Attribute o name apos) (e :: es) [] cpos) (tBM X.K T r to t):=by
 intro aq s σ H Q I h;refine wpAny_Call_method_late hbase hfew hline rfl (thn (ho aq s σ H _ I h) fun v s1 ⟨x,H1,I1,r1,ty,q1⟩=>?_);obtain ⟨h1,h2⟩:=Nz I1 r1 ty;refine ⟨T,id,pa,slot,hty,h1,h2,?_⟩;have hA:=ha cpos aq s1 σ H1 _ I1 q1;rw [hs] at hA ⊢;refine Calls.callWith_builtin (by show (false||(backTo cpos (starEach es X.env)).any (·.1))=false;rw [hplain] <;> rfl) (Calls.evalArgs_plain ?_);exact thn hA fun us s2 ⟨vs,H2,I2,r2,q2⟩=>hm aq s2 σ H2 x vs v us Q I2 r1 r2 q2
end
def MtM (X:Cx) (id:String) (r:V->List V->Hp->VK->Prop):Prop:=
 ∀ (aq:List (Addr×Obj)) (s:Shared) (σ:St) (H:Hp) (x:V) (xs:List V) (v:Value) (us:List Value) (Q:VK),Inv X aq σ H s->RelV x v->Vals xs us->r x xs H Q ->
  wpAny (model X.prog X.w) X.A (call (.builtin id) (v :: us)) (EP X aq σ Q) X.xe s
theorem Vals.one:∀ {x:V}{us:List Value},Vals [x] us->∃ u,us=[u]/\RelV x u
 | _,_,.cons r .nil=>⟨_,rfl,r⟩
theorem Vals.zero:∀ {us:List Value},Vals [] us->us=[]
 | _,.nil=>rfl
theorem Vals.dropLast (h:Vals xs us):Vals xs.dropLast us.dropLast:=by
 induction h with
 | nil=>exact .nil
 | cons r t ih=>
  cases t with
  | nil=>exact .nil
  | cons q t'=>exact .cons r ih
theorem Uy (l:List α):l.eraseIdx (l.length-1)=l.dropLast:=by
 induction l with
 | nil=>rfl
 | cons a r ih=>
  cases r with
  | nil=>rfl
  | cons b r=>
   have e:(a :: b :: r).length-1=((b :: r).length-1)+1:=by
    have h1:(a :: b :: r).length=r.length+2:=rfl;have h2:(b :: r).length=r.length+1:=rfl;omega
   rw [e,List.eraseIdx_cons_succ,ih];all_goals rfl
section
variable {X:Cx} {aq:List (Addr×Obj)} {σ:St} {H:Hp} {s:Shared} {l b:Addr} {xs ys zs:List V}
theorem Inv.lset {its':List Value}{f:Array Value->Array Value}(I:Inv X aq σ H s) (hH:H l=some (.lst xs))
  (e:s.heap.get? l=some { cls:=.type "list",data:=.seq its.toArray n }) (hf:f its.toArray=its'.toArray) (hv:Vals ys its') (hz:ys.length<=sizeLine) :
  Inv X aq σ (upd H l (.lst ys)) { s with heap:=s.heap.update l (Obj.mapSeq f),toks:=t' }:=by
 have q:=PySem.IsL.update e f;rw [hf] at q;refine I.write (x:=l) (e:=l) (by rw [hH];exact trivial) (.inl rfl) (fun b' u hb hu=>(Heap.get?_update_other s.heap (Obj.mapSeq f) (Ea hb)).trans hu) ⟨_,q⟩ ?_;exact ⟨hz,its',_,hv,q⟩
theorem Inv.lnew (I:Inv X aq σ H s) (hv:Vals ys its) (hz:ys.length<=sizeLine) :
  Inv X aq σ (upd H s.heap.objs.size (.lst ys)) { s with heap:=s.heap.push { cls:=.type "list",data:=.seq its.toArray },toks:=t' }:=
 I.laid (fun _ _ q=>FA _ q) (Fl _) ⟨hz,its,0,hv,FY _ rfl⟩
theorem Inv.fresh (I:Inv X aq σ H s):H s.heap.objs.size=none:=I.hok.fresh (Fl _)
theorem Inv.lstM (I:Inv X aq σ H s) (hH:H l=some (.lst xs)):xs.length<=sizeLine/\∃ (its:List Value) (n:Nat),Vals xs its/\xs.length=its.length/\s.heap.get? l=some { cls:=.type "list",data:=.seq its.toArray n }:=by
 obtain ⟨z,its,n,r,e⟩:=I.hok l _ hH;exact ⟨z,its,n,r,r.length,e⟩
theorem Mj (h:n<=sizeLine):Builtin.List.listTooLong n=false:=by
 unfold Builtin.List.listTooLong;exact FQ (by omega)
end
section
variable {X:Cx}
def KL:V->List V->Hp->VK->Prop:=fun x vs H Q=>∃ l xs y,x=.ref l/\vs=[y]/\H l=some (.lst xs)/\xs.length<sizeLine/\Q .non (upd H l (.lst (xs++[y])))
theorem Zg:MtM X "list.append" KL:=by
 intro aq s σ H x vs v us Q I rx rv h;obtain ⟨l,xs,y,rfl,rfl,hH,hz,q⟩:=h;cases rx;obtain ⟨u,rfl,ru⟩:=rv.one;obtain ⟨z,its,n,r,hl,e⟩:=I.lstM hH;refine call_meets F.slot_list_append ⟨_,e,rfl⟩ F.entry_list_append (F.args_list_append_2 _ _) (PySem.list_append l its.toArray n u (by rw [FJ];omega)) ⟨e,?_⟩;refine ⟨.non,_,I.lset (its':=its++[u]) hH e (by simp) (r.append (.cons ru .nil)) ?_,rfl,q⟩;rw [Fo,Fz];omega
def LF:V->List V->Hp->VK->Prop:=fun x vs H Q=>∃ l b xs zs,x=.ref l/\vs=[.ref b]/\H l=some (.lst xs)/\H b=some (.lst zs)/\xs.length+zs.length<=sizeLine/\Q .non (upd H l (.lst (xs++zs)))
theorem GX:MtM X "list.extend" LF:=by
 intro aq s σ H x vs v us Q I rx rv h;obtain ⟨l,b,xs,zs,rfl,rfl,hH,hB,hz,q⟩:=h;cases rx;obtain ⟨u,rfl,ru⟩:=rv.one;cases ru;obtain ⟨z,its,n,r,hl,e⟩:=I.lstM hH;obtain ⟨z2,its2,n2,r2,hl2,e2⟩:=I.lstM hB;have hsz:its.toArray.size+its2.toArray.size<=sizeLine:=by rw [FJ,FJ];omega
 have hlong:¬ (!its.toArray.isEmpty&&Builtin.List.listTooLong (its.toArray.size+its2.toArray.size))=true:=by
  rw [Mj hsz,Ef];exact FS
 refine call_meets F.slot_list_extend ⟨_,e,rfl⟩ F.entry_list_extend (F.args_list_extend_2 _ _)
  (AutoSeq1.list_extend_list_list_0 l its.toArray n b its2.toArray n2 hlong (by rw [FJ];omega) (by omega)) ⟨e,e2,?_⟩
 refine ⟨.non,_,I.lset (its':=its++its2) hH e (by simp) (r.append r2) ?_,rfl,q⟩;rw [Fo];omega
def HA:V->List V->Hp->VK->Prop:=fun x vs H Q=>∃ l xs y,x=.ref l/\vs=[]/\H l=some (.lst xs)/\xs[xs.length-1]?=some y/\Q y (upd H l (.lst xs.dropLast))
theorem R9:MtM X "list.pop" HA:=by
 intro aq s σ H x vs v us Q I rx rv h;obtain ⟨l,xs,y,rfl,rfl,hH,hy,q⟩:=h;cases rx;have hus:=rv.zero;subst hus;obtain ⟨z,its,n,r,hl,e⟩:=I.lstM hH;obtain ⟨u,hu,ru⟩:=r.get hy;have hy':its.toArray[its.toArray.size-1]?=some u:=by
  show its.toArray[its.length-1]?=some u;rw [<-Array.getElem?_toList,<-hl];exact hu
 refine call_meets F.slot_list_pop ⟨_,e,rfl⟩ F.entry_list_pop (F.args_list_pop_1 _) (MeetsSeq.list_pop_last l its.toArray n u hy' (by rw [FJ];omega)) ⟨e,?_⟩;refine ⟨y,_,I.lset (its':=its.dropLast) hH e ?_ r.dropLast ?_,ru,q⟩
 ·show its.toArray.eraseIdxIfInBounds (its.toArray.size-1)=its.dropLast.toArray;rw [FJ,List.eraseIdxIfInBounds_toArray,Uy]
 ·rw [List.length_dropLast];omega
def NZ:R2:=fun x y H Q=>∃ l b xs zs,x=.ref l/\y=.ref b/\H l=some (.lst xs)/\H b=some (.lst zs)/\xs.length+zs.length<=sizeLine/\∀ p,H p=none->Q (.ref p) (upd H p (.lst (xs++zs)))
theorem R0:OpR X (binaryOp .Add) NZ:=by
 intro aq s σ H x y v u Q I rx ry h;obtain ⟨l,b,xs,zs,rfl,rfl,hH,hB,hz,q⟩:=h;cases rx;cases ry;obtain ⟨z,its,n,r,hl,e⟩:=I.lstM hH;obtain ⟨z2,its2,n2,r2,hl2,e2⟩:=I.lstM hB;refine PySem.P.add_list e e2 ?_ (by rw [FJ,FJ];omega);have ea:its.toArray++its2.toArray=(its++its2).toArray:=by simp
 rw [ea];exact ⟨.ref _,_,I.lnew (t':=s.toks) (r.append r2) (by rw [Fo];omega),rfl,q _ I.fresh⟩
end
end L2
namespace Att
open PySem PySem.W PySem.Calls PyProof.Rows
theorem W3 {P:Params}:∀ (ns:List Int) (vs:List Value),WellAll P h vs (ns.map WData.int)->IntsAre vs ns:=by
 intro ns
 induction ns with
 | nil=>
  intro vs w;rw [List.map_nil] at w;cases w;exact .nil
 | cons n ns ih=>
  intro vs w;rw [F3] at w;cases w with
  | cons a b=>
   cases a;exact .cons _ _ (ih _ b)
theorem script_of {l:OpenLaw}(hn:l.most=some n) {P:Params}{h:Heap}{args:List WData}{vals:List Value}
  (hpre:l.row.toRowW.claim.pre args=true) (hwl:WellAll P h vals args) :
  ∃ a vs ns,vals=[Value.ref a]/\args=[WData.list (ns.map WData.int)]/\h.get? a=some { cls:=.type "list",data:=.seq vs.toArray }/\IntsAre vs ns/\ns.length<=n:=by
 have hsh:WShape.hasAll [] args [.list .int]=true:=(pre_splitW hpre).1;have hc:l.pre.holds [] { args:=args }=true:=(pre_splitW hpre).2;obtain ⟨d,r,rfl,h1,h2⟩:=hasAllW_cons hsh;obtain rfl:=hasAllW_nil h2;obtain ⟨xs,rfl,h3⟩:=hasW_list h1;obtain ⟨ns,rfl⟩:=items_int h3;have hlen:ns.length<=n:=by
  unfold OpenLaw.pre at hc;have h4:(WTm.not (.lt (.lit (.int (n:Int))) (.len (.arg 0)))).holds [] { args:=[.list (ns.map .int)] }=true:=by
   have h4:=(holds_andW hc).1;rw [hn] at h4;exact h4
  have h5:=condW_of h4 (w_not (w_lt w_lit (w_len_list (w_arg rfl))));rw [Fi] at h5;refine Nat.le_of_not_lt fun q=>?_
  have q':(n:Int)<((ns.length:Nat):Int):=by omega
  first
   | (rw [FT q'] at h5;exact absurd h5 (by decide))
   | (simp at h5;omega)
 cases hwl with
 | cons w1 w2=>
  cases w2;cases w1 with
  | list ho hall=>exact ⟨_,_,ns,rfl,rfl,ho,W3 ns _ hall,hlen⟩
theorem post_true (l:OpenLaw) (args:List WData):l.row.toRowW.claim.post args (.bool true) args=true:=
 postW_of (r:=l.row.toRowW) (X:=(true == true))
  (show WShape.has [] (.bool true) .bool=true by first | rfl | decide | simp [WShape.has,WShape.arms,WShape.armsAll])
  (show (WTm.eq .res (.lit (.bool true))).value [] { args:=args,res:=some (.bool true),after:=args }=some (.bool (true == true)) from w_eq_bool (w_res rfl) w_lit) rfl
end Att
namespace L2
open PySem PySem.Spec PyProof.Rows
theorem Wo:∀ {vs:List Value}{ns:List Int},IntsAre vs ns->Vals (ns.map V.int) vs
 | _,_,.nil=>.nil
 | _,_,.cons n t h=>.cons ⟨t,rfl⟩ (Wo h)
def BA (H:Hp):Prop:=∀ b,H b=none∨∃ o xs,H b=some (.frz o (.lst xs))
theorem Mq {mb:Str->Option Value}{k:Nat}{fa:Addr}{sp:Sp}{s₁:Shared}{vs:List Value} 
  (KX:K.In s₁.heap) (hns:s₁.heap.Ns mainGlobals mg) (hb:s₁.heap.Ns builtinsNs mb) (hbb:∀ x:Str,x≠"__name__"->mb x=bootBuiltins x) (hlim:s₁.heap.NoLimit) (hg:s₁.gens=#[])
  (ha:s₁.heap.get? a=some { cls:=.type "list",data:=.seq vs.toArray }) (hi:IntsAre vs ns) (hl:ns.length<=sizeLine) (hr:Room k callerA)
  (F:∀ base:Heap,K.In base->base.Ns mainGlobals mg->FnOk P w K mg base CX k fa fd [x] sp) (hbind:∀ (s:Shared) (u:Value),BindsTo s fd ⟨[u],[]⟩ [(x,u)])
  (hsp:∀ H:Hp,BA H->SqL K H a (ns.map V.int)->sp [.ref a] H (fun v _=>v=.bl true) fun _ _ _=>False)
  (hCX:∀ H e s',CX [] H s₁ (fun _ _ _=>False) e s'->False) :
  codeAny (model P w) callerA (.call (.ref fa) ⟨[.ref a],[]⟩) (fun r s'=>r=.ok (.ret (.bool true))/\OldK s₁.heap s'.heap/\s'.os=s₁.os/\AllBare s'.gens) s₁:=by
 have rv:=Wo hi;have lenV:=hi.length;have core:∀ H:Hp,BA H->SqL K H a (ns.map V.int)->HOk P w H s₁.heap->(∀ b,H b≠none->b=a)->(H a≠none->K.lookup a=none) ->
   codeAny (model P w) callerA (.call (.ref fa) ⟨[.ref a],[]⟩) (fun r s'=>r=.ok (.ret (.bool true))/\OldK s₁.heap s'.heap/\s'.os=s₁.os/\AllBare s'.gens) s₁:=by
  intro H hO hS hok hA hK;have base_of:∀ {b:Addr} {o:Obj},s₁.heap.get? b=some o->H b=none->(K8 s₁.heap H).get? b=some o:=fun e n=>Mx e n
  have noA:∀ {b:Addr} {o:Obj} {es:Array DictEntry} {ep:Nat},s₁.heap.get? b=some o->o.data=.dict es ep->H b=none:=fun {b o es ep} e d=>by
   cases q:H b with
   | none=>rfl
   | some u=>
    have e':b=a:=hA b (by rw [q];simp);subst e';rw [ha] at e;cases e;have d':Data.seq vs.toArray _=Data.dict es ep:=d;cases d'
  have nsK:∀ {b:Addr} {m:Str->Option Value},s₁.heap.Ns b m->(K8 s₁.heap H).Ns b m:=fun {b m} ⟨o,es,ep,e,d,r⟩=>⟨o,es,ep,base_of e (noA e d),d,r⟩
  have hKb:K.In (K8 s₁.heap H):=fun b o e=>base_of (KX b o e) (by
   cases q:H b with
   | none=>rfl
   | some u=>
    have e':b=a:=hA b (by rw [q];simp);subst e';rw [hK (by rw [q];simp)] at e;cases e)
  have hM:Mod K mg (K8 s₁.heap H):=⟨hKb,nsK hns,⟨mb,nsK hb,hbb⟩,let ⟨mc,h1,h2⟩:=hlim;⟨mc,nsK h1,h2⟩⟩
  have e0:Env0 P w K mg (K8 s₁.heap H) callerA [] s₁ H:=⟨rfl,hM,fun b o e=>LV e,Nat.le_of_eq (G4 _ _),trivial,fun b hb=>absurd (show b∈([]:List Addr) from hb) (by simp),hok,.of_eq hg⟩
  refine EK ((F _ hKb (nsK hns)).run callerA [] s₁ H ⟨[.ref a],[]⟩ [.ref a] [.ref a] _ _ hr e0 (hbind s₁ (.ref a)) (.cons rfl .nil) (hsp H hO hS)) fun r s' h=>?_
  cases r with
  | error e=>exact (hCX H e s' h).elim
  | ok fl=>
   cases fl with
   | next=>exact False.elim h
   | brk=>exact False.elim h
   | cont=>exact False.elim h
   | ret u=>
    obtain ⟨v,H',os,bare,un,hok',r',q⟩:=h;have q':v=.bl true:=q;subst q';obtain rfl:u=Value.bool true:=r';refine ⟨rfl,OldK.of_keep fun b o e=>?_,os,bare⟩;cases q:H b with
    | none=>exact un.keep b o e q (by intro z;exact absurd (show b∈([]:List Addr) from z) (by simp)) (by simp)
    | some u=>
     rcases hO b with z | ⟨ob,xs,z⟩
     ·rw [q] at z;cases z
     ·have z2:=un.frzs b ob _ z;obtain ⟨e1,_⟩:=hok b _ z;obtain ⟨e2,_⟩:=hok' b _ z2;rw [e] at e1;cases e1;exact e2
 cases hk:K.lookup a with
 | some o=>
  have e:=KX a o hk;rw [ha] at e;cases e;refine core (fun _=>none) (fun _=>.inl rfl) (.inr ⟨_,vs.toArray,_,hk,rfl,rfl,rfl,by rw [FJ,lenV];exact hl,by simpa using rv⟩) (fun b u z=>by have z':(none:Option HO)=some u:=z;cases z') (fun b z=>absurd rfl z) fun z=>absurd rfl z
 | none=>
  refine core (fun b=>if b=a then some (.frz { cls:=.type "list",data:=.seq vs.toArray } (.lst (ns.map V.int))) else none) (fun b=>?_) (.inl (.inr ⟨{ cls:=.type "list",data:=.seq vs.toArray },Fk rfl⟩)) (fun b u z=>?_) (fun b z=>?_) fun _=>hk
  ·by_cases hb:b=a
   ·exact .inr ⟨_,_,Fk hb⟩
   ·exact .inl (Fh hb)
  ·by_cases hb:b=a
   ·have z':=(Fk hb).symm.trans z;cases z';subst hb;exact ⟨ha,by rw [Fi];exact hl,vs,_,rv,ha⟩
   ·have z':=(Fh hb).symm.trans z;cases z'
  ·by_cases hb:b=a
   ·exact hb
   ·exact absurd (Fh hb) z
abbrev CX0:CXT:=fun _ _ _ _ _ _=>False
abbrev E0:XK:=fun _ _ _=>False
theorem UU:XX CX0 X E0:=fun _ _ _ _ _ _ _ h=>h.elim
structure Fun (K:W.Frag) (x qual:Str) (st:Stmt) (f:Addr) (fd:FuncData):Prop where
 ex:∃ (oc:Value) (od:Option Addr) (kV doc pm:Value) (an:Option Addr) (cdv ct:Value) (osl:Array (Option Value)),
  fd=W.fnOf x qual (QZ st) (QO st) (Qh st) .none kV doc pm an cdv ct/\K.lookup f=some ⟨oc,od,.func fd,osl⟩/\W.codeIn K cdv qual=true
 kp:W.keepIn K (.ref f)=true
section
variable {P:Program} {w:World} {K:W.Frag} {mg:Str->Option Value} {base:Heap}
theorem Fun.ok {k:Nat}{sp:Sp}(F:Fun K x qual st f fd) (S:Qo N ps (Qh st)) (len:∀ vs H Q E,sp vs H Q E->vs.length=ps.length)
  (hbody:∀ (cdv:Value) (A:Around) (outer:List Env) (s:Shared) (H:Hp) (vs:List V) (Q:VK) (E:XK),Room k (A.deeper (envOfC qual (Qh st) s.heap.objs.size f cdv))->sp vs H Q E ->
   ∃ t,PSs (Wh CX0 P w K mg base N qual (Qh st) f cdv A outer s H E).nox (QO st) t/\t { nx:=fun _ H'=>Q .non H',rt:=Q } (start N vs) H):FnOk P w K mg base CX0 (k+1) f fd ps sp:=by
 obtain ⟨oc,od,kV,doc,pm,an,cdv,ct,osl,rfl,lk,hcd⟩:=F.ex;refine MO lk hcd S len fun A outer s H vs Q E hr hsp=>?_
 obtain ⟨t,h,q⟩:=hbody cdv A outer s H vs Q E hr hsp;exact ⟨t,h.nox,q⟩
theorem Fun.binds (F:Fun K x qual st f fd)
  (h:∀ (kV doc pm:Value) (an:Option Addr) (cdv ct:Value) (us:List Value),us.length=ps.length->bindArgs (W.fnOf x qual (QZ st) (QO st) (Qh st) .none kV doc pm an cdv ct) ⟨us,[]⟩=pure (ps.zip us)):Binds K fd ps []:=by
 obtain ⟨oc,od,kV,doc,pm,an,cdv,ct,osl,rfl,lk,hcd⟩:=F.ex;exact .all (h kV doc pm an cdv ct)
theorem fun_mk {osl:Array (Option Value)}{kV:Value}(l:K.lookup f=some ⟨oc,od,.func (W.fnOf x qual (QZ st) (QO st) (Qh st) .none kV doc pm an cdv ct),osl⟩)
  (c:W.codeIn K cdv qual=true) (k:W.keepIn K (.ref f)=true):Fun K x qual st f (W.fnOf x qual (QZ st) (QO st) (Qh st) .none kV doc pm an cdv ct):=⟨⟨oc,od,kV,doc,pm,an,cdv,ct,osl,rfl,l,c⟩,k⟩
end
theorem Z2 {k:Nat}(hr:Room k A):A.units+1<cLine:=En (Nat.add_le_add_left (by decide:1<=64) _) hr.units
theorem QN (h:n<=1000):n<sizeLine:=En h (by decide)
section
variable {X:Cx}
theorem pv (i:Nat) {x:Str}{pos:Pos}(hN:X.N[i]?=some x:=by rfl) (hv:Vis X.env.scope x:=by first | exact Or.inl rfl | exact Or.inr (Or.inl rfl) | exact Or.inr (Or.inr rfl)) (hd:(x == ("__debug__":Str))=false:=by decide)
  (hcd:(x == ("__classdict__":Str))=false:=by decide):PE X (.Name x pos) (Se i):=RQ hN hv hd hcd
end
def Same (H H':Hp):Prop:=∀ b o,H b=some o->H' b=some o
theorem Same.refl (H:Hp):Same H H:=fun _ _ h=>h
theorem Same.trans (a:Same H H1) (b:Same H1 H2):Same H H2:=fun c o h=>b c o (a c o h)
theorem Same.free (e:Same H H') {l:Addr}(h:H' l=Option.none):H l=Option.none:=by
 cases q:H l with
 | none=>rfl
 | some o=>
  rw [e l o q] at h;cases h
theorem Same.seq (e:Same H H') (h:SqL K H a xs):SqL K H' a xs:=by
 rcases h with (h | ⟨o,h⟩) | h
 ·exact .inl (.inl (e _ _ h))
 ·exact .inl (.inr ⟨o,e _ _ h⟩)
 ·exact .inr h
def Bd (n:Nat) (i:Int):Prop:=i.natAbs<2 ^ n
theorem Bd.mono {i:Int}(h:Bd m i) (hl:m<=n):Bd n i:=FL h (Nat.pow_le_pow_right (by decide) hl)
theorem Bd.add {i j:Int}(h:Bd m i) (h':Bd n j):Bd (max m n+1) (i+j):=by
 have a:=h.mono (Nat.le_max_left m n);have b:=h'.mono (Nat.le_max_right m n);unfold Bd at *;rw [Nat.pow_succ];omega
theorem Bd.mul {i j:Int}(h:Bd m i) (h':Bd n j):Bd (m+n) (i*j):=by
 unfold Bd at *;rw [Ez,Nat.pow_add];exact Nat.mul_lt_mul'' h h'
theorem Bd.le {i j:Int}(h:Bd m j) (hl:i.natAbs<=j.natAbs):Bd m i:=En hl h
theorem Bd.bits {i:Int}(h:Bd m i):Builtin.Int.intBits i<=m:=by
 unfold Builtin.Int.intBits;split
 ·exact F1 _
 ·rename_i h0;have h0':i.natAbs≠0:=by
   intro e;apply h0;have:i=0:=Int.natAbs_eq_zero.mp e;rw [this];rfl
  have:i.natAbs.log2<m:=(Nat.log2_lt h0').mpr h;omega
theorem Bd.log2 {i:Int}(h:Bd m i) (hm:0<m):i.natAbs.log2<m:=by
 rcases Nat.eq_zero_or_pos i.natAbs with h0 | hp
 ·rw [h0];simpa using hm
 ·exact (Nat.log2_lt (Dv hp)).mpr h
def CMulB (i j:Int):Prop:=Bd 60000 i/\Bd 60000 j
def CDivB (j:Int):Prop:=j≠0/\Bd 9000 j
section
variable {X:Cx}
theorem CMulB.ok {i j:Int}(h:CMulB i j):IntMulOk i j:=by
 refine IntMulOk.of_bits ?_ ?_
 ·exact FR h.1.bits (by decide)
 ·exact FR h.2.bits (by decide)
theorem op_mulB:OpR X (binaryOp .Mult) (rI CMulB fun i j=>.int (i*j)):=opI fun _ _ _ _ _ _ _ hc q=>mul_int q hc.ok
theorem op_fdivB:OpR X (binaryOp .FloorDiv) (rI (fun _ j=>CDivB j) fun i j=>.int (i.fdiv j)):=opI fun _ _ _ _ _ _ _ hc q=>floordiv_int hc.1 q (.inl (PyProof.noPylong_of_log2 (hc.2.log2 (by decide))))
end
def RJ (K:W.Frag):List V->Hp->VK->Prop:=fun xs H Q=>∃ x c t b u,xs=[x,c]/\RelV c u/\(∀ u',RelV c u'->u'=u)/\TyOf K H x t/\W.kitOne K t u=some b/\Q (.bl b) H
section
variable {X:Cx}
theorem M5:Zx X (.builtin "isinstance") (RJ X.K):=by
 intro aq s σ H xs us Q I r h;obtain ⟨x,c,t,b,u,rfl,rc,uq,ty,e,q⟩:=h;obtain ⟨u1,u2,rfl,r1,r2⟩:=Jl r;obtain rfl:=uq _ r2;exact G2 I r1 ty e fun tk=>⟨.bl b,H,I.tok tk,rfl,q⟩
end
structure Cal (P:Program) (w:World) (K:W.Frag) (mg:Str->Option Value) (base:Heap) (k:Nat) (name:Str) (ps:List Str) (sp:Sp):Prop where
 ex:∃ (f:Addr) (fd:FuncData),FnOk P w K mg base CX0 k f fd ps sp/\Binds K fd ps []/\W.keepIn K (.ref f)=true/\mg name=some (.ref f)
section
variable {X:Cx} {k:Nat} {name:Str} {ps:List Str} {sp:Sp} {p pos:Pos} {e:Expr} {es:List Expr} {t:TA}
theorem Qs (C:Cal X.prog X.w X.K X.mg X.base k name ps sp) (hr:Room k X.A) (hg:Gl X name) (ha:PA X (e :: es) t) (hdb:(name == ("__debug__":Str))=false:=by decide)
  (he:starEach (e :: es) X.env=(false,eval e X.env) :: starEach es X.env:=by rfl) (hpl:(backTo pos (starEach es X.env)).any (·.1)=false:=by rfl) :
  PE X (.Call (.Name name p) (e :: es) [] pos) (Vw sp [] E0 t):=by
 obtain ⟨f,fd,F,b,kp,m⟩:=C.ex;exact US F hr hg m kp b .nil UU ha hdb he hpl
end
theorem Qi (h:H p=none) (o:HO):Same H (upd H p o):=fun b u q=>by rw [Qj (Q0 q h)];exact q
theorem x_c:tC v σ H Q=Q v H:=rfl
theorem Hv {r:R2}{tb:TE}:tOp r ta tb σ H Q=ta σ H fun x H1=>tb σ H1 fun y H2=>r x y H2 Q:=rfl
theorem Hs {r:V->Hp->VK->Prop}:tUn r ta σ H Q=ta σ H fun x H1=>r x H1 Q:=rfl
theorem T7 {i j:Int}:rEq (.int i) (.int j) H Q=Q (.bl (decide (i=j))) H:=by
 have e:decide (V.int i=V.int j)=decide (i=j):=by
  rw [Jh,Bool.beq_eq_decide_eq]
 unfold rEq;rw [e];exact propext ⟨fun h=>h.2,fun h=>⟨rfl,h⟩⟩
theorem TK {i j:Int}:rNe (.int i) (.int j) H Q=Q (.bl (!decide (i=j))) H:=by
 have e:decide (V.int i=V.int j)=decide (i=j):=by
  rw [Jh,Bool.beq_eq_decide_eq]
 unfold rNe;rw [e];exact propext ⟨fun h=>h.2,fun h=>⟨rfl,h⟩⟩
theorem Hy {b:Bool}{P:Bool->Prop}:(∃ k,V.bl b=V.bl k/\P k)=P b:=by
 refine propext ⟨fun ⟨k,e,q⟩=>?_,fun q=>⟨b,rfl,q⟩⟩;cases e;exact q
theorem Sb {t u:TT}{Q:Bool->Hp->Prop}:Sn t u σ H Q=t σ H fun c H1=>if c=true then u σ H1 Q else Q false H1:=rfl
theorem Hu {t u:TT}{Q:Bool->Hp->Prop}:tOr t u σ H Q=t σ H fun c H1=>if c=true then Q true H1 else u σ H1 Q:=rfl
theorem TB {t:TT}{Q:Bool->Hp->Prop}:Si t σ H Q=t σ H fun c H1=>Q (!c) H1:=rfl
theorem TZ {t:TT}{tb:TE}:tIf t ta tb σ H Q=t σ H fun c H1=>if c=true then ta σ H1 Q else tb σ H1 Q:=rfl
theorem V0 {D:QU}:BJ D σ H=D.nx σ H:=rfl
theorem Tu {t u:TS}{D:QU}:ZX t u D σ H=t { D with nx:=u D } σ H:=rfl
theorem Tw {D:QU}:NF te D σ H=te σ H D.rt:=rfl
theorem Rt {D:QU}:Kf te D σ H=te σ H fun _ H1=>D.nx σ H1:=rfl
theorem TY {c:TT}{t u:TS}{D:QU}:Vv c t u D σ H=c σ H fun b H1=>if b=true then t D σ H1 else u D σ H1:=rfl
theorem Lg {D:QU}:NG D σ H=False:=rfl
theorem Sa {D:QU}:Xe te g D σ H=te σ H fun x H1=>g x σ H1 D.nx:=rfl
theorem Ri {Q:St->Hp->Prop}:Ze i v σ H Q=Q (σ.set i (some v)) H:=rfl
theorem Tz {ta:TA}{D:QU}:Sh i j ta D σ H=ta σ H fun vs H1=>∃ v w,vs=[v,w]/\D.nx ((σ.set i (some v)).set j (some w)) H1:=rfl
theorem TF {Q:List V->Hp->Prop}:Lo σ H Q=Q [] H:=rfl
theorem Ru {tr:TA}{Q:List V->Hp->Prop}:BL ta tr σ H Q=ta σ H fun x H1=>tr σ H1 fun xs H2=>Q (x :: xs) H2:=rfl
theorem Rv {sp:Sp}{dvs:List V}{t:TA}:Vw sp dvs E t σ H Q=t σ H fun vs H1=>sp (vs++dvs) H1 Q E:=rfl
theorem Hx {r:List V->Hp->VK->Prop}{t:TA}:tCB r t σ H Q=t σ H fun vs H1=>r vs H1 Q:=rfl
theorem Ti {t:TA}:Sf t σ H Q=t σ H fun xs H1=>xs.length<=sizeLine/\∀ p,H1 p=none->Q (.ref p) (upd H1 p (.tup xs)):=rfl
theorem TQ {t:TA}:Sj t σ H Q=t σ H fun xs H1=>xs.length<=sizeLine/\∀ p,H1 p=none->Q (.ref p) (upd H1 p (.lst xs)):=rfl
theorem Kx (h:n<=1000):n<=sizeLine:=E5 (QN h)
theorem B9 {a:α}{P:α->Prop}:(∃ v,some (some a)=some (some v)/\P v)=P a:=by
 refine propext ⟨fun ⟨k,e,q⟩=>?_,fun q=>⟨a,rfl,q⟩⟩;cases e;exact q
theorem TV {a:Int}{P:Int->Prop}:(∃ v,[V.int a]=[V.int v]/\P v)=P a:=by
 refine propext ⟨fun ⟨k,e,q⟩=>?_,fun q=>⟨a,rfl,q⟩⟩;cases e;exact q
theorem Th {a b:V}{P:V->V->Prop}:(∃ v w,[a,b]=[v,w]/\P v w)=P a b:=by
 refine propext ⟨fun ⟨k,l,e,q⟩=>?_,fun q=>⟨a,b,rfl,q⟩⟩;cases e;exact q
theorem Rm {a:Int}{P:Int->Int->Prop}:(∃ v w,[V.int a,V.int b]=[V.int v,V.int w]/\P v w)=P a b:=by
 refine propext ⟨fun ⟨k,l,e,q⟩=>?_,fun q=>⟨a,b,rfl,q⟩⟩;cases e;exact q
theorem Same.sqT (e:Same H H') (h:SqT K H a xs):SqT K H' a xs:=by
 rcases h with (h | ⟨o,h⟩) | h
 ·exact .inl (.inl (e _ _ h))
 ·exact .inl (.inr ⟨o,e _ _ h⟩)
 ·exact .inr h
def BO:R2:=fun x y H Q=>rI0 (fun i j=>.int (i+j)) x y H Q∨(∃ i j,x=.str i/\y=.str j/\i.length+j.length<=sizeLine/\Q (.str (i++j)) H)∨NZ x y H Q
section
variable {X:Cx}
theorem op_addA:OpR X (binaryOp .Add) BO:=op_add.or (op_add_str.or R0)
theorem X3 (hm:X.mg x=none) (hv:bootBuiltins x=some (.type T)) (hg:Gl X x:=by rfl) (hn:x≠"__name__":=by decide) (hdb:(x == ("__debug__":Str))=false:=by decide):PE X (.Name x pos) (tC (.ty T)):=
 LQ hg hm hv rfl hn hdb
end
theorem YL {k:Int}(h:SqT K H p xs) (e:atI xs k=some v) (q:Q v H):rIx K (.ref p) (.int k) H Q:=.inr (.inl ⟨p,xs,k,v,rfl,rfl,h,e,q⟩)
theorem Q7 {k:Int}(h:SqL K H p xs) (e:atI xs k=some v) (q:Q v H):rIx K (.ref p) (.int k) H Q:=.inl ⟨p,xs,k,v,rfl,rfl,h,e,q⟩
def Sp1 (φ:V->Hp->VK->Prop):Sp:=fun vs H Q _=>∃ a,vs=[a]/\φ a H Q
def Sp2 (φ:V->V->Hp->VK->Prop):Sp:=fun vs H Q _=>∃ a b,vs=[a,b]/\φ a b H Q
def Sp3 (φ:V->V->V->Hp->VK->Prop):Sp:=fun vs H Q _=>∃ a b c,vs=[a,b,c]/\φ a b c H Q
def Sp4 (φ:V->V->V->V->Hp->VK->Prop):Sp:=fun vs H Q _=>∃ a b c d,vs=[a,b,c,d]/\φ a b c d H Q
theorem Tt {a:V}:start N [a]=some a :: List.replicate (N.length-1) none:=rfl
theorem Ts {a b:V}:start N [a,b]=some a :: some b :: List.replicate (N.length-2) none:=rfl
theorem Tr {a b:V}:start N [a,b,c]=some a :: some b :: some c :: List.replicate (N.length-3) none:=rfl
theorem Tq {a b d:V}:start N [a,b,c,d]=some a :: some b :: some c :: some d :: List.replicate (N.length-4) none:=rfl
theorem Xc {t:TGs}{Q:St->Hp->Prop}(h:SqT K H p xs) (hl:xs.length=n) (q:t xs σ H Q):Pj K n t (.ref p) σ H Q:=⟨p,xs,rfl,h,hl,q⟩
def LB (K:W.Frag):List V->Hp->VK->Prop:=fun xs H Q=>∃ x n,xs=[x]/\Hj K x H n/\Q (.int n) H
theorem Ni:Zx X (.builtin "len") (LB X.K):=M4
theorem Q3 (h:SqL K H p xs) (q:Q (.int xs.length) H):LB K [.ref p] H Q:=⟨.ref p,xs.length,rfl,.inl ⟨xs,h,rfl⟩,q⟩
theorem Rj (h:SqT K H p xs) (q:Q (.int xs.length) H):LB K [.ref p] H Q:=⟨.ref p,xs.length,rfl,.inr ⟨xs,h,rfl⟩,q⟩
theorem T9 {sc:Scope}:(Wh CX P w K mg base N qual sc f cdv A outer s H E).K=K:=rfl
theorem TR {x:V}{t:Value}{b:Bool}(ty:TyOf K H x t) (e:W.kitOne K t (.type T)=some b) (q:Q (.bl b) H):RJ K [x,.ty T] H Q:=
 ⟨x,.ty T,t,b,.type T,rfl,rfl,fun _ h=>h,ty,e,q⟩
theorem T3 {i j:Str}:rEq (.str i) (.str j) H Q=Q (.bl (decide (i=j))) H:=by
 have e:decide (V.str i=V.str j)=decide (i=j):=by
  by_cases h:i=j
  ·subst h;simp
  ·rw [FQ h];exact FQ fun q=>h (V.str.inj q)
 unfold rEq;rw [e];exact propext ⟨fun h=>h.2,fun h=>⟨rfl,h⟩⟩
theorem TH {i j:Str}:rNe (.str i) (.str j) H Q=Q (.bl (!decide (i=j))) H:=by
 have e:decide (V.str i=V.str j)=decide (i=j):=by
  by_cases h:i=j
  ·subst h;simp
  ·rw [FQ h];exact FQ fun q=>h (V.str.inj q)
 unfold rNe;rw [e];exact propext ⟨fun h=>h.2,fun h=>⟨rfl,h⟩⟩
theorem T8 {i j:Bool}:rEq (.bl i) (.bl j) H Q=Q (.bl (decide (i=j))) H:=by
 have e:decide (V.bl i=V.bl j)=decide (i=j):=by cases i <;> cases j <;> rfl
 unfold rEq;rw [e];exact propext ⟨fun h=>h.2,fun h=>⟨rfl,h⟩⟩
theorem TL {i j:Bool}:rNe (.bl i) (.bl j) H Q=Q (.bl (!decide (i=j))) H:=by
 have e:decide (V.bl i=V.bl j)=decide (i=j):=by cases i <;> cases j <;> rfl
 unfold rNe;rw [e];exact propext ⟨fun h=>h.2,fun h=>⟨rfl,h⟩⟩
theorem Xb {lo hi:Option Int}(h:SqL K H p xs) (q:∀ r,H r=none->Q (.ref r) (upd H r (.lst (YI xs lo hi)))):NV K (.ref p) lo hi H Q:=⟨p,xs,rfl,h,q⟩
theorem Ht {r:V->Option Int->Option Int->Hp->VK->Prop}{tl th:TO}:tSl r te tl th σ H Q=te σ H fun x H1=>tl σ H1 fun l H2=>th σ H2 fun u H3=>r x l u H3 Q:=rfl
theorem TC {Q:Option Int->Hp->Prop}:UJ σ H Q=Q none H:=rfl
theorem Rb {t:TE}{Q:Option Int->Hp->Prop}:BI t σ H Q=t σ H fun x H1=>∃ i,x=.int i/\Q (some i) H1:=rfl
theorem Hw {a:Int}{P:Int->Prop}:(∃ v,V.int a=V.int v/\P v)=P a:=by
 refine propext ⟨fun ⟨k,e,q⟩=>?_,fun q=>⟨a,rfl,q⟩⟩;cases e;exact q
theorem Li {ta:TA}:BR ta σ H R=ta σ H fun vs H1=>∃ j:Int,vs=[.int j]/\-(2 ^ 62)<=j/\j<2 ^ 62/\R (Itr 0 j.toNat) H1:=rfl
theorem Le {j c:Int}{P:Int->Int->Prop}:(∃ j' c':Int,[V.int 0,V.int j,V.int c]=[V.int 0,V.int j',V.int c']/\P j' c')=P j c:=by
 refine propext ⟨fun ⟨_,_,e,q⟩=>?_,fun q=>⟨j,c,rfl,q⟩⟩;cases e;exact q
theorem Tj {r:V->List V->Hp->VK->Prop}{to:TE}{t:TA}:tBM K T r to t σ H Q=to σ H fun x H1=>tyV K T x H1/\t σ H1 fun xs H2=>r x xs H2 Q:=rfl
theorem B7 {r:V->List V->Hp->VK->Prop}{to:TE}:RA K T r to σ H Q=to σ H fun x H1=>tyV K T x H1/\r x [] H1 Q:=rfl
theorem Zy {y:V}(h:H p=some (.lst xs)) (hl:xs.length<sizeLine) (q:Q .non (upd H p (.lst (xs++[y])))):KL (.ref p) [y] H Q:=⟨p,xs,y,rfl,rfl,h,hl,q⟩
theorem Lj:Mv K tl σ H R=tl σ H fun x H1=>∃ a,x=.ref a/\(∃ xs,SqL K H1 a xs)/\R (Itl K a) H1:=rfl
theorem QH {p:Prop} [Decidable p] {A B:Prop}(h:p->A) (h2:¬ p->B):if p then A else B:=by
 by_cases c:p
 ·rw [Fk c];exact h c
 ·rw [Fh c];exact h2 c
def Kw (J:It) (g:TG) (tb:TS) (D:QU) (σ:St) (H1:Hp):Prop:=∃ W:Nat->Nat->St->Hp->Prop,(∃ m,W 0 m σ H1)/\∀ i m σ H,W i m σ H ->
 (J.stop i H/\D.nx σ H)∨(J.go i H/\∃ N:St->Hp->Prop,(∀ σ' H',N σ' H'->∃ m',m'<m/\W (i+1) m' σ' H')/\∀ x H',J.yld i H x H'->g x σ H' fun σ2 H2=>tb { D with nx:=N,ct:=N,bk:=D.nx } σ2 H2)
theorem Rn {wi:TI}{D:QU}:Sk wi g tb D σ H=wi σ H fun J H1=>Kw J g tb D σ H1:=rfl
theorem MN {D:QU}(Pv:Nat->St->Hp->Prop) (h0:Pv 0 σ H)
  (hs:∀ i σ H,i<n->Pv i σ H->g (.int (lo+i)) σ H fun σ2 H2=>tb { D with nx:=Pv (i+1),ct:=Pv (i+1),bk:=D.nx } σ2 H2) (hd:∀ σ H,Pv n σ H->D.nx σ H):Kw (Itr lo n) g tb D σ H:=G5 Pv h0 hs hd
theorem JE {D:QU}(Pv:Nat->St->Hp->Prop) (h0:Pv 0 σ H) (hl:∀ i σ H,i<=xs.length->Pv i σ H->SqL K H a xs)
  (hs:∀ i x σ H,xs[i]?=some x->Pv i σ H->g x σ H fun σ2 H2=>tb { D with nx:=Pv (i+1),ct:=Pv (i+1),bk:=D.nx } σ2 H2) (hd:∀ σ H,Pv xs.length σ H->D.nx σ H):Kw (Itl K a) g tb D σ H:=MM Pv h0 hl hs hd
inductive D where
 | non | int (i:Int) | str (x:Str) | tup (ds:List D) | lst (ds:List D)
inductive Rep (K:W.Frag) (H:Hp):D->V->Prop where
 | non:Rep K H .non .non
 | int (i:Int):Rep K H (.int i) (.int i)
 | bl (c:Bool):Rep K H (.int (if c then 1 else 0)) (.bl c)
 | str (x:Str):Rep K H (.str x) (.str x)
 | tup {p:Addr} {xs:List V} {ds:List D} (h:SqT K H p xs) (hl:ds.length=xs.length) (hr:∀ (i:Nat) d x,ds[i]?=some d->xs[i]?=some x->Rep K H d x):Rep K H (.tup ds) (.ref p)
 | lst {p:Addr} {xs:List V} {ds:List D} (h:SqL K H p xs) (hl:ds.length=xs.length) (hr:∀ (i:Nat) d x,ds[i]?=some d->xs[i]?=some x->Rep K H d x):Rep K H (.lst ds) (.ref p)
inductive DB:Nat->D->Prop where
 | non {n:Nat}:DB n .non
 | int {n:Nat} (i:Int):DB n (.int i)
 | str {n:Nat} (x:Str):DB n (.str x)
 | tup {n:Nat} {ds:List D} (h:∀ d∈ds,DB n d):DB (n+1) (.tup ds)
 | lst {n:Nat} {ds:List D} (h:∀ d∈ds,DB n d):DB (n+1) (.lst ds)
section
variable {X:Cx} {aq:List (Addr×Obj)} {σ:St} {H:Hp} {s:Shared}
theorem Inv.lt_ne (I:Inv X aq σ H s) {p:Addr}{xs ys:List V}(h:SqL X.K H p xs) (h':SqT X.K H p ys):False:=by
 obtain ⟨its,_,pl,_⟩:=I.list h;obtain ⟨its',_,pt,_⟩:=I.tuple h';exact SeqAt.ne_of_list_tuple (s:=s) pl.isList pt rfl
theorem Rep.inj (I:Inv X aq σ H s) {d:D}{v:V}(r:Rep X.K H d v):∀ {e:D},Rep X.K H e v->d=e:=by
 induction r with
 | non=>intro e r';cases r';rfl
 | int i=>intro e r';cases r';rfl
 | bl c=>intro e r';cases r';rfl
 | str x=>intro e r';cases r';rfl
 | @tup p xs ds h hl hr ih=>
  intro e r';cases r' with
  | @tup _ ys es h' hl' hr'=>
   have e1:=I.tuple_inj h h';subst e1;refine congrArg D.tup (Eu fun i=>?_);by_cases hi:i<ds.length
   ·have h2:i<xs.length:=by omega
    have h3:i<es.length:=by omega
    rw [Fj hi,Fj h3];exact congrArg some (ih i _ _ (Fj hi) (Fj h2) (hr' i _ _ (Fj h3) (Fj h2)))
   ·rw [Ec (by omega),Ec (by omega)]
  | lst h' hl' hr'=>exact (I.lt_ne h' h).elim
 | @lst p xs ds h hl hr ih=>
  intro e r';cases r' with
  | tup h' hl' hr'=>exact (I.lt_ne h h').elim
  | @lst _ ys es h' hl' hr'=>
   have e1:=I.list_inj h h';subst e1;refine congrArg D.lst (Eu fun i=>?_);by_cases hi:i<ds.length
   ·have h2:i<xs.length:=by omega
    have h3:i<es.length:=by omega
    rw [Fj hi,Fj h3];exact congrArg some (ih i _ _ (Fj hi) (Fj h2) (hr' i _ _ (Fj h3) (Fj h2)))
   ·rw [Ec (by omega),Ec (by omega)]
open Classical in
def eqIt (ds es:List D) (j:Nat):Bool:=decide (ds[j]?=es[j]?)
open Classical in
theorem eqIt_iff {ds es:List D}:eqIt ds es j=true↔ds[j]?=es[j]?:=by
 unfold eqIt;exact EL
theorem XG {ds es:List D}(hl:ds.length=es.length):(List.range ds.length).all (eqIt ds es)=true↔ds=es:=by
 rw [Eo];constructor
 ·intro h;refine Eu fun i=>?_
  by_cases hi:i<ds.length
  ·exact eqIt_iff.mp (h i (List.mem_range.mpr hi))
  ·rw [Ec (by omega),Ec (by omega)]
 ·intro h i _;subst h;exact eqIt_iff.mpr rfl
theorem RelV.ref_of (r:RelV (.ref p) u):u=.ref p:=r
theorem RF (I:Inv X aq σ H s) {d:D}{x:V}(r:Rep X.K H d x):∀ {n:Nat}{A:Around}{e:D}{y:V}{u v:Value}{b:Bool},DB n d->A.units+n<cLine->Rep X.K H e y->RelV x u->RelV y v->(b=true↔d=e)->SeqAt.EqAt A s u v b:=by
 induction r with
 | non=>
  intro n A e y u v b _ hn r' ru rv hb;obtain rfl:u=Value.none:=ru;cases r' with
  | non=>obtain rfl:v=Value.none:=rv;have:b=true:=hb.mpr rfl;subst this;exact SeqAt.EqAt.same _
  | int j=>obtain ⟨t,rfl⟩:=rv;have:b=false:=FE.mpr fun z=>nomatch (hb.mp z);subst this;exact SeqAt.EqAt.none_int _ _
  | bl c=>obtain rfl:v=Value.bool c:=rv;have:b=false:=FE.mpr fun z=>nomatch (hb.mp z);subst this;exact SeqAt.EqAt.none_bool _
  | str j=>obtain ⟨t,rfl⟩:=rv;have:b=false:=FE.mpr fun z=>nomatch (hb.mp z);subst this;exact SeqAt.EqAt.none_str _ _
  | tup h' hl' hr'=>
   obtain rfl:=rv.ref_of;have:b=false:=FE.mpr fun z=>nomatch (hb.mp z)
   subst this;obtain ⟨its,_,pt,_⟩:=I.tuple h';exact SeqAt.EqAt.none_tuple pt (by omega)
  | lst h' hl' hr'=>
   obtain rfl:=rv.ref_of;have:b=false:=FE.mpr fun z=>nomatch (hb.mp z)
   subst this;obtain ⟨its,_,pt,_⟩:=I.list h';exact SeqAt.EqAt.none_list pt.isList (by omega)
 | int i=>
  intro n A e y u v b _ hn r' ru rv hb;obtain ⟨tu,rfl⟩:=ru;cases r' with
  | non=>obtain rfl:v=Value.none:=rv;have:b=false:=FE.mpr fun z=>nomatch (hb.mp z);subst this;exact SeqAt.EqAt.int_none _ _
  | int j=>
   obtain ⟨t,rfl⟩:=rv;have:b=(i == j):=by
    by_cases q:i=j
    ·subst q;rw [hb.mpr rfl];simp
    ·have:b=false:=FE.mpr fun z=>q (by have:=hb.mp z;injection this)
     rw [this];simp [q]
   subst this;exact SeqAt.EqAt.int_int _ _ _ _
  | bl c=>
   obtain rfl:v=Value.bool c:=rv;have:b=(i == if c=true then 1 else 0):=by
    generalize (if c=true then (1:Int) else 0)=j at *;by_cases q:i=j
    ·subst q;rw [hb.mpr rfl];simp
    ·have:b=false:=FE.mpr fun z=>q (by have:=hb.mp z;injection this)
     rw [this];simp [q]
   subst this;exact SeqAt.EqAt.int_bool _ _ _
  | str j=>obtain ⟨t,rfl⟩:=rv;have:b=false:=FE.mpr fun z=>nomatch (hb.mp z);subst this;exact SeqAt.EqAt.int_str _ _ _ _
  | tup h' hl' hr'=>
   obtain rfl:=rv.ref_of;have:b=false:=FE.mpr fun z=>nomatch (hb.mp z)
   subst this;obtain ⟨its,_,pt,_⟩:=I.tuple h';exact SeqAt.EqAt.int_tuple _ _ pt (by omega)
  | lst h' hl' hr'=>
   obtain rfl:=rv.ref_of;have:b=false:=FE.mpr fun z=>nomatch (hb.mp z)
   subst this;obtain ⟨its,_,pt,_⟩:=I.list h';exact SeqAt.EqAt.int_list _ _ pt.isList (by omega)
 | bl k=>
  intro n A e y u v b _ hn r' ru rv hb;obtain rfl:u=Value.bool k:=ru;cases r' with
  | non=>obtain rfl:v=Value.none:=rv;have:b=false:=FE.mpr fun z=>nomatch (hb.mp z);subst this;exact SeqAt.EqAt.bool_none _
  | int j=>
   obtain ⟨t,rfl⟩:=rv;have:b=((if k=true then 1 else 0) == j):=by
    generalize (if k=true then (1:Int) else 0)=i at *;by_cases q:i=j
    ·subst q;rw [hb.mpr rfl];simp
    ·have:b=false:=FE.mpr fun z=>q (by have:=hb.mp z;injection this)
     rw [this];simp [q]
   subst this;exact SeqAt.EqAt.bool_int _ _ _
  | bl c=>
   obtain rfl:v=Value.bool c:=rv;have:b=(k == c):=by
    rw [F7,hb,beq_iff_eq];cases k <;> cases c <;> simp
   subst this;exact SeqAt.EqAt.bool_bool _ _
  | str j=>obtain ⟨t,rfl⟩:=rv;have:b=false:=FE.mpr fun z=>nomatch (hb.mp z);subst this;exact SeqAt.EqAt.bool_str _ _ _
  | tup h' hl' hr'=>
   obtain rfl:=rv.ref_of;have:b=false:=FE.mpr fun z=>nomatch (hb.mp z);subst this
   obtain ⟨its,_,pt,_⟩:=I.tuple h';exact SeqAt.EqAt.bool_tuple _ pt (by omega)
  | lst h' hl' hr'=>
   obtain rfl:=rv.ref_of;have:b=false:=FE.mpr fun z=>nomatch (hb.mp z);subst this
   obtain ⟨its,_,pt,_⟩:=I.list h';exact SeqAt.EqAt.bool_list _ pt.isList (by omega)
 | str i=>
  intro n A e y u v b _ hn r' ru rv hb;obtain ⟨tu,rfl⟩:=ru;cases r' with
  | non=>obtain rfl:v=Value.none:=rv;have:b=false:=FE.mpr fun z=>nomatch (hb.mp z);subst this;exact SeqAt.EqAt.str_none _ _
  | int j=>obtain ⟨t,rfl⟩:=rv;have:b=false:=FE.mpr fun z=>nomatch (hb.mp z);subst this;exact SeqAt.EqAt.str_int _ _ _ _
  | bl c=>obtain rfl:v=Value.bool c:=rv;have:b=false:=FE.mpr fun z=>nomatch (hb.mp z);subst this;exact SeqAt.EqAt.str_bool _ _ _
  | str j=>
   obtain ⟨t,rfl⟩:=rv;have:b=(i == j):=by
    by_cases q:i=j
    ·subst q;rw [hb.mpr rfl];simp
    ·have:b=false:=FE.mpr fun z=>q (by have:=hb.mp z;injection this)
     rw [this];simp [q]
   subst this;exact SeqAt.EqAt.str_str _ _ _ _
  | tup h' hl' hr'=>
   obtain rfl:=rv.ref_of;have:b=false:=FE.mpr fun z=>nomatch (hb.mp z)
   subst this;obtain ⟨its,_,pt,_⟩:=I.tuple h';exact SeqAt.EqAt.str_tuple _ _ pt (by omega)
  | lst h' hl' hr'=>
   obtain rfl:=rv.ref_of;have:b=false:=FE.mpr fun z=>nomatch (hb.mp z)
   subst this;obtain ⟨its,_,pt,_⟩:=I.list h';exact SeqAt.EqAt.str_list _ _ pt.isList (by omega)
 | @tup p xs ds h hl hr ih=>
  intro n A e y u v b hdb hn r' ru rv hb;obtain rfl:=ru.ref_of;obtain ⟨its,rI,pt,_⟩:=I.tuple h;cases hdb with
  | @tup n' _ hdb=>
  cases r' with
  | non=>obtain rfl:v=Value.none:=rv;have:b=false:=FE.mpr fun z=>nomatch (hb.mp z);subst this;exact SeqAt.EqAt.tuple_none pt (by omega)
  | int j=>obtain ⟨t,rfl⟩:=rv;have:b=false:=FE.mpr fun z=>nomatch (hb.mp z);subst this;exact SeqAt.EqAt.tuple_int _ _ pt (by omega)
  | bl c=>obtain rfl:v=Value.bool c:=rv;have:b=false:=FE.mpr fun z=>nomatch (hb.mp z);subst this;exact SeqAt.EqAt.tuple_bool _ pt (by omega)
  | str j=>obtain ⟨t,rfl⟩:=rv;have:b=false:=FE.mpr fun z=>nomatch (hb.mp z);subst this;exact SeqAt.EqAt.tuple_str _ _ pt (by omega)
  | @tup p' ys es h' hl' hr'=>
   obtain rfl:=rv.ref_of;obtain ⟨its',rI',pt',_⟩:=I.tuple h';by_cases hp:p=p'
   ·subst hp;have:D.tup ds=D.tup es:=Rep.inj I (.tup h hl hr) (.tup h' hl' hr');rw [hb.mpr this];exact SeqAt.EqAt.same _
   ·have z1:its.length=xs.length:=rI.length.symm;have z2:its'.length=ys.length:=rI'.length.symm;have key:=SeqAt.RcAt.tuples (A:=A) (s:=s) (e:=eqIt ds es) pt pt' (by omega) (fun j h1 h2=>by
     have g1:j<its.length:=by simpa using h1
     have g2:j<its'.length:=by simpa using h2
     have k1:ds[j]?=some ds[j]:=Fj (by omega);have k2:es[j]?=some es[j]:=Fj (by omega);obtain ⟨w1,e1,rw1⟩:=rI.get (Fj (show j<xs.length by omega));obtain ⟨w2,e2,rw2⟩:=rI'.get (Fj (show j<ys.length by omega));have f1:its.toArray[j]=w1:=by
      have:=Fj g1;rw [e1] at this;simpa using (Fy this).symm
     have f2:its'.toArray[j]=w2:=by
      have:=Fj g2;rw [e2] at this;simpa using (Fy this).symm
     rw [f1,f2];refine ih j _ _ k1 (Fj (show j<xs.length by omega)) (hdb _ (List.getElem_mem _)) (by show A.units+1+n'<cLine;omega) (hr' j _ _ k2 (Fj (show j<ys.length by omega))) rw1 rw2 ?_;rw [eqIt_iff,k1,k2,Option.some.injEq])
    refine SeqAt.EqAt.of_refs hp ?_;have eb:((List.range (min its.toArray.size its'.toArray.size)).all (eqIt ds es)&&its.toArray.size == its'.toArray.size)=b:=by
     have s1:its.toArray.size=ds.length:=by simp;omega
     have s2:its'.toArray.size=es.length:=by simp;omega
     rw [s1,s2];by_cases hs:ds.length=es.length
     ·rw [hs,Nat.min_self,beq_self_eq_true,Bool.and_true,<-hs];rw [F7,XG hs,hb];exact ⟨fun z=>by rw [z],fun z=>by injection z⟩
     ·have f:(ds.length == es.length)=false:=by simpa using hs
      rw [f,Ef];exact (FE.mpr fun z=>hs (by have:=hb.mp z;injection this with this;rw [this])).symm
    rw [eb] at key;exact key
  | @lst p' ys es h' hl' hr'=>
   obtain rfl:=rv.ref_of;have:b=false:=FE.mpr fun z=>nomatch (hb.mp z)
   subst this;obtain ⟨its',_,pl,_⟩:=I.list h';exact SeqAt.EqAt.tuple_list pt pl.isList (by omega)
 | @lst p xs ds h hl hr ih=>
  intro n A e y u v b hdb hn r' ru rv hb;obtain rfl:=ru.ref_of;obtain ⟨its,rI,pt,_⟩:=I.list h;cases hdb with
  | @lst n' _ hdb=>
  cases r' with
  | non=>obtain rfl:v=Value.none:=rv;have:b=false:=FE.mpr fun z=>nomatch (hb.mp z);subst this;exact SeqAt.EqAt.list_none pt.isList (by omega)
  | int j=>obtain ⟨t,rfl⟩:=rv;have:b=false:=FE.mpr fun z=>nomatch (hb.mp z);subst this;exact SeqAt.EqAt.list_int _ _ pt.isList (by omega)
  | bl c=>obtain rfl:v=Value.bool c:=rv;have:b=false:=FE.mpr fun z=>nomatch (hb.mp z);subst this;exact SeqAt.EqAt.list_bool _ pt.isList (by omega)
  | str j=>obtain ⟨t,rfl⟩:=rv;have:b=false:=FE.mpr fun z=>nomatch (hb.mp z);subst this;exact SeqAt.EqAt.list_str _ _ pt.isList (by omega)
  | @tup p' ys es h' hl' hr'=>
   obtain rfl:=rv.ref_of;have:b=false:=FE.mpr fun z=>nomatch (hb.mp z)
   subst this;obtain ⟨its',_,pl,_⟩:=I.tuple h';exact SeqAt.EqAt.list_tuple pt.isList pl (by omega)
  | @lst p' ys es h' hl' hr'=>
   obtain rfl:=rv.ref_of;obtain ⟨its',rI',pt',_⟩:=I.list h';by_cases hp:p=p'
   ·subst hp;have:D.lst ds=D.lst es:=Rep.inj I (.lst h hl hr) (.lst h' hl' hr');rw [hb.mpr this];exact SeqAt.EqAt.same _
   ·have z1:its.length=xs.length:=rI.length.symm;have z2:its'.length=ys.length:=rI'.length.symm;refine SeqAt.EqAt.of_refs hp ?_;have s1:its.toArray.size=ds.length:=by simp;omega
    have s2:its'.toArray.size=es.length:=by simp;omega
    by_cases hs:ds.length=es.length
    ·have key:=SeqAt.RcAt.lists (A:=A) (s:=s) (e:=eqIt ds es) pt.isList pt'.isList (by rw [s1,s2,hs]) (by omega) (fun j h1 h2=>by
      have g1:j<its.length:=by simpa using h1
      have g2:j<its'.length:=by simpa using h2
      have k1:ds[j]?=some ds[j]:=Fj (by omega);have k2:es[j]?=some es[j]:=Fj (by omega);obtain ⟨w1,e1,rw1⟩:=rI.get (Fj (show j<xs.length by omega));obtain ⟨w2,e2,rw2⟩:=rI'.get (Fj (show j<ys.length by omega));have f1:its.toArray[j]=w1:=by
       have:=Fj g1;rw [e1] at this;simpa using (Fy this).symm
      have f2:its'.toArray[j]=w2:=by
       have:=Fj g2;rw [e2] at this;simpa using (Fy this).symm
      rw [f1,f2];refine ih j _ _ k1 (Fj (show j<xs.length by omega)) (hdb _ (List.getElem_mem _)) (by show A.units+1+n'<cLine;omega) (hr' j _ _ k2 (Fj (show j<ys.length by omega))) rw1 rw2 ?_;rw [eqIt_iff,k1,k2,Option.some.injEq])
     have eb:(List.range its.toArray.size).all (eqIt ds es)=b:=by
      rw [s1,F7,XG hs,hb];exact ⟨fun z=>by rw [z],fun z=>by injection z⟩
     rw [eb] at key;exact key
    ·have:b=false:=FE.mpr fun z=>hs (by have:=hb.mp z;injection this with this;rw [this])
     subst this;exact SeqAt.RcAt.lists_lengths pt.isList pt'.isList (by rw [s1,s2];simpa using hs) (by omega)
theorem K5 (I:Inv X aq σ H s) {A:Around}{n:Nat}{ds es:List D}{xs ys:List V}{its its':List Value}(hdb:∀ d∈ds,DB n d) (hn:A.units+1+n<cLine)
  (hl:ds.length=xs.length) (hr:∀ (i:Nat) d x,ds[i]?=some d->xs[i]?=some x->Rep X.K H d x) (hl':es.length=ys.length) (hr':∀ (i:Nat) d x,es[i]?=some d->ys[i]?=some x->Rep X.K H d x)
  (rI:Vals xs its) (rI':Vals ys its'):∀ j (h1:j<its.toArray.size) (h2:j<its'.toArray.size),SeqAt.EqAt A.in1 s its.toArray[j] its'.toArray[j] (eqIt ds es j):=fun j h1 h2=>by
 have z1:its.length=xs.length:=rI.length.symm;have z2:its'.length=ys.length:=rI'.length.symm;have g1:j<its.length:=by simpa using h1
 have g2:j<its'.length:=by simpa using h2
 have k1:ds[j]?=some ds[j]:=Fj (by omega);have k2:es[j]?=some es[j]:=Fj (by omega);obtain ⟨w1,e1,rw1⟩:=rI.get (Fj (show j<xs.length by omega));obtain ⟨w2,e2,rw2⟩:=rI'.get (Fj (show j<ys.length by omega));have f1:its.toArray[j]=w1:=by
  have:=Fj g1;rw [e1] at this;simpa using (Fy this).symm
 have f2:its'.toArray[j]=w2:=by
  have:=Fj g2;rw [e2] at this;simpa using (Fy this).symm
 rw [f1,f2];refine RF I (hr j _ _ k1 (Fj (show j<xs.length by omega))) (hdb _ (List.getElem_mem _)) (by show A.units+1+n<cLine;omega) (hr' j _ _ k2 (Fj (show j<ys.length by omega))) rw1 rw2 ?_;rw [eqIt_iff,k1,k2,Option.some.injEq]
def LG (K:W.Frag) (neg:Bool):R2:=fun x y H Q=>∃ p r d e b,x=.ref p/\y=.ref r/\Rep K H d x/\Rep K H e y/\DB 30 d/\(b=true↔d=e)/\Q (.bl (if neg then !b else b)) H
theorem RY (hu:X.A.units+64<cLine):OpR X (compareOp .Eq) (LG X.K false):=by
 intro aq s σ H x y v u Q I rx ry h;obtain ⟨p,r,d,e,b,rfl,rfl,rd,re,hdb,hb,q⟩:=h;obtain rfl:=rx.ref_of;obtain rfl:=ry.ref_of;have q:Q (.bl b) H:=q;cases rd with
 | @tup _ xs ds h1 hl hr=>
  obtain ⟨its,rI,pt,_⟩:=I.tuple h1;cases hdb with
  | tup hdb=>
  cases re with
  | @tup _ ys es h2 hl' hr'=>
   obtain ⟨its',rI',pt',_⟩:=I.tuple h2;refine SeqAt.eq_tupleAt pt pt' (by omega) (K5 I hdb (by omega) hl hr hl' hr' rI rI') ⟨.bl _,H,I,rfl,?_⟩;have z1:its.length=xs.length:=rI.length.symm;have z2:its'.length=ys.length:=rI'.length.symm;have eb:((List.range (min its.toArray.size its'.toArray.size)).all (eqIt ds es)&&its.toArray.size == its'.toArray.size)=b:=by
    have s1:its.toArray.size=ds.length:=by simp;omega
    have s2:its'.toArray.size=es.length:=by simp;omega
    rw [s1,s2];by_cases hs:ds.length=es.length
    ·rw [hs,Nat.min_self,beq_self_eq_true,Bool.and_true,<-hs];rw [F7,XG hs,hb];exact ⟨fun z=>by rw [z],fun z=>by injection z⟩
    ·have f:(ds.length == es.length)=false:=by simpa using hs
     rw [f,Ef];exact (FE.mpr fun z=>hs (by have:=hb.mp z;injection this with this;rw [this])).symm
   rw [eb];exact q
  | @lst _ ys es h2 hl' hr'=>
   obtain ⟨its',rI',pl,_⟩:=I.list h2;have:b=false:=FE.mpr fun z=>nomatch (hb.mp z)
   subst this;exact SeqAt.RcAt.tuple_list pt pl.isList (by omega) _ _ _ _ ⟨.bl _,H,I,rfl,q⟩
 | @lst _ xs ds h1 hl hr=>
  obtain ⟨its,rI,pt,_⟩:=I.list h1;cases hdb with
  | lst hdb=>
  cases re with
  | @tup _ ys es h2 hl' hr'=>
   obtain ⟨its',rI',pl,_⟩:=I.tuple h2;have:b=false:=FE.mpr fun z=>nomatch (hb.mp z)
   subst this;exact SeqAt.RcAt.list_tuple pt.isList pl (by omega) _ _ _ _ ⟨.bl _,H,I,rfl,q⟩
  | @lst _ ys es h2 hl' hr'=>
   obtain ⟨its',rI',pt',_⟩:=I.list h2;have z1:its.length=xs.length:=rI.length.symm;have z2:its'.length=ys.length:=rI'.length.symm;have s1:its.toArray.size=ds.length:=by simp;omega
   have s2:its'.toArray.size=es.length:=by simp;omega
   by_cases hs:ds.length=es.length
   ·refine SeqAt.eq_listAt pt.isList pt'.isList (by rw [s1,s2,hs]) (by omega) (K5 I hdb (by omega) hl hr hl' hr' rI rI') ⟨.bl _,H,I,rfl,?_⟩;have eb:(List.range its.toArray.size).all (eqIt ds es)=b:=by
     rw [s1,F7,XG hs,hb];exact ⟨fun z=>by rw [z],fun z=>by injection z⟩
    rw [eb];exact q
   ·have:b=false:=FE.mpr fun z=>hs (by have:=hb.mp z;injection this with this;rw [this])
    subst this;exact SeqAt.eq_list_lengthsAt pt.isList pt'.isList (by rw [s1,s2];simpa using hs) (by omega) ⟨.bl _,H,I,rfl,q⟩
theorem RV (hu:X.A.units+64<cLine):OpR X (compareOp .NotEq) (LG X.K true):=by
 intro aq s σ H x y v u Q I rx ry h;obtain ⟨p,r,d,e,b,rfl,rfl,rd,re,hdb,hb,q⟩:=h;obtain rfl:=rx.ref_of;obtain rfl:=ry.ref_of;have q:Q (.bl (!b)) H:=q;cases rd with
 | @tup _ xs ds h1 hl hr=>
  obtain ⟨its,rI,pt,_⟩:=I.tuple h1;cases hdb with
  | tup hdb=>
  cases re with
  | @tup _ ys es h2 hl' hr'=>
   obtain ⟨its',rI',pt',_⟩:=I.tuple h2;refine SeqAt.RcNeAt.tuples pt pt' (by omega) (K5 I hdb (by omega) hl hr hl' hr' rI rI') _ _ _ _ ⟨.bl _,H,I,rfl,?_⟩;have z1:its.length=xs.length:=rI.length.symm;have z2:its'.length=ys.length:=rI'.length.symm;have eb:((List.range (min its.toArray.size its'.toArray.size)).all (eqIt ds es)&&its.toArray.size == its'.toArray.size)=b:=by
    have s1:its.toArray.size=ds.length:=by simp;omega
    have s2:its'.toArray.size=es.length:=by simp;omega
    rw [s1,s2];by_cases hs:ds.length=es.length
    ·rw [hs,Nat.min_self,beq_self_eq_true,Bool.and_true,<-hs];rw [F7,XG hs,hb];exact ⟨fun z=>by rw [z],fun z=>by injection z⟩
    ·have f:(ds.length == es.length)=false:=by simpa using hs
     rw [f,Ef];exact (FE.mpr fun z=>hs (by have:=hb.mp z;injection this with this;rw [this])).symm
   rw [eb];exact q
  | @lst _ ys es h2 hl' hr'=>
   obtain ⟨its',rI',pl,_⟩:=I.list h2;have:b=false:=FE.mpr fun z=>nomatch (hb.mp z)
   subst this;exact SeqAt.RcNeAt.tuple_list pt pl.isList (by omega) _ _ _ _ ⟨.bl _,H,I,rfl,q⟩
 | @lst _ xs ds h1 hl hr=>
  obtain ⟨its,rI,pt,_⟩:=I.list h1;cases hdb with
  | lst hdb=>
  cases re with
  | @tup _ ys es h2 hl' hr'=>
   obtain ⟨its',rI',pl,_⟩:=I.tuple h2;have:b=false:=FE.mpr fun z=>nomatch (hb.mp z)
   subst this;exact SeqAt.RcNeAt.list_tuple pt.isList pl (by omega) _ _ _ _ ⟨.bl _,H,I,rfl,q⟩
  | @lst _ ys es h2 hl' hr'=>
   obtain ⟨its',rI',pt',_⟩:=I.list h2;have z1:its.length=xs.length:=rI.length.symm;have z2:its'.length=ys.length:=rI'.length.symm;have s1:its.toArray.size=ds.length:=by simp;omega
   have s2:its'.toArray.size=es.length:=by simp;omega
   by_cases hs:ds.length=es.length
   ·refine SeqAt.RcNeAt.lists pt.isList pt'.isList (by rw [s1,s2,hs]) (by omega) (K5 I hdb (by omega) hl hr hl' hr' rI rI') _ _ _ _ ⟨.bl _,H,I,rfl,?_⟩;have eb:(List.range its.toArray.size).all (eqIt ds es)=b:=by
     rw [s1,F7,XG hs,hb];exact ⟨fun z=>by rw [z],fun z=>by injection z⟩
    rw [eb];exact q
   ·have:b=false:=FE.mpr fun z=>hs (by have:=hb.mp z;injection this with this;rw [this])
    subst this;exact SeqAt.RcNeAt.lists_lengths pt.isList pt'.isList (by rw [s1,s2];simpa using hs) (by omega) _ _ _ _ ⟨.bl _,H,I,rfl,q⟩
def JU (K:W.Frag):R2:=fun x y H Q=>rEq x y H Q∨LG K false x y H Q
def KI (K:W.Frag):R2:=fun x y H Q=>rNe x y H Q∨LG K true x y H Q
theorem RZ (hu:X.A.units+64<cLine):OpR X (compareOp .Eq) (JU X.K):=op_eq.or (RY hu)
theorem RW (hu:X.A.units+64<cLine):OpR X (compareOp .NotEq) (KI X.K):=op_ne.or (RV hu)
end
theorem Rp {i j:Int}:JU K (.int i) (.int j) H Q=Q (.bl (decide (i=j))) H:=by
 refine Eq.trans ?_ T7;exact propext ⟨fun h=>h.resolve_right (fun ⟨_,_,_,_,_,e,_⟩=>nomatch e),.inl⟩
theorem Rf {i j:Int}:KI K (.int i) (.int j) H Q=Q (.bl (!decide (i=j))) H:=by
 refine Eq.trans ?_ TK;exact propext ⟨fun h=>h.resolve_right (fun ⟨_,_,_,_,_,e,_⟩=>nomatch e),.inl⟩
theorem Ro {i j:Str}:JU K (.str i) (.str j) H Q=Q (.bl (decide (i=j))) H:=by
 refine Eq.trans ?_ T3;exact propext ⟨fun h=>h.resolve_right (fun ⟨_,_,_,_,_,e,_⟩=>nomatch e),.inl⟩
theorem Re {i j:Str}:KI K (.str i) (.str j) H Q=Q (.bl (!decide (i=j))) H:=by
 refine Eq.trans ?_ TH;exact propext ⟨fun h=>h.resolve_right (fun ⟨_,_,_,_,_,e,_⟩=>nomatch e),.inl⟩
theorem Rq {i j:Bool}:JU K (.bl i) (.bl j) H Q=Q (.bl (decide (i=j))) H:=by
 refine Eq.trans ?_ T8;exact propext ⟨fun h=>h.resolve_right (fun ⟨_,_,_,_,_,e,_⟩=>nomatch e),.inl⟩
theorem Rh {i j:Bool}:KI K (.bl i) (.bl j) H Q=Q (.bl (!decide (i=j))) H:=by
 refine Eq.trans ?_ TL;exact propext ⟨fun h=>h.resolve_right (fun ⟨_,_,_,_,_,e,_⟩=>nomatch e),.inl⟩
theorem Kb {r:Addr}{d e:D}{b:Bool}(h1:Rep K H d (.ref p)) (h2:Rep K H e (.ref r)) (hd:DB 30 d) (hb:b=true↔d=e) (q:Q (.bl b) H):JU K (.ref p) (.ref r) H Q:=.inr ⟨p,r,d,e,b,rfl,rfl,h1,h2,hd,hb,q⟩
theorem Nt {r:Addr}{d e:D}{b:Bool}(h1:Rep K H d (.ref p)) (h2:Rep K H e (.ref r)) (hd:DB 30 d) (hb:b=true↔d=e) (q:Q (.bl (!b)) H):KI K (.ref p) (.ref r) H Q:=.inr ⟨p,r,d,e,b,rfl,rfl,h1,h2,hd,hb,q⟩
abbrev fr (t b:Int):D:=.tup [.int t,.int b]
theorem RE (h:SqT K H p [.int t,.int b]):Rep K H (fr t b) (.ref p):=by
 refine .tup h rfl fun i d x e1 e2=>?_
 match i,e1,e2 with
 | 0,e1,e2=>cases e1;cases e2;exact .int _
 | 1,e1,e2=>cases e1;cases e2;exact .int _
 | k+2,e1,e2=>simp at e1
theorem S6:DB (n+1) (fr t b):=.tup fun d hd=>by
 simp at hd;rcases hd with rfl | rfl <;> exact .int _
end L2
namespace L2
theorem MI {a:Int}(ha:0<=a) (hb:0<b):Int.gcd b (a % b)=Int.gcd a b:=by
 obtain ⟨n,rfl⟩:=Ep ha;obtain ⟨m,rfl⟩:=Ep (Int.le_of_lt hb);show Nat.gcd ((m:Int).natAbs) (((n:Int) % (m:Int)).natAbs)=Nat.gcd (n:Int).natAbs (m:Int).natAbs;rw [<-Int.natCast_emod,Int.natAbs_natCast,Int.natAbs_natCast,Int.natAbs_natCast,Nat.gcd_comm n m,Nat.gcd_comm m (n % m)];exact (Nat.gcd_rec m n).symm
theorem MH {a:Int}(ha:0<=a):(Int.gcd a 0:Int)=a:=by
 show ((Nat.gcd a.natAbs 0:Nat):Int)=a;rw [Nat.gcd_zero_right];omega
theorem Be (a b:Int):Int.gcd (if a<0 then -a else a) (if b<0 then -b else b)=Int.gcd a b:=by
 have e:∀ z:Int,(if z<0 then -z else z).natAbs=z.natAbs:=fun z=>by split <;> omega
 show Nat.gcd _ _=Nat.gcd _ _;rw [e,e]
theorem M8 (a:Int):0<=(if a<0 then -a else a):=by split <;> omega
def fsg (t b:Int):Int:=if b<0 then -(Int.gcd t b:Int) else (Int.gcd t b:Int)
def fnum (t b:Int):Int:=t.fdiv (fsg t b)
def fden (t b:Int):Int:=b.fdiv (fsg t b)
theorem U3 (hb:b≠0):0<(Int.gcd t b:Int):=by
 have h:0<Nat.gcd t.natAbs b.natAbs:=Nat.gcd_pos_of_pos_right _ (by omega);exact Int.natCast_pos.mpr h
theorem K9 (hb:b≠0):fsg t b≠0:=by
 have:=U3 (t:=t) hb;unfold fsg;split <;> omega
theorem Pn:fsg t b ∣ t:=by
 unfold fsg;split
 ·exact Int.neg_dvd.mpr (Int.gcd_dvd_left ..)
 ·exact Int.gcd_dvd_left ..
theorem Pm:fsg t b ∣ b:=by
 unfold fsg;split
 ·exact Int.neg_dvd.mpr (Dh ..)
 ·exact Dh ..
theorem JF {x d:Int}(h:d ∣ x):d*x.fdiv d=x:=by
 obtain ⟨c,rfl⟩:=h;by_cases hd:d=0
 ·subst hd;simp
 ·rw [Int.mul_fdiv_cancel_left _ hd]
theorem Va:fsg t b*fnum t b=t:=JF Pn
theorem Jg:fsg t b*fden t b=b:=JF Pm
theorem MP (hb:b≠0):0<fden t b:=by
 have h:=Jg (t:=t) (b:=b);have hg:=U3 (t:=t) hb;by_cases hn:b<0
 ·have e:fsg t b<0:=by unfold fsg;rw [Fk hn];omega
  rcases Int.lt_trichotomy (fden t b) 0 with z | z | z
  ·have:=Int.mul_pos_of_neg_of_neg e z;omega
  ·rw [z] at h;simp at h;omega
  ·exact z
 ·have e:0<fsg t b:=by unfold fsg;rw [Fh hn];omega
  rcases Int.lt_trichotomy (fden t b) 0 with z | z | z
  ·have:=Int.mul_neg_of_pos_of_neg e z;omega
  ·rw [z] at h;simp at h;omega
  ·exact z
theorem Bm (hb:b≠0):fnum t b*b=t*fden t b:=by
 have h1:=Va (t:=t) (b:=b);have h2:=Jg (t:=t) (b:=b);have:fnum t b*(fsg t b*fden t b)=fsg t b*fnum t b*fden t b:=by
  rw [<-EM,Int.mul_comm (fnum t b)]
 rw [h1,h2] at this;exact this
theorem Bh (hb:b≠0):(fnum t b).natAbs<=t.natAbs:=by
 have h:(fsg t b*fnum t b).natAbs=t.natAbs:=by rw [Va]
 rw [Ez] at h;have g:=K9 (t:=t) hb;have:1<=(fsg t b).natAbs:=by omega
 calc (fnum t b).natAbs=1*(fnum t b).natAbs:=by omega
  _<=(fsg t b).natAbs*(fnum t b).natAbs:=Nat.mul_le_mul_right _ this
  _=t.natAbs:=h
theorem Bl (hb:b≠0):(fden t b).natAbs<=b.natAbs:=by
 have h:(fsg t b*fden t b).natAbs=b.natAbs:=by rw [Jg]
 rw [Ez] at h;have g:=K9 (t:=t) hb;have:1<=(fsg t b).natAbs:=by omega
 calc (fden t b).natAbs=1*(fden t b).natAbs:=by omega
  _<=(fsg t b).natAbs*(fden t b).natAbs:=Nat.mul_le_mul_right _ this
  _=b.natAbs:=h
theorem U4:(fsg t b).natAbs=Int.gcd t b:=by unfold fsg;split <;> omega
theorem MK (hb:b≠0):(fsg t b).natAbs<=b.natAbs:=by
 rw [U4];show Nat.gcd t.natAbs b.natAbs<=b.natAbs;exact Nat.gcd_le_right _ (by omega)
theorem MR (hb:b≠0):Int.gcd (fnum t b) (fden t b)=1:=by
 have hg:0<Nat.gcd t.natAbs b.natAbs:=Nat.gcd_pos_of_pos_right _ (by omega);have e1:(fsg t b).natAbs*(fnum t b).natAbs=t.natAbs:=by rw [<-Ez,Va]
 have e2:(fsg t b).natAbs*(fden t b).natAbs=b.natAbs:=by rw [<-Ez,Jg]
 have e3:(fsg t b).natAbs=Nat.gcd t.natAbs b.natAbs:=U4;rw [e3] at e1 e2;have h:=Nat.gcd_mul_left (Nat.gcd t.natAbs b.natAbs) (fnum t b).natAbs (fden t b).natAbs;rw [e1,e2] at h;show Nat.gcd _ _=1;have h':Nat.gcd t.natAbs b.natAbs*1=Nat.gcd t.natAbs b.natAbs*Nat.gcd (fnum t b).natAbs (fden t b).natAbs:=by rw [Nat.mul_one];exact h
 exact (Nat.eq_of_mul_eq_mul_left hg h').symm
theorem natAbs_fdiv_le':∀ a b:Int,(a.fdiv b).natAbs<=a.natAbs:=fun a b=>by
 have h:=PySem.natAbs_fdiv_le a b;exact h
theorem Bd.fnum {m:Nat}{t b:Int}(h:Bd m t) (hb:b≠0):Bd m (fnum t b):=h.le (Bh hb)
theorem Bd.fden {m:Nat}{t b:Int}(h:Bd m b) (hb:b≠0):Bd m (fden t b):=h.le (Bl hb)
theorem Bd.fdiv {a:Int}(h:Bd m a):Bd m (a.fdiv b):=h.le (natAbs_fdiv_le' a b)
theorem CDivB.small {j:Int}(h0:j≠0) (h:j.natAbs<2 ^ 64):CDivB j:=⟨h0,(show Bd 64 j from h).mono (by decide)⟩
theorem at3 (a b c z:Int):∃ n:Int,atI [V.int a,V.int b,V.int c] (z % 3)=some (.int n)/\(n=a∨n=b∨n=c):=by
 have h1:=FM z (b:=3) (by decide);have h2:=FP z (b:=3) (by decide);generalize z % 3=k at *;have:k=0∨k=1∨k=2:=by omega
 rcases this with rfl | rfl | rfl
 ·exact ⟨a,rfl,.inl rfl⟩
 ·exact ⟨b,rfl,.inr (.inl rfl)⟩
 ·exact ⟨c,rfl,.inr (.inr rfl)⟩
theorem VM {a c d:Int}(hb:0<b) (hd:0<d) (g1:Int.gcd a b=1) (g2:Int.gcd c d=1) (h:a*d=c*b):a=c/\b=d:=by
 have c1:Nat.Coprime b.natAbs a.natAbs:=by rw [Nat.coprime_comm];exact g1
 have c2:Nat.Coprime d.natAbs c.natAbs:=by rw [Nat.coprime_comm];exact g2
 have hn:a.natAbs*d.natAbs=c.natAbs*b.natAbs:=by rw [<-Ez,<-Ez,h]
 have d1:b.natAbs ∣ d.natAbs:=c1.dvd_of_dvd_mul_left (by rw [hn];exact Nat.dvd_mul_left _ _);have d2:d.natAbs ∣ b.natAbs:=c2.dvd_of_dvd_mul_left (by rw [<-hn];exact Nat.dvd_mul_left _ _);have e:b.natAbs=d.natAbs:=Nat.dvd_antisymm d1 d2;have e2:b=d:=by omega
 subst e2;exact ⟨Int.eq_of_mul_eq_mul_right (by omega) h,rfl⟩
end L2
set_option maxHeartbeats 4000000
namespace L2
open PySem PySem.Spec PyProof.Rows
structure XY (X:Cx) (scope:Scope) (cl:List (Str×Addr)) (N:List Str) (caps:List (Option Nat)):Prop where
 clos:closureFor scope X.env=pure cl
 kind:scope.kind=.function
 nocell:∀ y∈scope.names,y.2≠.cell
 names:∀ y∈scope.names,y.2=.local->scope.names.lookup y.1=some .local
 sub:∀ x c,cl.lookup x=some c->X.env.cells.lookup x=some c
 has:∀ x,((relabel scope X.env).names.lookup x=some .cell∨(relabel scope X.env).names.lookup x=some .free)->∃ c,cl.lookup x=some c
 cap:∀ (i j:Nat) x,N[i]?=some x->caps[i]?=some (some j)->X.N[j]?=some x/\X.env.kindOf x=some .cell/\(relabel scope X.env).names.lookup x=some .cell
 len:caps.length=N.length
def WK (caps:List (Option Nat)) (σ:St):St:=caps.map fun o=>match o with | some j=>(σ[j]?).join | none=>none
abbrev blk (X:Cx) (scope:Scope) (cl:List (Str×Addr)) (N:List Str) (C:Addr) (s:Shared) (H:Hp) (ex:List Addr):Cx:=
 { X with N:=N,s₀:=s,H₀:=H,env:=compEnvC scope cl C X.env,outer:=X.stack,stack:=X.stack,ex:=ex,fn:=fun x=>(cl.lookup x).isNone,pn:=[],xe:=fun _ _=>False }
section
variable {X:Cx} {aq:List (Addr×Obj)} {σ:St} {H:Hp} {s:Shared} {scope:Scope} {cl:List (Str×Addr)} {N:List Str} {caps:List (Option Nat)} {fp:List Addr} {C:Addr}
theorem PJ (I:Inv X aq σ H s) (O:XY X scope cl N caps) (hf:∀ b∈fp,Xw X aq H b) (hC:s.heap.objs.size<=C) (hlt:∀ b∈fp,b<s.heap.objs.size):(blk X scope cl N C s H fp).Ok where
 mod:=I.ok.mod
 kind:=O.kind
 glob:=I.ok.glob
 blt:=I.ok.blt
 above:=hC
 inj:=fun x y c h1 h2=>I.ok.inj x y c (O.sub x c h1) (O.sub y c h2)
 has:=fun x h=>O.has x h
 cab:=fun x c h1 h2=>by
  have h1:(cl.lookup x).isNone=true:=h1;have h2:cl.lookup x=some c:=h2;rw [h2] at h1;cases h1
 hd:=I.ok.hd
 frames:=I.ok.frames
 stk:=.inl rfl
 exf:=fun b hb=>⟨FD (FL (hlt b hb) hC),fun x c h=>(hf b hb).2.2.2.2.1 x c (O.sub x c h)⟩
 bs:=I.bs
 bsz:=FR I.ok.bsz I.sz
 noex:=fun b o e hb=>by
  rcases (hf b hb).2.2.2.1 with z | z
  ·exact I.ok.noex b o e z
  ·exact absurd (FL (FL (Ft e) I.ok.bsz) z) (FG _)
 exfs:=fun b hb z=>by
  rcases FF.mp (I.stkSub b z) with q | q
  ·exact (hf b hb).2.1 q
  ·exact (hf b hb).2.2.1 q
 funs:=I.stack
 frf:=I.stkFree
theorem M3 (h:(WK caps σ)[i]?=some (some v)):∃ j,caps[i]?=some (some j)/\σ[j]?=some (some v):=by
 unfold WK at h;rw [Fv] at h;cases e:caps[i]? with
 | none=>rw [e] at h;cases h
 | some o=>
  rw [e] at h;cases o with
  | none=>cases h
  | some j=>
   refine ⟨j,rfl,?_⟩;have h:(σ[j]?).join=some v:=Fy h;cases e2:σ[j]? with
   | none=>rw [e2] at h;cases h
   | some q=>rw [e2] at h;rw [show q=some v from h]
theorem WO (I:Inv X aq σ H s) (O:XY X scope cl N caps) (hf:∀ b∈fp,Xw X aq H b) (hlt:∀ b∈fp,b<s.heap.objs.size) {h':Heap}{t':Nat}{m:Str->Option Value}(keep:∀ b o,s.heap.get? b=some o->h'.get? b=some o) (hC:s.heap.objs.size<=C) (ns:h'.Ns C m) :
  Inv (blk X scope cl N C s H fp) [] (WK caps σ) H { s with heap:=h',toks:=t' }:=by
 refine ⟨PJ I O hf hC hlt,rfl,I.bare,Un.kept keep,⟨m,ns,fun i x v h1 h2 h3=>?_⟩,fun x c e=>?_,I.hok.fresh hC,fun x c e=>I.freeC x c (O.sub x c e),fun p hp=>absurd (show p∈([]:List (Addr×Obj)) from hp) (by simp),I.hok.kept keep,?_⟩
 ·obtain ⟨j,e1,e2⟩:=M3 h2;obtain ⟨k1,k2,k3⟩:=O.cap i j x h1 e1;obtain ⟨m0,_,hl⟩:=I.loc;obtain ⟨u,r,l⟩:=hl j x v k1 e2 (.inr (.inl k2));refine ⟨u,r,?_⟩;rcases l with ⟨z,_⟩ | ⟨_,c,e,z⟩
  ·rw [k2] at z;cases z
  ·obtain ⟨c',e'⟩:=O.has x (.inl k3);have:=O.sub x c' e';rw [e] at this;cases this;exact .inr ⟨.inl k3,c,e',z.keeps keep⟩
 ·obtain ⟨v,z⟩:=I.cell x c (O.sub x c e);exact ⟨v,z.keeps keep⟩
 ·show (WK caps σ).length=N.length;unfold WK;rw [Fi,O.len]
theorem Vl (I:Inv X aq σ H s) (hf:∀ b∈fp,Xw X aq H b) {pins':List (Addr×Obj)}{σ':St}{H':Hp}{s':Shared}{h':Heap}(J:Inv (blk X scope cl N C s H fp) pins' σ' H' s') (hC:s.heap.objs.size<=C) (sb:Heap.SameBut C s'.heap h') :
  Inv X aq σ H' { s' with heap:=h' }:=by
 have ne:∀ b o,s.heap.get? b=some o->b≠C:=fun b o e=>FD (FL (Ft e) hC)
 have u:Un (frs X.stack) fp H H' s.heap s'.heap:=J.base;have hC':H' C=none:=J.free;refine I.call' (s':={ s' with heap:=h' }) (ch:=fp) J.os ⟨fun b o e n h1 h2=>(sb.2 b (ne b o e)).trans (u.keep b o e n h1 h2),fun b o e n h1 h2=>?_,u.free,fun b o e h1=>?_,u.tups,u.frzs,u.tbls⟩ (fun b o e=>?_) J.bare fun b hb=>(hf b hb).2.2.2 |> fun z=>⟨z.1,(hf b hb).2.1,z.2.1,z.2.2⟩
 ·obtain ⟨sl,q⟩:=u.slot b o e n h1 h2;exact ⟨sl,(sb.2 b (ne b o e)).trans q⟩
 ·obtain ⟨o',q⟩:=u.there b o e h1;exact ⟨o',(sb.2 b (ne b o e)).trans q⟩
 ·refine (J.hok b o e).stay (fun c w' hc q=>(sb.2 c ?_).trans q) (fun _ q=>q) fun _ _ q=>q
  rintro rfl;rcases hc with rfl | hc
  ·rw [hC'] at e;cases e
  ·rw [hC'] at hc;cases hc
theorem Inv.track {D:Addr}{o:HO}(I:Inv X aq σ H s) (h0:X.s₀.heap.objs.size<=D) (hn:H D=none) (hL:D≠X.env.locals) (h2:∀ x c,X.env.cells.lookup x=some c->c≠D) (h3:∀ p∈X.pn++aq,p.1≠D) (new:ObjOk X.prog X.w (upd H D o) s.heap D o) :
  Inv X aq σ (upd H D o) s:=by
 have ne:∀ b u,H b=some u->b≠D:=fun b u e=>Q0 e hn
 have:=I.step (h':=s.heap) (H':=upd H D o) (g':=s.gens) (t':=s.toks) (d':=s.drawn) (ch:=[D]) (fun b hb=>?_) (fun b o _ _ _ e _=>e) (fun b o _ _ _ e _=>⟨o.slots,e⟩) (fun b u hb _ n=>by rw [Qj (by simpa using hb)];exact n) (fun b o _ e=>⟨o,e⟩)
  (fun b xs e=>by rw [Qj (ne b _ e)];exact e) (fun b o' u e=>by rw [Qj (ne b _ e)];exact e) (fun b ps e=>⟨#[],by rw [Qj (ne b _ e),e];simp⟩) (fun _ z=>z) (fun b u e=>?_) I.bare
 ·exact this
 ·have e:b=D:=by simpa using hb
  subst e;exact ⟨.inr h0,hL,h2,h3⟩
 ·by_cases hb:b=D
  ·subst hb;rw [Qe] at e;cases e;exact new
  ·rw [Qj hb] at e;exact (I.hok b u e).stay (fun _ _ _ q=>q) (fun c q=>by rw [Qj (ne c _ q)];exact q) fun c xs q=>by rw [Qj (ne c _ q)];exact q
end
def PTs (X:Cx) (ifs:List Expr) (t:TT):Prop:=
 ∀ (aq:List (Addr×Obj)) (s:Shared) (σ:St) (H:Hp) (Q:Bool->Hp->Prop),Inv X aq σ H s->t σ H Q ->
  wpAny (model X.prog X.w) X.A (forIn ifs true fun c r=>if r=true then do let ok <-isTrue c X.env (eval c X.env);pure (ForInStep.yield ok) else pure (ForInStep.yield r)) (TP X aq σ Q) X.xe s
def Ry:TT:=fun _ H Q=>Q true H
theorem QT:PTs X [] Ry:=fun _ _ _ H _ I h=>wpAny_tests_nil ⟨H,I,h⟩
theorem XR {c:Expr}{t:TT}(h:PT X c t):PTs X [c] t:=fun aq s σ H Q I q=>wpAny_tests_one (h aq s σ H Q I q)
def JP (J:It) (g:TG) (tt:TT) (te:TE) (σ0:St) (H1:Hp) (Q:VK):Prop:=
 ∃ W:Nat->Nat->List V->St->Hp->Prop,(∃ m,W 0 m [] σ0 H1)/\∀ i m acc σ H,W i m acc σ H ->
  (J.stop i H/\∀ p,H p=none->Q (.ref p) (upd H p (.lst acc))) ∨
  (J.go i H/\acc.length<sizeLine/\∀ x H',J.yld i H x H'->g x σ H' fun σ2 H2=>tt σ2 H2 fun b H3=>
   if b=true then te σ2 H3 fun v H4=>∃ m',m'<m/\W (i+1) m' (acc++[v]) σ2 H4 else ∃ m',m'<m/\W (i+1) m' acc σ2 H3)
def Kg (caps:List (Option Nat)) (wi:TI) (g:TG) (tt:TT) (te:TE):TE:=fun σ H Q=>wi σ H fun J H1=>JP J g tt te (WK caps σ) H1 Q
theorem XW {R:Result->Shared->Prop}{target:Expr}{it acc:Value}(I:Nat->Shared->Prop)
  (turn:∀ n s,I n s->wpAny (model prog w) A (pyNext it) (fun r s₁=>match r with
   | none=>R (.ok .next) s₁
   | some v=>wpAny (model prog w) A (letOwnedTupleGo target it v) (fun _ s₀=>wpAny (model prog w) A (assign target env v) (fun _ s₂=>
     wpAny (model prog w) A (forIn ifs true fun c r=>if r=true then do let ok <-isTrue c env (eval c env);pure (ForInStep.yield ok) else pure (ForInStep.yield r)) (fun ok s₃=>
      if ok=true then wpAny (model prog w) A (eval elt env) (fun x s₄=>
       wpAny (model prog w) A (call (.builtin "list.append") [acc,x]) (fun _ s₅=>∃ m,m<n/\I m s₅) (fun _ _=>False) s₄) (fun _ _=>False) s₃
      else ∃ m,m<n/\I m s₃) (fun _ _=>False) s₂) (fun _ _=>False) s₀) (fun _ _=>False) s₁) (fun _ _=>False) s)
  (n:Nat) (h:I n s):codeAny (model prog w) A (.compLoop (.ListComp elt [⟨target,iter,ifs,0⟩] scope pos) 0 it acc env) R s:=by
 refine codeAny_loop rfl I (fun n s hI=>?_) n h;show wpAny _ A ((compTurn (.ListComp elt [⟨target,iter,ifs,0⟩] scope pos) 0 it acc env).onRaise (fun x=>do noteFrame x env;theTreesLotGoes x)) _ _ s;refine wpAny_noted ?_;rw [compTurn_list];refine Fg (wpAny_standAt (Fg (FV (turn n s hI) (fun r s₁ h₁=>?_) fun _ _ h'=>False.elim h')));cases r with
 | none=>exact Fs h₁
 | some v=>
  refine Fg (FV h₁ (fun _ s₀ h₀=>?_) fun _ _ h'=>False.elim h');refine Fg (FV h₀ (fun _ s₂ h₂=>Fg (FV h₂ (fun ok s₃ h₃=>?_) fun _ _ h'=>False.elim h')) fun _ _ h'=>False.elim h');cases ok with
  | false=>exact Fs ⟨rfl,h₃⟩
  | true=>
   exact Fg (Fg (FV h₃ (fun x s₄ h₄=>Fg (FV h₄ (fun _ s₅ h₅=>Fs (Fs ⟨rfl,h₅⟩)) fun _ _ h'=>False.elim h')) fun _ _ h'=>False.elim h'))
section
variable {X:Cx}
theorem Y6 {cl:List (Str×Addr)}{wi:TI}(hc:X.calm=true) (O:XY X scope cl N caps)
  (hi:PI X tg iter wi) (hg:∀ C s H ex,PG (blk X scope cl N C s H ex) tg g) (ht:∀ C s H ex,PTs (blk X scope cl N C s H ex) ifs tt) (he:∀ C s H ex,PE (blk X scope cl N C s H ex) elt te)
  (hs:∀ v,foldedSetIterable iter X.env v=pure v:=by intro _;rfl):PE X (.ListComp elt [⟨tg,iter,ifs,0⟩] scope pos) (Kg caps wi g tt te):=by
 intro aq s σ H Q I h;rw [eval_ListComp];refine wpAny_comprehension_free (use:=none) rfl hs O.clos O.kind O.names (thn (hi aq s σ H _ I h) fun v s1 h1=>thn h1 fun itv s2 h2=>?_);obtain ⟨it,fp,tn,J,H2,e,I2,T,st2,f2,W,⟨m0,w0⟩,turn⟩:=h2;subst e;refine wpAny_newObj_type (wpAny_newFunctionEnv O.nocell (by intro y hy;simp at hy) (fun h₁ hns₁ hsb₁=>?_) O.kind);dsimp only at hns₁ hsb₁ ⊢;generalize hH2:s2.heap.push { cls:=.type "list",dict:=none,data:=.seq ([]:List Value).toArray }=P2 at hns₁ hsb₁ ⊢;have hC:P2.objs.size=s2.heap.objs.size+1:=by rw [<-hH2,Heap.size_push]
 have hDC:s2.heap.objs.size≠P2.objs.size:=by rw [hC];exact FD (Dg _)
 have hCle:s2.heap.objs.size<=P2.objs.size:=by rw [hC];exact Em _
 have old:∀ b o,s2.heap.get? b=some o->h₁.get? b=some o:=fun b o e=>hsb₁.extBut b o (FD (FL (Ft e) hCle)) (FA _ (hH2 ▸ FA _ e))
 have hacc:h₁.PlainList s2.heap.objs.size #[]:=⟨_,hsb₁.extBut _ _ hDC (FA _ (hH2 ▸ FY _ rfl))⟩
 have hlt:∀ b∈fp,b<s2.heap.objs.size:=fun b hb=>by
  obtain ⟨o,e,_⟩:=T.obj 0 _ st2 b hb;exact Ft e
 generalize hCC:P2.objs.size=C at *;generalize hDD:s2.heap.objs.size=Dl at *;have I3:Inv (blk X scope cl N C s2 H2 fp) [] (WK caps σ) H2 { s2 with heap:=h₁,toks:=s2.toks+([]:List (Str×Value)).length }:=WO I2 O f2 (by rw [hDD];exact hlt) old (by rw [hDD];exact hCle) hns₁;have st3:tn 0 h₁:=T.keep 0 _ _ st2 fun b _ o e=>old b o e
 have hDn:H2 Dl=none:=I2.hok.fresh (by rw [hDD];exact Fl _);have nfs:∀ b∈fp,b ∉ frs X.stack:=fun b hb z=>by
  rcases FF.mp (I2.stkSub b z) with q | q
  ·exact (f2 b hb).2.1 q
  ·exact (f2 b hb).2.2.1 q
 have stat:∀ {H':Hp},(∀ b∈fp,H' b=none)->∀ b∈fp,Xw (blk X scope cl N C s2 H2 fp) [] H' b:=fun hn b hb=>
  ⟨hn b hb,FD (FL (hlt b hb) hCle),nfs b hb,.inl hb,fun x c e=>(f2 b hb).2.2.2.2.1 x c (O.sub x c e),fun p hp=>absurd (show p∈([]:List (Addr×Obj)) from hp) (by simp)⟩
 have cellD:∀ x c,cl.lookup x=some c->c≠Dl:=fun x c e z=>by
  obtain ⟨v,q⟩:=I2.cell x c (O.sub x c e);have:=q.lt;rw [hDD] at this;exact FG _ (z ▸ this)
 have nfsD:Dl ∉ frs X.stack:=fun z=>by
  have:=I2.stkSub Dl z;rcases FF.mp this with q | q
  ·have:=I2.lt;rw [hDD] at this;exact FG _ (q ▸ this)
  ·exact I2.nofs (by rw [hDD];exact Fl _) q
 have statD:∀ {H':Hp},H' Dl=none->Xw (blk X scope cl N C s2 H2 fp) [] H' Dl:=fun hn=>⟨hn,hDC,nfsD,.inr (Nat.le_of_eq hDD),cellD,fun p hp=>absurd (show p∈([]:List (Addr×Obj)) from hp) (by simp)⟩
 have loop:∀ s₃:Shared,s₃={ s2 with heap:=h₁,toks:=s2.toks+([]:List (Str×Value)).length } ->
   codeAny (model X.prog X.w) X.A (.compLoop (.ListComp elt [⟨tg,iter,ifs,0⟩] scope pos) 0 (.ref it) (.ref Dl) (compEnvC scope cl C X.env))
    (compPost (model X.prog X.w) X.A X.xe none (EP X aq σ Q) (.ref Dl) C) s₃:=by
  intro s₃ hs3;subst hs3;refine XW (fun n s'=>∃ i σ' H' acc its,Inv (blk X scope cl N C s2 H2 fp) [] σ' H' s'/\tn i s'.heap/\(∀ b∈fp,H' b=none)/\H' Dl=none/\Vals acc its/\s'.heap.PlainList Dl its.toArray/\acc.length<=sizeLine/\W i n acc σ' H') ?_ m0
   ⟨0,WK caps σ,H2,[],[],I3,st3,fun b hb=>(f2 b hb).1,hDn,.nil,hacc,F1 _,w0⟩
  rintro n s3 ⟨i,σ3,H3,acc,its,J3,st3,fr3,d3,va,pl3,la,w3⟩;rcases turn i n acc σ3 H3 w3 with ⟨stop,qn⟩ | ⟨go,la2,step⟩
  ·refine thn (T.done (blk X scope cl N C s2 H2 fp) rfl rfl rfl hc i [(Dl,{ cls:=.type "list",data:=.seq its.toArray (Classical.choose pl3) })] s3 σ3 H3 (fun _ _=>False) (J3.pins_of fun p hp=>?_) (fun b hb=>?_) st3 stop) fun r s4 ⟨hr,J4⟩=>?_
   ·have e:=FC.mp (show p∈[_] from hp);subst e;exact ⟨E7 pl3,d3,hDC,nfsD,fun v z=>by cases z⟩
   ·obtain ⟨q1,q2,q3,q4,q5,q6⟩:=stat fr3 b hb;refine ⟨q1,q2,q3,q4,q5,fun p hp z=>?_⟩;have e:=FC.mp (show p∈[_] from hp);subst e;exact absurd (hlt b hb) (by rw [<-z];exact FG _)
   ·subst hr;obtain ⟨m,hn,_⟩:=J4.loc;refine ⟨m,hn,fun h' sb=>?_⟩;have pD:=J4.pin (Dl,_) (by simp;rfl);have J5:=Vl I2 f2 J4 (by rw [hDD];exact hCle) sb;refine ⟨.ref Dl,upd H3 Dl (.lst acc),?_,rfl,qn _ d3⟩;refine J5.track (o:=.lst acc) (FR I2.sz (by rw [hDD];exact Fl _)) d3 (fun z=>by
     have:=I2.lt;rw [hDD,<-z] at this;exact FG _ this) (fun y c e z=>by
     obtain ⟨v,q⟩:=I2.cell y c e;have:=q.lt;rw [hDD] at this;exact FG _ (z ▸ this)) (fun p hp z=>by
     have:=Ft (I2.pin p hp).1;rw [hDD,z] at this;exact FG _ this) ⟨la,its,_,va,(sb.2 Dl hDC).trans pD.1⟩
  ·refine thn (T.item (blk X scope cl N C s2 H2 fp) rfl rfl rfl hc i [(Dl,{ cls:=.type "list",data:=.seq its.toArray (Classical.choose pl3) })] s3 σ3 H3 (fun _ _=>False) (J3.pins_of fun p hp=>?_) (fun b hb=>?_) st3 go) fun r s4 ⟨u,hr,h4⟩=>?_
   ·have e:=FC.mp (show p∈[_] from hp);subst e;exact ⟨E7 pl3,d3,hDC,nfsD,fun v z=>by cases z⟩
   ·obtain ⟨q1,q2,q3,q4,q5,q6⟩:=stat fr3 b hb;refine ⟨q1,q2,q3,q4,q5,fun p hp z=>?_⟩;have e:=FC.mp (show p∈[_] from hp);subst e;exact absurd (hlt b hb) (by rw [<-z];exact FG _)
   ·subst hr;refine thn h4 fun _ s5 ⟨y,H5,J5,r5,y5,st5,fr5⟩=>?_
    have J5':Inv (blk X scope cl N C s2 H2 fp) ([(Dl,{ cls:=.type "list",data:=.seq its.toArray (Classical.choose pl3) })]++Xu fp s5.heap) σ3 H5 s5:=J5.pinned (fun b hb=>by
     obtain ⟨q1,q2,q3,q4,q5,q6⟩:=stat fr5 b hb;refine ⟨q1,q2,q3,q4,q5,fun p hp z=>?_⟩;have e:=FC.mp (show p∈[_] from hp);subst e;exact absurd (hlt b hb) (by rw [<-z];exact FG _)) (T.obj _ _ st5)
    refine thn (hg C s2 H2 fp _ s5 σ3 H5 y u _ J5' r5 (step y H5 y5)) fun _ s6 ⟨σ6,H6,J6,q6⟩=>?_
    refine thn (ht C s2 H2 fp _ s6 σ6 H6 _ J6 q6) fun ok s7 ⟨H7,J7,q7⟩=>?_
    have back:∀ {H8:Hp} {s8:Shared},Inv (blk X scope cl N C s2 H2 fp) ([(Dl,{ cls:=.type "list",data:=.seq its.toArray (Classical.choose pl3) })]++Xu fp s5.heap) σ6 H8 s8 ->
      tn (i+1) s8.heap/\(∀ b∈fp,H8 b=none)/\H8 Dl=none/\s8.heap.PlainList Dl its.toArray:=fun {H8 s8} J8=>by
     have pb:∀ b∈fp,∀ o,s5.heap.get? b=some o->s8.heap.get? b=some o/\H8 b=none:=fun b hb o e=>by
      have:=J8.pin (b,o) (F8 _ (F8 _ (Xg hb e)));exact ⟨this.1,this.2.1⟩
     have pd:=J8.pin (Dl,_) (F8 _ (EI _ (FC.mpr rfl)));refine ⟨T.keep _ _ _ st5 fun b hb o e=>(pb b hb o e).1,fun b hb=>?_,pd.2.1,⟨_,pd.1⟩⟩;obtain ⟨o,e,_⟩:=T.obj _ _ st5 b hb;exact (pb b hb o e).2
    cases ok with
    | false=>
     rw [Fh FS] at q7 ⊢;obtain ⟨m',hm,w7⟩:=q7;obtain ⟨b1,b2,b3,b4⟩:=back J7;exact ⟨m',hm,i+1,σ6,H7,acc,its,J7.pins_of (fun p hp=>absurd hp (by simp)),b1,b2,b3,va,b4,la,w7⟩
    | true=>
     rw [Fk rfl] at q7 ⊢;refine thn (he C s2 H2 fp _ s7 σ6 H7 _ J7 q7) fun z s8 ⟨zv,H8,J8,r8,q8⟩=>?_
     obtain ⟨m',hm,w8⟩:=q8;obtain ⟨b1,b2,b3,b4⟩:=back J8;have z1:its.length=acc.length:=va.length.symm;refine wpAny_list_append_plain (hsz:=by rw [FJ];omega) b4 fun h9 pl9 sb9=>?_
     have J9:Inv (blk X scope cl N C s2 H2 fp) [] σ6 H8 { s8 with heap:=h9,toks:=s8.toks }:=by
      obtain ⟨k0,k1,k2,k3,k4,k5⟩:=statD (H':=H8) b3;exact (J8.pins_of (pins':=[]) (fun p hp=>absurd hp (by simp))).turned (it:=Dl) (fun b o hb e=>(sb9.2 b hb).trans e) k0 k1 k3 k4 k5
     refine ⟨m',hm,i+1,σ6,H8,acc++[zv],its++[z],J9,T.keep _ _ _ b1 fun b hb o e=>(sb9.2 b (FD (hlt b hb))).trans e,b2,b3,va.append (.cons r8 .nil),?_,?_,w8⟩
     ·simpa using pl9
     ·rw [Fo,Fz];omega
 exact codeAny_compStart_list (loop _ rfl) (T.self X.A 0 _ _ _ st3 (loop _ rfl))
theorem Zd {cl:List (Str×Addr)}{wi:TI}(hc:X.calm=true) (O:XY X scope cl N caps)
  (hi:PI X (.Name x px) iter wi) (hg:∀ C s H ex,PG (blk X scope cl N C s H ex) (.Name x px) g) (ht:∀ C s H ex,PTs (blk X scope cl N C s H ex) ifs tt) (he:∀ C s H ex,PE (blk X scope cl N C s H ex) elt te)
  (hs:∀ v,foldedSetIterable iter X.env v=pure v:=by intro _;rfl):PE X (.ListComp elt [⟨.Name x px,iter,ifs,0⟩] scope pos) (Kg caps wi g tt te):=Y6 hc O hi hg ht he hs
end
theorem ObjOk.there {o:HO}(x:ObjOk P w H h a o):∃ u,h.get? a=some u:=by
 cases o with
 | lst xs=>obtain ⟨_,_,_,_,e⟩:=x;exact ⟨_,e⟩
 | tup xs=>obtain ⟨_,_,_,_,e,_⟩:=x;exact ⟨_,e⟩
 | dK kvs=>obtain ⟨_,_,_,_,o,_,_,e,_⟩:=x;exact ⟨_,e⟩
 | dT kvs=>obtain ⟨_,_,_,_,o,_,_,e,_⟩:=x;exact ⟨_,e⟩
 | set S n=>obtain ⟨o,_,_,_,e,_⟩:=x;exact ⟨_,e⟩
 | ins C dx fs=>obtain ⟨_,_,_,e,_⟩:=x;exact ⟨_,e⟩
 | own y=>exact x
 | xd fs=>obtain ⟨_,⟨_,_,_,e,_⟩,_⟩:=x;exact ⟨_,e⟩
 | rng lo hi=>obtain ⟨_,_,_,e⟩:=x;exact ⟨_,e⟩
 | frz ob u=>obtain ⟨e,_⟩:=x;exact ⟨_,e⟩
 | tbl ps=>exact ⟨_,show h.get? a=some _ from x⟩
 | met f y=>exact ⟨_,show h.get? a=some _ from x⟩
 | ext φ=>obtain ⟨_,e,_⟩:=x;exact e
section
variable {X:Cx} {aq:List (Addr×Obj)} {σ:St} {H H':Hp} {s:Shared} {h':Heap}
theorem Inv.stepN (I:Inv X aq σ H s)
  (hch:∀ b∈ch,X.s₀.heap.get? b=none/\b≠X.env.locals/\(∀ x c,X.env.cells.lookup x=some c->c≠b)/\∀ p∈X.pn++aq,p.1≠b)
  (keep:∀ b o,b≠X.env.locals->b ∉ X.fs->b ∉ ch->s.heap.get? b=some o->H b=none->h'.get? b=some o)
  (slot:∀ b o,b≠X.env.locals->b∈X.fs->b ∉ ch->s.heap.get? b=some o->H b=none->∃ sl,h'.get? b=some { o with slots:=sl }) (free:∀ b o,b ∉ ch->s.heap.get? b=some o->H b=none->H' b=none)
  (there:∀ b o,b ∉ ch->s.heap.get? b=some o->∃ o',h'.get? b=some o')
  (tups:∀ b xs,H b=some (.tup xs)->H' b=some (.tup xs)) (frzs:∀ b o u,H b=some (.frz o u)->H' b=some (.frz o u)) (tbls:∀ b ps,H b=some (.tbl ps)->∃ more,H' b=some (.tbl (ps++more)))
  (ns:∀ m,s.heap.Ns X.env.locals m->h'.Ns X.env.locals m) (hok:HOk X.prog X.w H' h') :
  Inv X aq σ H' { s with heap:=h' }:=by
 have neL:∀ b o,X.s₀.heap.get? b=some o->b≠X.env.locals:=fun b o e=>FD (FL (Ft e) I.ok.above)
 have neC:∀ b o,X.s₀.heap.get? b=some o->b ∉ ch:=fun b o e hb=>by
  rw [(hch b hb).1] at e;cases e
 have cellK:∀ x c,X.env.cells.lookup x=some c->∀ v,s.heap.IsCell c v->h'.IsCell c v:=fun x c e v ⟨o,ho,hd⟩=>by
  have nch:c ∉ ch:=fun z=>(hch c z).2.2.1 x c e rfl
  by_cases hc:c∈X.fs
  ·obtain ⟨sl,q⟩:=slot c o (I.cne x c e) hc nch ho (I.freeC x c e);exact ⟨_,q,hd⟩
  ·exact ⟨o,keep c o (I.cne x c e) hc nch ho (I.freeC x c e),hd⟩
 refine ⟨I.ok,I.os,I.bare,⟨fun b o e n hb hx=>?_,fun b o e n hb hx=>?_,fun b o e n hx=>?_,fun b o e hx=>?_,fun b xs e=>tups b xs (I.base.tups b xs e),fun b o xs e=>frzs b o xs (I.base.frzs b o xs e),fun b ps e=>?_⟩,?_,fun x c e=>?_,?_,fun x c e=>?_,fun p hp=>?_,hok,I.len⟩
 ·exact keep b o (neL b o e) hb (neC b o e) (I.base.keep b o e n hb hx) (I.base.free b o e n hx)
 ·obtain ⟨sl,e1⟩:=I.base.slot b o e n hb hx;obtain ⟨sl',e2⟩:=slot b _ (neL b o e) hb (neC b o e) e1 (I.base.free b o e n hx);exact ⟨sl',e2⟩
 ·obtain ⟨o',e1⟩:=I.base.there b o e hx;exact free b o' (neC b o e) e1 (I.base.free b o e n hx)
 ·obtain ⟨o',e1⟩:=I.base.there b o e hx;exact there b o' (neC b o e) e1
 ·obtain ⟨m1,e1⟩:=I.base.tbls b ps e;obtain ⟨m2,e2⟩:=tbls b _ e1;exact ⟨m1++m2,by rw [e2,Array.append_assoc]⟩
 ·obtain ⟨m,hn,hl⟩:=I.loc;refine ⟨m,ns m hn,fun i x v e1 e2 e3=>?_⟩;obtain ⟨u,r,l⟩:=hl i x v e1 e2 e3;refine ⟨u,r,?_⟩;rcases l with l | ⟨k,c,e,z⟩
  ·exact .inl l
  ·exact .inr ⟨k,c,e,cellK x c e _ z⟩
 ·obtain ⟨v,z⟩:=I.cell x c e;exact ⟨v,cellK x c e v z⟩
 ·obtain ⟨m,⟨o,_,_,ho,_⟩,_⟩:=I.loc;exact free _ o (fun z=>(hch _ z).2.1 rfl) ho I.free
 ·obtain ⟨v,o,ho,hd⟩:=I.cell x c e;exact free c o (fun z=>(hch c z).2.2.1 x c e rfl) ho (I.freeC x c e)
 ·obtain ⟨e,n,ne,nf,d⟩:=I.pin p hp;have nch:p.1 ∉ ch:=fun z=>(hch p.1 z).2.2.2 p hp rfl
  exact ⟨keep p.1 p.2 ne nf nch e n,free p.1 p.2 nch e n,ne,nf,d⟩
def Yw (X:Cx) (aq:List (Addr×Obj)) (H:Hp) (b:Addr):Prop:=H b=none/\X.s₀.heap.get? b=none/\∀ p∈X.pn++aq,p.1≠b
def Air (X:Cx) (aq:List (Addr×Obj)) (H:Hp) (h:Heap) (cls:Value) (e:Addr):Prop:=
 ∃ oe vs T oT ts a0,h.get? e=some oe/\(oe.cls=cls/\vs[0]?=some a0)/\oe.data=.fields vs/\vs[1]?=some (.ref T)/\T≠e/\h.get? T=some oT/\oT.data=.fields ts/\ts[3]?=some .none/\Yw X aq H e/\Yw X aq H T
abbrev YE (X:Cx) (h:Heap) (ex:List Addr):Heap:=W.hideAll h (frs X.stack++ex)
theorem VP {b:Addr}{o:Obj}(e:h.get? b=some o) (h1:b ∉ frs X.stack) (h2:b ∉ ex):(YE X h ex).get? b=some o:=
 W.hideAll_get _ e fun z=>(FK.mp z).elim h1 h2
theorem Wm (I:Inv X aq σ H s) (hex:∀ b∈ex,Yw X aq H b) (hexf:∀ b∈ex,∀ o,s.heap.get? b=some o->∃ vs,o.data=.fields vs)
  (st:(YE X s.heap ex).StaysIn h') (up:s.heap.UpToSlots h'):Inv X aq σ H { s with heap:=h' }:=by
 have fr:∀ b∈frs X.stack,∀ o,s.heap.get? b=some o->∀ vs,o.data≠.fields vs:=fun b hb o e=>by
  obtain ⟨_,o',e',d⟩:=I.stack.mem hb;rw [e] at e';cases e';exact d
 have sub:∀ b,b∈X.fs->b∈frs X.stack:=fun b hb=>by
  rcases I.ok.stk with e | ⟨e,_⟩
  ·rw [e];exact hb
  ·rw [e];unfold frs;rw [List.filterMap_cons];split
   ·exact hb
   ·exact FZ _ hb
 have keepAll:∀ b o,b ∉ frs X.stack->b ∉ ex->s.heap.get? b=some o->h'.get? b=some o:=fun b o h1 h2 e=>st b o (VP e h1 h2)
 refine I.stepN (ch:=ex) (fun b hb=>⟨(hex b hb).2.1,fun z=>?_,fun x c e z=>?_,(hex b hb).2.2⟩) (fun b o h1 h2 h3 e n=>keepAll b o (fun z=>?_) h3 e) (fun b o h1 h2 h3 e n=>up b o e (fr b (sub b h2) o e)) (fun _ _ _ _ n=>n) (fun b o h1 e=>?_) (fun _ _ e=>e) (fun _ _ _ e=>e) (fun b ps e=>⟨#[],by rw [e];simp⟩) (fun m hm=>up.ns hm) (fun b u e=>?_)
 ·obtain ⟨m,⟨o,es,ep,ho,hd,_⟩,_⟩:=I.loc;subst z;obtain ⟨vs,q⟩:=hexf _ hb o ho;rw [q] at hd;cases hd
 ·obtain ⟨v,o,ho,hd⟩:=I.cell x c e;subst z;obtain ⟨vs,q⟩:=hexf _ hb o ho;rw [q] at hd;cases hd
 ·rcases FF.mp (I.stkSub b z) with q | q
  ·exact h1 q
  ·exact h2 q
 ·by_cases hb:b∈frs X.stack
  ·obtain ⟨sl,q⟩:=up b o e (fr b hb o e);exact ⟨_,q⟩
  ·exact ⟨o,keepAll b o hb h1 e⟩
 ·have nt:∀ c v,H c=some v->c ∉ frs X.stack/\c ∉ ex:=fun c v q=>⟨fun z=>(by rw [I.stkFree c z] at q;cases q),fun z=>(by rw [(hex c z).1] at q;cases q)⟩
  refine (I.hok b u e).stay (fun c v hc q=>?_) (fun _ q=>q) fun _ _ q=>q
  rcases hc with rfl | hc
  ·exact keepAll c v (nt c _ e).1 (nt c _ e).2 q
  ·exact keepAll c v (nt c _ hc).1 (nt c _ hc).2 q
theorem Ji {a0:Value}(I:Inv X aq σ H s) (hx0:X.ex=[]) (hex:∀ b∈ex,Yw X aq H b) (he:e∈ex) (fr:h'.FunFrames (YE X s.heap ex) X.stack) (tr:h'.TracedW (YE X s.heap ex) e cls a0):Air X aq H h' cls e:=by
 obtain ⟨oe,vs,T,oT,ts,h1,h2,h3,h4,h5,h6,h7,h8,h9⟩:=tr;refine ⟨oe,vs,T,oT,ts,a0,h1,h2,h3,h4,h6,h7,h8,h9,hex e he,?_⟩;have nf:T ∉ frs X.stack:=fun z=>by
  obtain ⟨_,o,q,d⟩:=fr.mem z;rw [h7] at q;cases q;exact d _ h8
 have no:∀ o,s.heap.get? T=some o->T∈ex:=fun o q=>by
  by_cases z:T∈ex
  ·exact z
  ·rw [VP q nf z] at h5;cases h5
 refine ⟨?_,?_,fun p hp z=>?_⟩
 ·cases q:H T with
  | none=>rfl
  | some u=>
   obtain ⟨o,z⟩:=(I.hok T u q).there;rw [(hex T (no o z)).1] at q;cases q
 ·cases q:X.s₀.heap.get? T with
  | none=>rfl
  | some o=>
   obtain ⟨o',z⟩:=I.base.there T o q (by rw [hx0];simp);rw [(hex T (no o' z)).2.1] at q;cases q
 ·have q:=(I.pin p hp).1;rw [z] at q;exact (hex T (no _ q)).2.2 p hp z
def ZQ (X:Cx):Prop:=X.ex=[]/\X.stack=X.env :: X.outer/\X.env.frame=some X.env.locals
theorem Xi (I:Inv X aq σ H s):s.heap.FunFrames (YE X s.heap ex) X.stack:=
 W.funFrames_hide I.stack fun env he a ha=>EI _ (List.mem_filterMap.mpr ⟨env,he,ha⟩)
theorem Yp:(YE X s.heap ex).StaysIn s.heap:=fun _ _ e=>W.of_hideAll _ e
theorem Wc {b:Addr}(hb:b∈ex):(YE X s.heap ex).get? b=none:=W.hideAll_none _ (F8 _ hb)
theorem Air.two (a:Air X aq H h cls e):∃ T a0,(∀ b∈[e,T],Yw X aq H b)/\(∀ b∈[e,T],∀ o,h.get? b=some o->∃ vs,o.data=.fields vs)/\h.TracedW (YE X h [e,T]) e cls a0:=by
 obtain ⟨oe,vs,T,oT,ts,a0,h1,h2,h3,h4,h6,h7,h8,h9,l1,l2⟩:=a;refine ⟨T,a0,fun b hb=>?_,fun b hb o z=>?_,oe,vs,T,oT,ts,h1,h2,h3,h4,W.hideAll_none _ (F8 _ (by simp)),h6,h7,h8,h9⟩
 ·rcases FF.mp hb with rfl | hb
  ·exact l1
  ·rw [FC.mp hb];exact l2
 ·rcases FF.mp hb with rfl | hb
  ·rw [h1] at z;cases z;exact ⟨_,h3⟩
  ·rw [FC.mp hb,h7] at z;cases z;exact ⟨_,h8⟩
theorem Mp {E:Value->Shared->Prop}{Q:Unit->Shared->Prop}(I:Inv X aq σ H s) (ow:ZQ X) (a:Air X aq H s.heap cls e)
  (q:∀ h'',Inv X aq σ H { s with heap:=h'' }->Air X aq H h'' cls e->Q () { s with heap:=h'' }):wpAny M X.A (leaving X.env (.ref e)) Q E s:=by
 obtain ⟨T,a0,hex,hexf,tr⟩:=a.two;have fs:=Xi (ex:=[e,T]) I;have fr:=I.ok.frames;rw [ow.2.1] at fs fr;refine wpAny_leaving_nextW (base:=YE X s.heap [e,T]) fr fs ow.2.2 tr Yp (Wc (by simp)) fun h'' L=>?_
 obtain ⟨l1,l2,l3,l4⟩:=L;rw [<-ow.2.1] at l2;exact q h'' (Wm I hex hexf l1 l4) (Ji I ow.1 hex (by simp) l2 l3)
end
def B1 (H:Hp) (h old:Heap) (cls:Value) (e:Addr):Prop:=
 ∃ oe vs T oT ts a0,h.get? e=some oe/\(oe.cls=cls/\vs[0]?=some a0)/\oe.data=.fields vs/\vs[1]?=some (.ref T)/\T≠e/\h.get? T=some oT/\oT.data=.fields ts/\ts[3]?=some .none/\(H e=none/\old.get? e=none)/\(H T=none/\old.get? T=none)
def CXr (P:Program) (w:World):CXT:=fun outer H s E e s'=>
 ∃ ea cls H',e=.ref ea/\s'.os=s.os/\AllBare s'.gens/\Un (frs outer) [] H H' s.heap s'.heap/\HOk P w H' s'.heap/\B1 H' s'.heap s.heap cls ea/\E cls none H'
section
variable {X:Cx} {aq:List (Addr×Obj)} {σ:St} {H:Hp} {s s':Shared} {E:XK} {e:Value}
theorem CXr.here (I:Inv X aq σ H s) (hx:X.ex=[]) (c:CXr X.prog X.w X.stack H s E e s'):∃ ea cls H',e=.ref ea/\Inv X aq σ H' s'/\Air X aq H' s'.heap cls ea/\E cls none H':=by
 obtain ⟨ea,cls,H',rfl,os,bare,un,hok,⟨oe,vs,T,oT,ts,a0,h1,h2,h3,h4,h5,h6,h7,h8,n1,n2⟩,q⟩:=c;have ls:∀ b,H' b=none->s.heap.get? b=none->Yw X aq H' b:=fun b hn ho=>by
  refine ⟨hn,?_,fun p hp z=>?_⟩
  ·cases q:X.s₀.heap.get? b with
   | none=>rfl
   | some o=>
    obtain ⟨o',z⟩:=I.base.there b o q (by rw [hx];simp);rw [ho] at z;cases z
  ·have q:=(I.pin p hp).1;rw [z,ho] at q;cases q
 exact ⟨ea,cls,H',rfl,I.call' (ch:=[]) os un hok bare (fun b z=>absurd z (by simp)),⟨oe,vs,T,oT,ts,a0,h1,h2,h3,h4,h5,h6,h7,h8,ls _ n1.1 n1.2,ls _ n2.1 n2.2⟩,q⟩
end
section
variable {P:Program} {w:World} {K:W.Frag} {mg:Str->Option Value} {base:Heap} {N:List Str} {qual:Str} {sc:Scope} {f:Addr} {cd:Value} {A:Around} {outer:List Env} {s0:Shared} {H0:Hp} {E:XK}
theorem Ma:ZQ (Wh CX P w K mg base N qual sc f cd A outer s0 H0 E):=⟨rfl,rfl,rfl⟩
end
abbrev Cx.hand (X:Cx) (e:Addr):Cx:={ X with A:=X.A.mark (some (.ref e)),calm:=false,xe:=fun _ _=>False }
section
variable {X:Cx} {aq:List (Addr×Obj)} {σ:St} {H:Hp} {s:Shared} {e:Addr}
theorem Inv.hand (I:Inv X aq σ H s) (e:Addr):Inv (X.hand e) aq σ H s:=
 ⟨⟨I.ok.mod,I.ok.kind,I.ok.glob,I.ok.blt,I.ok.above,I.ok.inj,I.ok.has,I.ok.cab,fun z=>Bool.noConfusion (show false=true from z),I.ok.frames,I.ok.stk,I.ok.exf,I.ok.bs,I.ok.bsz,I.ok.noex,I.ok.exfs,I.ok.funs,I.ok.frf⟩,
  I.os,I.bare,I.base,I.loc,I.cell,I.free,I.freeC,I.pin,I.hok,I.len⟩
theorem Inv.unhand (hok:X.Ok) (I:Inv (X.hand e) aq σ H s):Inv X aq σ H s:=⟨hok,I.os,I.bare,I.base,I.loc,I.cell,I.free,I.freeC,I.pin,I.hok,I.len⟩
theorem Inv.trackN {D:Addr}{o:HO}(I:Inv X aq σ H s) (l:Yw X aq H D) (hf:∃ u vs,s.heap.get? D=some u/\u.data=.fields vs) (new:ObjOk X.prog X.w (upd H D o) s.heap D o):Inv X aq σ (upd H D o) s:=by
 have ne:∀ b u,H b=some u->b≠D:=fun b u e=>Q0 e l.1
 obtain ⟨u,vs,hu,hd⟩:=hf;have:=I.stepN (h':=s.heap) (H':=upd H D o) (ch:=[D]) (fun b hb=>?_) (fun b o _ _ _ e _=>e) (fun b o _ _ _ e _=>⟨o.slots,e⟩) (fun b u hb _ n=>by rw [Qj (by simpa using hb)];exact n) (fun b o _ e=>⟨o,e⟩)
  (fun b xs e=>by rw [Qj (ne b _ e)];exact e) (fun b o' u e=>by rw [Qj (ne b _ e)];exact e) (fun b ps e=>⟨#[],by rw [Qj (ne b _ e),e];simp⟩) (fun _ z=>z) (fun b u e=>?_)
 ·exact this
 ·have z:=FC.mp hb;subst z;refine ⟨l.2.1,fun z=>?_,fun x c e z=>?_,l.2.2⟩
  ·obtain ⟨m,⟨o,es,ep,ho,hd',_⟩,_⟩:=I.loc;rw [<-z,hu] at ho;cases ho;rw [hd] at hd';cases hd'
  ·obtain ⟨v,o,ho,hd'⟩:=I.cell x c e;rw [z,hu] at ho;cases ho;rw [hd] at hd';cases hd'
 ·by_cases hb:b=D
  ·subst hb;rw [Qe] at e;cases e;exact new
  ·rw [Qj hb] at e;exact (I.hok b u e).stay (fun _ _ _ q=>q) (fun c q=>by rw [Qj (ne c _ q)];exact q) fun c xs q=>by rw [Qj (ne c _ q)];exact q
theorem Inv.forget {n:Str}(I:Inv X aq σ H s) (hN:X.N.Nodup) (hi:X.N[i]?=some n)
  (ns:∀ m,s.heap.Ns X.env.locals m->∃ v,h'.Ns X.env.locals (fun x=>if x=n then v else m x)) (hs:Heap.SameBut X.env.locals s.heap h'):Inv X aq (σ.set i none) H { s with heap:=h',toks:=t' }:=by
 obtain ⟨m,hn,hl⟩:=id I.loc;obtain ⟨v0,hn'⟩:=ns m hn;have hiσ:i<σ.length:=by rw [I.len];exact (EJ.mp hi).1
 have neL:∀ b o,X.s₀.heap.get? b=some o->b≠X.env.locals:=fun b o e=>FD (FL (Ft e) I.ok.above)
 refine ⟨I.ok,I.os,I.bare,⟨fun b o e n hb hx=>?_,fun b o e n hb hx=>?_,I.base.free,fun b o e hx=>?_,I.base.tups,I.base.frzs,I.base.tbls⟩,⟨_,hn',fun j y v' e1 e2 e3=>?_⟩,fun y c e=>?_,I.free,I.freeC,fun p hp=>?_,fun b ob e=>?_,by simpa using I.len⟩
 ·exact (hs.2 b (neL b o e)).trans (I.base.keep b o e n hb hx)
 ·obtain ⟨sl,e1⟩:=I.base.slot b o e n hb hx;exact ⟨sl,(hs.2 b (neL b o e)).trans e1⟩
 ·obtain ⟨o',e1⟩:=I.base.there b o e hx;exact ⟨o',(hs.2 b (neL b o e)).trans e1⟩
 ·by_cases hj:j=i
  ·subst hj;rw [List.getElem?_set_self hiσ] at e2;cases e2
  ·rw [List.getElem?_set_ne (Ea hj)] at e2;obtain ⟨u',r',q⟩:=hl j y v' e1 e2 e3;refine ⟨u',r',?_⟩;rcases q with ⟨k,e⟩ | ⟨k,c,e,z⟩
   ·refine .inl ⟨k,?_⟩;have:y≠n:=fun e=>hj (Jw hN e1 (e ▸ hi))
    simp [this,e]
   ·exact .inr ⟨k,c,e,z.sameBut hs (I.cne y c e)⟩
 ·obtain ⟨w',z⟩:=I.cell y c e;exact ⟨w',z.sameBut hs (I.cne y c e)⟩
 ·obtain ⟨e,n,ne,nf,d⟩:=I.pin p hp;exact ⟨(hs.2 p.1 ne).trans e,n,ne,nf,d⟩
 ·refine (I.hok b ob e).stay (fun c w' hc q=>(hs.2 c ?_).trans q) (fun _ q=>q) fun _ _ q=>q
  intro z;subst z;rcases hc with z | hc
  ·rw [<-z,I.free] at e;cases e
  ·rw [I.free] at hc;cases hc
end
def BD (e:Addr) (cls:Value) (h:Heap):Prop:=∃ o vs,h.get? e=some o/\o.cls=cls/\o.data=.fields vs
abbrev TX:=St->Hp->VK->XK->Prop
def NA (sp:Sp) (t:TA):TX:=fun σ H Q E=>t σ H fun vs H1=>sp vs H1 Q E
section
variable {X:Cx} {k:Nat} {f:Addr} {fd:FuncData} {ps:List Str} {sp:Sp} {x:Str} {p pos:Pos} {e:Expr} {es:List Expr} {t:TA}
variable {tx:TX}
def sxA (i:Nat) (tx:TX):QU->XK->St->Hp->Prop:=fun D E σ H=>tx σ H (fun v H1=>D.nx (σ.set i (some v)) H1) E
end
section
variable {X:Cx} {body suite:List Stmt} {b₀:Stmt} {x n:Str} {C:Addr} {np hp pos:Pos} {tb:QU->XK->St->Hp->Prop} {ts:TS}
theorem VO {E:Value->Shared->Prop}{Q:Unit->Shared->Prop}(I:Inv X aq σ H s) (ow:ZQ X) (a:Air X aq H s.heap cls ea)
  (q:∀ h',Inv X aq σ H { s with heap:=h' }->Air X aq H h' cls ea->Q () { s with heap:=h' }):wpAny M A (setFlight (.ref ea) none) Q E s:=by
 obtain ⟨T,a0,hex,hexf,tr⟩:=a.two;refine lands_againW (base:=YE X s.heap [ea,T]) ⟨Yp,Wc (by simp),Xi I,tr⟩ fun h' fl up=>?_
 exact q h' (Wm I hex hexf fl.1 up) (Ji I ow.1 hex (by simp) fl.2.2.1 fl.2.2.2)
end
end L2
namespace L2
open PySem PySem.Spec PyProof.Rows PySem.W Builtin Builtin.ObjectAttr Builtin.Getset_descriptor
structure Q6 (K:W.Frag) (C:Addr):Prop where
 ga:W.findIn K (.ref C) "__getattribute__"=some (some (.builtin "BaseException.__getattribute__"))
 gt:W.findIn K (.ref C) "__getattr__"=some none
 ca:W.findIn K (.ref C) "__class__"=some (some (.builtin "object.__class__"))
 mB:W.mroIn K C (.type "BaseException")=some true
 mO:W.mroIn K C (.type "object")=some true
 hc:(W.clsIn K C).isSome=true
section
variable {prog:Program} {w:World} {A:Around} {E:Value->Shared->Prop} {h:Heap} {g:Array GenState} {d:Drawn} {t:Nat} {os:OsState} {K:W.Frag} {a C:Addr} {o:Obj}
theorem Pp {R:Result->Shared->Prop}{tp:Value}(Z:Q6 K C) (X:K.In h) (hx:h.get? a=some o) (hc:o.cls=.ref C) (q:R (.ok (.ret (.ref C))) ⟨h,g,d,t,os⟩) :
  codeAny (model prog w) A (.call (.builtin "getset_descriptor.__get__") ⟨[.builtin "object.__class__",.ref a,tp],[]⟩) R ⟨h,g,d,t,os⟩:=by
 have L0:W.Looks (model prog w) h (typeOf (.ref a)) (.ref C):=hc ▸ (W.Looks.ld hx).andThen .now;have L1:=W.looks_mroIn (M:=model prog w) X Z.mO;refine codeAny_call_builtin PySem.W.KF.slot_gs.plain PySem.W.KF.entry_gs (W.KF.slot_gs.check _ _ _ _ _ _ _ _ W.KF.type_class (W.KF.args_gs _ _ _) ?_);unfold Builtin.«getset_descriptor.__get__» descrGet;rw [W.dga_obj];refine Fg (Fs ?_);unfold descrGetter descrCheckInstance descrNameAndClass isInstance;simp only [W.KF.owner_class]
 repeat lk
 refine ⟨Code.quiet_builtin _ (by decide +kernel),codeAny_builtin PySem.W.KF.entry_class ?_⟩;unfold Builtin.«object.__class__» shownTypeOf
 repeat lk
 exact q
theorem G6 {tk:Tok}{Q:Fin->Shared->Prop}(Z:Q6 K C) (X:K.In h) (hx:h.get? a=some o) (hc:o.cls=.ref C) (q:Q (.done (.ret (.ref C))) ⟨h,g,d,t,os⟩) :
  wpAny (model prog w) A (Builtin.«object.__getattribute__» ⟨[.ref a,.str "__class__" tk],[]⟩) Q E ⟨h,g,d,t,os⟩:=by
 have L0:W.Looks (model prog w) h (typeOf (.ref a)) (.ref C):=hc ▸ (W.Looks.ld hx).andThen .now;have L2:=W.looks_findIn (M:=model prog w) X Z.ca;have f5:typeOf (.builtin "object.__class__")=pure (.type "getset_descriptor"):=by kernel_rfl
 have f6:=F.slot_gs_get.lookup;have f7:=F.slot_gs_set.lookup;unfold Builtin.«object.__getattribute__»
 repeat (any_goals (first | assumption | (with_reducible refine wpAny_loadPart_at hx ?_;rw [hc]) | with_reducible refine L2.at ?_ | wp_step))
 refine Pp Z X hx hc ?_
 repeat (any_goals (first | assumption | wp_step))
theorem Kq {nameV:Value}{Q:Unit->Shared->Prop}(Z:Q6 K C) (X:K.In h) (hx:h.get? a=some o) (hc:o.cls=.ref C) (q:Q () ⟨h,g,d,t,os⟩):wpAny M A (checkBuiltinCall "BaseException.__getattribute__" ⟨[.ref a,nameV],[]⟩) Q E ⟨h,g,d,t,os⟩:=by
 have hk:builtinKind "BaseException.__getattribute__"=some .slot:=by decide +kernel
 have hsplit:splitId "BaseException.__getattribute__"=some ("BaseException","__getattribute__"):=by decide +kernel
 have ha:=F.args_bexc_ga (.ref a) nameV;have L1:=W.looks_mroIn (M:=M) X Z.mB;simp only [checkBuiltinCall,hk,hsplit];refine Fg ?_;unfold isInstance
 repeat (first | (with_reducible refine wpAny_loadPart_at hx ?_;rw [hc]) | with_reducible refine L1.at ?_ | wp_step)
 exact q
theorem G7 {Q:Option Value->Shared->Prop}(Z:Q6 K C) (X:K.In h) (hx:h.get? a=some o) (hc:o.cls=.ref C) (q:Q (some (.ref C)) ⟨h,g,d,t+1,os⟩):wpAny (model prog w) A (getAttr? (.ref a) "__class__") Q E ⟨h,g,d,t,os⟩:=by
  have L0:W.Looks (model prog w) h (typeOf (.ref a)) (.ref C):=hc ▸ (W.Looks.ld hx).andThen .now;have L1:=W.looks_findIn (M:=model prog w) X Z.ga;have L2:=W.looks_findIn (M:=model prog w) X Z.gt;have f3:=F.attr_ValueError.ga.bind (.ref a);unfold getAttr? getAttrBy? getAttrBy;refine Fg (wpAny_mkText (Fg (wpAny_attempt (wpAny_holding (Fg (L0.at (Fg (L1.at ?_))))))));dsimp only;rw [Fh (show ¬ ((onTheHeap (Value.ref C)&&Value.builtin "BaseException.__getattribute__" == Value.builtin "object.__getattribute__")=true) by
    rw [show (Value.builtin "BaseException.__getattribute__" == Value.builtin "object.__getattribute__")=false by decide +kernel,Ef];exact FS)]
  unfold getAttrByItsOwn hookBefore;rw [Fk (show onTheHeap (Value.ref C)=true from rfl)];refine Fg (L2.at ?_);refine Fg (wpAny_attempt (wpAny_holding ?_));unfold callGetattribute;rw [Fh (show ¬ ((false&&onTheHeap (Value.builtin "BaseException.__getattribute__"))=true) from FS)];unfold boundAndCalled
  repeat (any_goals (first | assumption | wp_step))
  refine codeAny_call_builtin F.attr_ValueError.ga.plain F.entry_bexc_ga (Kq Z X hx hc (G6 Z X hx hc ?_))
  repeat (any_goals (first | assumption | wp_step))
theorem X8 (Z:Q6 K C):W.KitX K (.ref e) (.ref C) (BD e (.ref C)) where
 ty:=fun M h _ ⟨o,vs,h1,h2,_⟩=>h2 ▸ (W.Looks.ld h1).andThen .now
 it:=fun _ _ X _=>by
  obtain ⟨cd,hcd⟩:=Option.isSome_iff_exists.mp Z.hc;unfold W.clsIn at hcd;split at hcd
  ·rename_i c' d' cd' sl' ho;intro A' Q' E' s' k q;unfold isType loadHead;exact Fg (wpAny_loadPart (k _ _ (X _ _ ho)) (Fs q))
  ·cases hcd
 ne:=fun h tp dd its n sl X htp=>by
  obtain ⟨cd,hcd⟩:=Option.isSome_iff_exists.mp Z.hc;refine FE.mpr fun q=>?_
  have e:C=tp:=Value.ref.inj (beq_iff_eq.mp q);subst e;unfold W.clsIn at hcd;split at hcd
  ·rename_i c' d' cd' sl' ho;have z:=(X _ _ ho).symm.trans htp;cases z
  ·cases hcd
 ca:=fun {_ _ _ _ _ s} X p k=>by
  obtain ⟨h,g,d,t,os⟩:=s;obtain ⟨o,vs,h1,h2,_⟩:=p;exact G7 Z X h1 h2 k
end
def SE (K:W.Frag):List V->Hp->VK->Prop:=fun xs H Q=>∃ e c C b u,xs=[.ref e,c]/\RelV c u/\(∀ u',RelV c u'->u'=u)/\H e=some (.ext (BD e (.ref C)))/\Q6 K C/\W.kitOne K (.ref C) u=some b/\Q (.bl b) H
def NY (K:W.Frag):List V->Hp->VK->Prop:=fun xs H Q=>RJ K xs H Q∨SE K xs H Q
section
variable {X:Cx}
theorem Nj:Zx X (.builtin "isinstance") (NY X.K):=by
 intro aq s σ H xs us Q I r h;rcases h with h | h
 ·exact M5 aq s σ H xs us Q I r h
 ·obtain ⟨e,c,C,b,u,rfl,rc,uq,he,Z,k,q⟩:=h;obtain ⟨u1,u2,rfl,r1,r2⟩:=Jl r;obtain rfl:=uq _ r2;obtain rfl:=r1.ref_of;obtain ⟨p,_⟩:=(show ObjOk X.prog X.w H s.heap e (.ext (BD e (.ref C))) from I.hok e _ he)
  exact W.kia_one (X8 Z) I.kIn p k (fun z=>nomatch z) fun tk=>⟨.bl b,H,I.tok tk,rfl,q⟩
end
theorem Rk {x:V}{t:Value}{b:Bool}(ty:TyOf K H x t) (e:W.kitOne K t (.type T)=some b) (q:Q (.bl b) H):NY K [x,.ty T] H Q:=.inl (TR ty e q)
end L2
namespace L2
open PySem PySem.Spec PyProof.Rows
abbrev PH:List Value:=[.type "ValueError",.type "Exception",.type "BaseException",.type "object"]
theorem Tn {tx:TX}{D:QU}:sxA i tx D E σ H=tx σ H (fun v H1=>D.nx (σ.set i (some v)) H1) E:=rfl
theorem Tg {sp:Sp}{t:TA}:NA sp t σ H Q E=t σ H fun vs H1=>sp vs H1 Q E:=rfl
def Rp1 (φ:V->Hp->VK->XK->Prop):Sp:=fun vs H Q E=>∃ a,vs=[a]/\φ a H Q E
def Rp3 (φ:V->V->V->Hp->VK->XK->Prop):Sp:=fun vs H Q E=>∃ a b c,vs=[a,b,c]/\φ a b c H Q E
theorem W4:bootBuiltins "ValueError"=some (.type "ValueError"):=by kernel_rfl
theorem exm_of {cd:ClassData}{b:Bool}(h1:W.subIn K (.ref C) (.type "BaseException")=some true) (h2:W.clsIn K C=some cd) (h3:W.typeIn K (.ref C)=some (.type "type")) (h4:W.subIn K cls (.ref C)=some b):W.exmOne K cls (.ref C)=some b:=by
 unfold W.exmOne W.kitCls;rw [h1];dsimp only;rw [h2,h3,h4];rfl
theorem excCls_of {cd:ClassData}(ga:W.findIn K (.ref C) "__getattribute__"=some (some (.builtin "BaseException.__getattribute__"))) (gt:W.findIn K (.ref C) "__getattr__"=some none) (ca:W.findIn K (.ref C) "__class__"=some (some (.builtin "object.__class__")))
  (mB:W.mroIn K C (.type "BaseException")=some true) (mO:W.mroIn K C (.type "object")=some true) (hc:W.clsIn K C=some cd):Q6 K C:=⟨ga,gt,ca,mB,mO,by rw [hc];rfl⟩
theorem ixK (K:W.Frag) {X:Cx}(h:X.K=K):IxR X (rIx K):=by subst h;exact Pi
theorem eqK (K:W.Frag) {X:Cx}(h:X.K=K) (hu:X.A.units+64<cLine):OpR X (compareOp .Eq) (JU K):=by subst h;exact RZ hu
theorem neK (K:W.Frag) {X:Cx}(h:X.K=K) (hu:X.A.units+64<cLine):OpR X (compareOp .NotEq) (KI K):=by subst h;exact RW hu
theorem Xk (K:W.Frag) {X:Cx}(h:X.K=K):Zx X (.builtin "len") (LB K):=by subst h;exact Ni
theorem slK (K:W.Frag) {X:Cx}(h:X.K=K):SlR X (NV K):=by subst h;exact Lu
theorem piK (K:W.Frag) {X:Cx}{tg l:Expr}{tl:TE}(h:X.K=K) (hl:PE X l tl):PI X tg l (Mv K tl):=by subst h;exact LK hl
theorem pgK (K:W.Frag) {X:Cx}{es:List Expr}{k:Nat}{t:TGs}{n:Nat}{pos:Pos}(h:X.K=K) (hc:X.calm=true) (hg:PGs X es t) (hn:(assignEach es X.env).length=n:=by rfl) (hst:(assignEach es X.env).findIdx? (·.1)=none:=by rfl):PG X (.Tuple es k pos) (Pj K n t):=by
 subst h;exact RP hc hg hn hst
section
variable {X:Cx} {o e:Expr} {es:List Expr} {to:TE} {t:TA} {T:String} {name:Str} {id:String} {r:V->List V->Hp->VK->Prop} {apos cpos:Pos}
theorem LP (K:W.Frag) (h:X.K=K) (pa:PlainAttrs T) (slot:Slot T name id) (hty:typeOf (.builtin id)=pure (.type "method_descriptor")) (hm:MtR X id r) (ho:PE X o to)
  (hbase:attributeBase o name X.env (eval o X.env)=eval o X.env:=by rfl) (hline:(apos.endLine == cpos.line)=true:=by rfl):PE X (.Call (.Attribute o name apos) [] [] cpos) (RA K T r to):=by
 subst h;exact RU pa slot hty hm ho hbase hline
theorem ZO (K:W.Frag) (h:X.K=K) (pa:PlainAttrs T) (slot:Slot T name id) (hty:typeOf (.builtin id)=pure (.type "method_descriptor")) (hm:MtR X id r) (ho:PE X o to) (ha:PA X (e :: es) t)
  (hbase:attributeBase o name X.env (eval o X.env)=eval o X.env:=by rfl)
  (hfew:((backTo cpos (starEach (e :: es) X.env)).all (fun x=>!x.1)&&(backToKw cpos (keywordEach [] X.env)).all (fun x=>x.1.isSome)
   && decide ((e :: es).length+([]:List Keyword).length+(if ([]:List Keyword).isEmpty then 0 else 1)<30))=true:=by rfl)
  (hline:(apos.endLine == cpos.line)=true:=by rfl) (hs:starEach (e :: es) X.env=(false,eval e X.env) :: starEach es X.env:=by rfl) (hplain:(backTo cpos (starEach es X.env)).any (·.1)=false:=by rfl) :
  PE X (.Call (.Attribute o name apos) (e :: es) [] cpos) (tBM K T r to t):=by
 subst h;exact SK pa slot hty hm ho ha hbase hfew hline hs hplain
def KJ (K:W.Frag):List V->Hp->VK->Prop:=fun xs H Q=>∃ p ys,xs=[.ref p]/\(SqL K H p ys∨SqT K H p ys)/\∀ l,H l=none->Q (.ref l) (upd H l (.lst ys))
theorem Zk (K:W.Frag) (h:X.K=K):Zx X (.type "list") (KJ K):=by subst h;exact Vk
end
theorem GF {q:Rat}(hb:b≠0) (h:q=Rat.divInt t b):q.num*b=t*(q.den:Int):=by
 have h1:(q.num:Rat) / ((q.den:Int):Rat)=(t:Rat) / (b:Rat):=by
  rw [<-Rat.divInt_eq_div,<-Rat.divInt_eq_div,Di,h]
 have hd:((q.den:Int):Rat)≠0:=by
  intro z;have:(q.den:Int)=0:=Rat.intCast_inj.mp (by rw [z];rfl);exact q.den_nz (by omega)
 have hb':(b:Rat)≠0:=by
  intro z;exact hb (Rat.intCast_inj.mp (by rw [z];rfl))
 have h2:(q.num:Rat)*(b:Rat)=(t:Rat)*((q.den:Int):Rat):=by grind
 rw [<-Rat.intCast_mul,<-Rat.intCast_mul] at h2;exact Rat.intCast_inj.mp h2
theorem den_pos' (q:Rat):0<(q.den:Int):=by have:=q.den_nz;omega
theorem Lz (q:Rat):Int.gcd q.num (q.den:Int)=1:=by
 have:=q.reduced;show Nat.gcd q.num.natAbs (q.den:Int).natAbs=1;simpa using this
theorem Uc (hb:b≠0):(Rat.divInt t b).num=fnum t b/\((Rat.divInt t b).den:Int)=fden t b:=by
 have h:=GF hb (rfl:Rat.divInt t b=_);have f:=Bm (t:=t) hb;refine VM (den_pos' _) (MP hb) (Lz _) (MR hb) ?_;have h2:(Rat.divInt t b).num*fden t b*b=fnum t b*((Rat.divInt t b).den:Int)*b:=by
  have e1:(Rat.divInt t b).num*fden t b*b=(Rat.divInt t b).num*b*fden t b:=by rw [EM,Int.mul_comm (fden t b),<-EM]
  have e2:fnum t b*((Rat.divInt t b).den:Int)*b=fnum t b*b*((Rat.divInt t b).den:Int):=by rw [EM,Int.mul_comm ((Rat.divInt t b).den:Int),<-EM]
  rw [e1,e2,h,f,EM,EM,Int.mul_comm (fden t b)]
 exact Int.eq_of_mul_eq_mul_right hb h2
theorem dnz (q:Rat):(q.den:Int)≠0:=by have:=den_pos' q;omega
theorem LA (a b:Rat):a+b=Rat.divInt (a.num*b.den+b.num*a.den) (a.den*b.den):=by
 have:=Rat.divInt_add_divInt a.num b.num (dnz a) (dnz b);rw [Di,Di] at this;exact this
theorem KH (a b:Rat):a*b=Rat.divInt (a.num*b.num) (a.den*b.den):=by
 have:=Rat.divInt_mul_divInt a.num b.num (d₁:=a.den) (d₂:=b.den);rw [Di,Di] at this;exact this
def RB (m:Nat) (q:Rat):Prop:=Bd m q.num/\Bd m (q.den:Int)
theorem RB.mono {q:Rat}(h:RB m q) (hl:m<=n):RB n q:=⟨h.1.mono hl,h.2.mono hl⟩
theorem RB.of (hb:b≠0) (h1:Bd m t) (h2:Bd m b):RB m (Rat.divInt t b):=by
 obtain ⟨e1,e2⟩:=Uc (t:=t) hb;exact ⟨by rw [e1];exact h1.fnum hb,by rw [e2];exact h2.fden hb⟩
theorem RB.mul {a b:Rat}(h:RB m a) (h':RB n b):RB (m+n) (a*b):=by
 rw [KH];exact RB.of (E8 (dnz a) (dnz b)) (h.1.mul h'.1) (h.2.mul h'.2)
theorem RB.int {i:Int}(h:Bd m i) (hm:1<=m):RB m (i:Rat):=by
 refine ⟨by rw [Rat.num_intCast];exact h,?_⟩;rw [Rat.den_intCast];exact (show Bd 1 ((1:Nat):Int) by unfold Bd;decide).mono hm
theorem RB.zero (hm:1<=m):RB m 0:=by
 refine ⟨?_,?_⟩
 ·exact (show Bd 1 (0:Int) by unfold Bd;decide).mono hm
 ·exact (show Bd 1 ((1:Nat):Int) by unfold Bd;decide).mono hm
theorem RB.one (hm:1<=m):RB m 1:=by
 refine ⟨?_,?_⟩
 ·exact (show Bd 1 (1:Int) by unfold Bd;decide).mono hm
 ·exact (show Bd 1 ((1:Nat):Int) by unfold Bd;decide).mono hm
def Grow (H H':Hp):Prop:=∀ b o,H b=some o->(∀ xs,o≠.lst xs)->H' b=some o
theorem Same.grow (g:Same H H'):Grow H H':=fun b o h _=>g b o h
theorem XF (h:H p=some (.lst xs)):Grow H (upd H p (.lst ys)):=fun b o q n=>by
 rw [Qj (VH q h (n xs))];exact q
theorem QI {o:HO}(g:Same H H') (hp:H p=none):Same H (upd H' p o):=fun b u q=>by
 rw [Qj (Q0 q hp)];exact g b u q
theorem Grow.sqT (e:Grow H H') (h:SqT K H a xs):SqT K H' a xs:=by
 rcases h with (h | ⟨o,h⟩) | h
 ·exact .inl (.inl (e _ _ h fun _ z=>nomatch z))
 ·exact .inl (.inr ⟨o,e _ _ h fun _ z=>nomatch z⟩)
 ·exact .inr h
def Fq (K:W.Frag) (H:Hp) (q:Rat) (v:V):Prop:=∃ p,v=.ref p/\SqT K H p [.int q.num,.int q.den]
theorem Fq.grow {q:Rat}(g:Grow H H') (h:Fq K H q v):Fq K H' q v:=by
 obtain ⟨p,e,h⟩:=h;exact ⟨p,e,g.sqT h⟩
theorem Fq.same {q:Rat}(g:Same H H') (h:Fq K H q v):Fq K H' q v:=h.grow g.grow
theorem Fq.new (hb:b≠0):Fq K (upd H p (.tup [.int (fnum t b),.int (fden t b)])) (Rat.divInt t b) (.ref p):=by
 obtain ⟨e1,e2⟩:=Uc (t:=t) hb;refine ⟨p,rfl,?_⟩;rw [e1,e2];exact SqT.of Qe
abbrev Ff:=Rat×Rat×Rat
def All2 (R:α->V->Prop) (qs:List α) (vs:List V):Prop:=qs.length=vs.length/\∀ (i:Nat) q v,qs[i]?=some q->vs[i]?=some v->R q v
theorem All2.imp {R S:α->V->Prop}{qs:List α}(f:∀ q v,R q v->S q v) (h:All2 R qs vs):All2 S qs vs:=⟨h.1,fun i q v a b=>f _ _ (h.2 i q v a b)⟩
theorem All2.nil {R:α->V->Prop}:All2 R [] []:=⟨rfl,fun i q v a _=>by simp at a⟩
theorem All2.snoc {R:α->V->Prop}{qs:List α}{q:α}(h:All2 R qs vs) (r:R q v):All2 R (qs++[q]) (vs++[v]):=by
 refine ⟨by rw [Fo,Fo,h.1];rfl,fun i q' v' a b=>?_⟩;rcases Nat.lt_trichotomy i qs.length with z | z | z
 ·rw [Eh z] at a;rw [Eh (by rw [<-h.1];exact z)] at b;exact h.2 i q' v' a b
 ·subst z;rw [Ee (Fl _),EN] at a;rw [Ee (by rw [h.1];exact Fl _),h.1,EN] at b;cases a;cases b;exact r
 ·rw [Ec (by rw [Fo,Fz];omega)] at a;cases a
theorem All2.get {R:α->V->Prop}{qs:List α}{q:α}(h:All2 R qs vs) (a:qs[i]?=some q):∃ v,vs[i]?=some v/\R q v:=by
 have hi:i<vs.length:=by rw [<-h.1];exact (EJ.mp a).1
 exact ⟨vs[i],Fj hi,h.2 i q _ a (Fj hi)⟩
theorem All2.getV {R:α->V->Prop}{qs:List α}(h:All2 R qs vs) (a:vs[i]?=some v):∃ q,qs[i]?=some q/\R q v:=by
 have hi:i<qs.length:=by rw [h.1];exact (EJ.mp a).1
 exact ⟨qs[i],Fj hi,h.2 i _ v (Fj hi) a⟩
end L2
namespace L2
theorem X2 {l:List α}{a:α}{r:α}(h:(l++[a])[i]?=some r):(l[i]?=some r/\i<l.length)∨(i=l.length/\r=a):=by
 rcases Nat.lt_trichotomy i l.length with z | z | z
 ·rw [Eh z] at h;exact .inl ⟨h,z⟩
 ·subst z;rw [Ee (Fl _),EN] at h;cases h;exact .inr ⟨rfl,rfl⟩
 ·rw [Ec (by rw [Fo,Fz];omega)] at h;cases h
theorem Qx {l:List α}{r:α}(h:l[i]?=some r):i<l.length:=(EJ.mp h).1
end L2
namespace L2
open PySem PySem.Spec PyProof.Rows
structure KTup (K:W.Frag) (mg:Str->Option Value) (n:Str) (a:Addr) (xs:List V):Prop where
 m:mg n=some (.ref a)
 s:∀ H,SqT K H a xs
theorem SQ {n:Str}{i j:Int}{t u:Tok}{k:Nat}{sl:Array (Option Value)}(m:mg n=some (.ref a)) (l:K.lookup a=some ⟨.type "tuple",od,.seq #[.int i t,.int j u] k,sl⟩):KTup K mg n a [.int i,.int j]:=
 ⟨m,fun H=>.inr ⟨_,_,_,l,rfl,rfl,by show 2<=sizeLine;decide,.cons ⟨t,rfl⟩ (.cons ⟨u,rfl⟩ .nil)⟩⟩
theorem GK {n:Str}(k:KTup X.K X.mg n a xs) (hg:Gl X n:=by rfl) (hd:(n == ("__debug__":Str))=false:=by decide):PE X (.Name n pos) (tC (.ref a)):=Zj (v:=.ref a) hg k.m rfl hd
theorem KTup.fq0 {n:Str}(k:KTup K mg n a [.int 0,.int 1]):Fq K H 0 (.ref a):=⟨a,rfl,k.s H⟩
theorem KTup.fq1 {n:Str}(k:KTup K mg n a [.int 1,.int 1]):Fq K H 1 (.ref a):=⟨a,rfl,k.s H⟩
theorem WS {R:α->V->Prop}{qs:List α}(h:All2 R qs vs) (n:Nat):All2 R (qs.take n) (vs.take n):=by
 refine ⟨by rw [FN,FN,h.1],fun i q v a b=>?_⟩;have hi:i<n:=by have:=Qx a;rw [FN] at this;omega
 rw [List.getElem?_take_of_lt hi] at a b;exact h.2 i q v a b
theorem Fq.rep {q:Rat}(h:Fq K H q v):∃ p,v=.ref p/\Rep K H (fr q.num q.den) (.ref p):=by
 obtain ⟨p,e,h⟩:=h;exact ⟨p,e,RE h⟩
theorem fr_eq {a b:Rat}:(fr a.num a.den=fr b.num b.den)↔a=b:=by
 refine ⟨fun h=>?_,fun h=>by rw [h]⟩;have h1:a.num=b.num/\(a.den:Int)=(b.den:Int):=by
  unfold fr at h;simp only [D.tup.injEq,List.cons.injEq,D.int.injEq] at h;exact ⟨h.1,h.2.1⟩
 exact Rat.ext h1.1 (by omega)
inductive Qop (K:W.Frag) (op:Rat->Rat->Rat) (x:V) (y:V) (H:Hp) (Q:VK):Prop
 | mk (a b:Rat) (m n:Nat) (h1:Fq K H a x) (h2:Fq K H b y) (h3:RB m a) (h4:RB n b) (h5:m+n<=8900) (h6:∀ z H',Same H H'->Fq K H' (op a b) z->Q z H'):Qop K op x y H Q
inductive Qlt (K:W.Frag) (x:V) (y:V) (H:Hp) (Q:VK):Prop
 | mk (a b:Rat) (m n:Nat) (h1:Fq K H a x) (h2:Fq K H b y) (h3:RB m a) (h4:RB n b) (h5:m+n<=8900) (h6:Q (.bl (decide (a<b))) H):Qlt K x y H Q
inductive Qmax (K:W.Frag) (x:V) (y:V) (H:Hp) (Q:VK):Prop
 | mk (a b:Rat) (m n:Nat) (h1:Fq K H a x) (h2:Fq K H b y) (h3:RB m a) (h4:RB n b) (h5:m+n<=8900) (h6:∀ z,Fq K H (if a<b then b else a) z->Q z H):Qmax K x y H Q
abbrev Pr:=Int×Rat
def Fp (K:W.Frag) (H:Hp) (p:Pr) (v:V):Prop:=∃ a y,v=.ref a/\SqT K H a [.int p.1,y]/\Fq K H p.2 y
theorem Fp.grow {p:Pr}(g:Grow H H') (h:Fp K H p v):Fp K H' p v:=by
 obtain ⟨a,y,e,h1,h2⟩:=h;exact ⟨a,y,e,g.sqT h1,h2.grow g⟩
theorem Fp.same {p:Pr}(g:Same H H') (h:Fp K H p v):Fp K H' p v:=h.grow g.grow
def Pl (K:W.Frag) (H:Hp) (ps:List Pr) (l:Addr):Prop:=∃ vs,SqL K H l vs/\All2 (Fp K H) ps vs
def WW:Int->List Pr->Bool
 | _,[]=>true
 | a,p :: r=>decide (a<p.1)&&WW p.1 r
theorem limOk_cons {a:Int}{p:Pr}{r:List Pr}:WW a (p :: r)=true↔a<p.1/\WW p.1 r=true:=by
 show (decide (a<p.1)&&WW p.1 r)=true↔_;rw [Eb,EL]
theorem MV {l:List α}{p:α}(h:l[i]?=some p):l.drop i=p :: l.drop (i+1):=by
 induction l generalizing i with
 | nil=>simp at h
 | cons y s ih=>
  cases i with
  | zero=>cases h;rfl
  | succ j=>exact ih h
theorem Fq.int {i:Int}(h:SqT K H a [.int i,.int 1]):Fq K H (i:Rat) (.ref a):=by
 refine ⟨a,rfl,?_⟩;rw [Rat.num_intCast,Rat.den_intCast];exact h
def SD (K:W.Frag):List V->Hp->VK->Prop:=fun xs H Q=>∃ p c b u,xs=[.ref p,c]/\RelV c u/\(∀ u',RelV c u'->u'=u)/\((∃ ys,SqT K H p ys/\W.kitOne K (.type "tuple") u=some b)∨(∃ ys,SqL K H p ys/\W.kitOne K (.type "list") u=some b))/\Q (.bl b) H
def NX (K:W.Frag):List V->Hp->VK->Prop:=fun xs H Q=>NY K xs H Q∨SD K xs H Q
theorem J0 (K:W.Frag) {X:Cx}(hK:X.K=K):Zx X (.builtin "isinstance") (NX K):=by
 subst hK;intro aq s σ H xs us Q I r h;rcases h with h | ⟨p,c,b,u,rfl,rc,uq,hh,q⟩
 ·exact Nj aq s σ H xs us Q I r h
 ·obtain ⟨u1,u2,rfl,r1,r2⟩:=Jl r;obtain rfl:=uq _ r2;obtain rfl:=r1.ref_of;rcases hh with ⟨ys,hs,k⟩ | ⟨ys,hs,k⟩
  ·obtain ⟨its,_,⟨o,e1,e2,_⟩,_⟩:=I.tuple hs;exact W.kia_one W.kitx_tuple I.kIn ⟨o,e1,e2⟩ k (fun z=>nomatch z) fun tk=>⟨.bl b,H,I.tok tk,rfl,q⟩
  ·obtain ⟨its,_,⟨o,n,e1,e2,_⟩,_⟩:=I.list hs;exact W.kia_one W.kitx_list I.kIn ⟨o,e1,e2⟩ k (fun z=>nomatch z) fun tk=>⟨.bl b,H,I.tok tk,rfl,q⟩
theorem YM {x:V}{t:Value}{b:Bool}(ty:TyOf K H x t) (e:W.kitOne K t (.type T)=some b) (q:Q (.bl b) H):NX K [x,.ty T] H Q:=.inl (Rk ty e q)
theorem TU (h:SqT K H p ys) (q:Q (.bl true) H):NX K [.ref p,.ty "tuple"] H Q:=.inr ⟨p,.ty "tuple",true,.type "tuple",rfl,rfl,fun _ h=>h,.inl ⟨ys,h,rfl⟩,q⟩
def prD (p:Pr):D:=.tup [.int p.1,fr p.2.num p.2.den]
theorem Fp.rep {p:Pr}(h:Fp K H p v):∃ a,v=.ref a/\Rep K H (prD p) (.ref a):=by
 obtain ⟨a,y,rfl,h1,h2⟩:=h;obtain ⟨b,rfl,r⟩:=h2.rep;refine ⟨a,rfl,.tup h1 rfl fun i d x e1 e2=>?_⟩
 match i,e1,e2 with
 | 0,e1,e2=>cases e1;cases e2;exact .int _
 | 1,e1,e2=>cases e1;cases e2;exact r
 | k+2,e1,e2=>simp at e1
theorem LJ {p q:Pr}(h:prD p=prD q):p=q:=by
 unfold prD at h;simp only [D.tup.injEq,List.cons.injEq,D.int.injEq] at h;obtain ⟨h1,h2,_⟩:=h;have h3:p.2=q.2:=fr_eq.mp (by unfold fr;simp only [D.tup.injEq,List.cons.injEq,D.int.injEq];exact h2);exact Prod.ext h1 h3
def plD (ps:List Pr):D:=.lst (ps.map prD)
theorem Pl.rep {ps:List Pr}(h:Pl K H ps l):Rep K H (plD ps) (.ref l):=by
 obtain ⟨vs,h1,h2⟩:=h;refine .lst h1 (by rw [Fi,h2.1]) fun i d x e1 e2=>?_
 rw [Fv] at e1;cases q:ps[i]? with
 | none=>rw [q] at e1;cases e1
 | some p=>
  rw [q] at e1;cases e1;obtain ⟨a,rfl,r⟩:=(h2.2 i p x q e2).rep;exact r
theorem S4 {p:Pr}:DB (n+2) (prD p):=.tup fun d hd=>by
 simp at hd;rcases hd with rfl | rfl
 ·exact .int _
 ·exact S6
theorem S5 {ps:List Pr}:DB (n+3) (plD ps):=.lst fun d hd=>by
 obtain ⟨p,_,rfl⟩:=Fw.mp hd;exact S4
theorem plD_eq {ps qs:List Pr}:plD ps=plD qs↔ps=qs:=by
 refine ⟨fun h=>?_,fun h=>by rw [h]⟩;unfold plD at h;injection h with h
 exact (List.map_inj_right (f:=prD) fun x y h=>LJ h).mp h
theorem T4 {ps qs:List Pr}{m:Addr}(h1:Pl K H ps l) (h2:Pl K H qs m) (q:Q (.bl (decide (ps=qs))) H):JU K (.ref l) (.ref m) H Q:=
 Kb (b:=decide (ps=qs)) h1.rep h2.rep S5 (by rw [EL];exact plD_eq.symm) q
theorem YH (xs:List V) (k:Nat):YI xs none (some (k:Int))=xs.take k:=by
 unfold YI;rw [HT.sIx_none,HT.sIx_nat,List.drop_zero,Nat.sub_zero];by_cases h:k<=xs.length
 ·rw [Nat.min_eq_left h]
 ·rw [Nat.min_eq_right (by omega),EF (Fl _),EF (by omega)]
theorem Yd (xs:List V) (k:Nat):YI xs (some (k:Int)) none=xs.drop k:=by
 unfold YI;rw [HT.sIx_none,HT.sIx_nat];by_cases h:k<=xs.length
 ·rw [Nat.min_eq_left h,EF (by rw [F5];omega)]
 ·rw [Nat.min_eq_right (by omega),List.drop_of_length_le (Fl _),List.drop_of_length_le (by omega)];simp
theorem WT {R:α->V->Prop}{qs:List α}(h:All2 R qs vs) (n:Nat):All2 R (qs.drop n) (vs.drop n):=by
 refine ⟨by rw [F5,F5,h.1],fun i q v a b=>?_⟩;rw [List.getElem?_drop] at a b;exact h.2 _ q v a b
theorem ZH {R:α->V->Prop}{qs ps:List α}(h:All2 R qs vs) (h':All2 R ps ws):All2 R (qs++ps) (vs++ws):=by
 refine ⟨by rw [Fo,Fo,h.1,h'.1],fun i q v a b=>?_⟩;by_cases z:i<qs.length
 ·rw [Eh z] at a;rw [Eh (by rw [<-h.1];exact z)] at b;exact h.2 i q v a b
 ·rw [Ee (by omega)] at a;rw [Ee (by rw [<-h.1];omega),<-h.1] at b;exact h'.2 _ q v a b
theorem Jz {p:Pr}:∀ {ps:List Pr}{a:Int},WW a ps=true->(ps=[]->a<p.1)->(∀ q,ps[ps.length-1]?=some q->q.1<p.1)->WW a (ps++[p])=true
 | [],a,_,h,_=>limOk_cons.mpr ⟨h rfl,rfl⟩
 | [q],a,h,_,h2=>by
  obtain ⟨k1,_⟩:=limOk_cons.mp h;exact limOk_cons.mpr ⟨k1,limOk_cons.mpr ⟨h2 q rfl,rfl⟩⟩
 | q :: q' :: t,a,h,_,h2=>by
  obtain ⟨k1,k2⟩:=limOk_cons.mp h;exact limOk_cons.mpr ⟨k1,Jz (ps:=q' :: t) k2 (fun z=>nomatch z) (fun r hr=>h2 r (by simpa using hr))⟩
section
variable {X:Cx} {aq:List (Addr×Obj)} {σ:St} {H:Hp} {s:Shared} {h':Heap}
theorem Inv.turnedL (I:Inv X aq σ H s) (k:∀ b o,b ∉ fp->s.heap.get? b=some o->h'.get? b=some o) (hf:∀ b∈fp,Xw X aq H b):Inv X aq σ H { s with heap:=h',toks:=t' }:=by
 have nit:∀ b u,H b=some u->b ∉ fp:=fun b u e z=>by rw [(hf b z).1] at e;cases e
 refine I.step (g':=s.gens) (d':=s.drawn) (ch:=fp) (fun b hb=>⟨(hf b hb).2.2.2.1,(hf b hb).2.1,(hf b hb).2.2.2.2.1,(hf b hb).2.2.2.2.2⟩) (fun b o _ _ hc e _=>k b o hc e) (fun b o _ _ hc e _=>⟨o.slots,k b o hc e⟩) (fun _ _ _ _ n=>n)
  (fun b o hc e=>⟨o,k b o hc e⟩) (fun _ _ e=>e) (fun _ _ _ e=>e) (fun b ps e=>⟨#[],by rw [e];simp⟩) (fun m hm=>?_) (fun b u e=>?_) I.bare
 ·obtain ⟨o,es,ep,ho,r⟩:=hm;exact ⟨o,es,ep,k _ o (fun z=>(hf _ z).2.1 rfl) ho,r⟩
 ·refine (I.hok b u e).stay (fun c v hc q=>k c v ?_ q) (fun _ q=>q) fun _ _ q=>q
  rcases hc with z | z
  ·rw [z];exact nit b u e
  ·exact nit c _ z
theorem Inv.trackNew {D:Addr}{o:HO}{s0:Shared}(I:Inv X aq σ H s) (I0:Inv X aq σ H s0) (hD:s0.heap.objs.size<=D) (new:ObjOk X.prog X.w (upd H D o) s.heap D o):Inv X aq σ (upd H D o) s:=by
 refine I.track (FR I0.sz hD) (I0.hok.fresh hD) (fun z=>?_) (fun x c e z=>?_) (fun p hp z=>?_) new
 ·have:=I0.lt;exact FG _ (FL (z ▸ this) hD)
 ·obtain ⟨v,q⟩:=I0.cell x c e;exact FG _ (FL (z ▸ q.lt) hD)
 ·have:=Ft (I0.pin p hp).1;exact FG _ (FL (z ▸ this) hD)
end
def Ite (K:W.Frag) (a:Addr):It:=
 ⟨fun i H=>∃ xs x,SqL K H a xs/\xs[i]?=some x,fun i H v H'=>∃ p x,v=.ref p/\H p=none/\H'=upd H p (.tup [.int i,x])/\∀ xs,SqL K H a xs->xs[i]?=some x,fun i H=>∃ xs,SqL K H a xs/\xs.length<=i⟩
theorem Gx {k:Nat}(a e it:Addr) (hne:e≠it):Nm P w K (.Tuple es k pos) (Ite K a) [e,it] e (fun i h=>∃ old,IsEnum h e it i old/\h.IsListIter it a i) where
 mem:=by simp
 obj:=fun i h st b hb=>by
  obtain ⟨old,h1,o,e1,c,d⟩:=st;rcases FF.mp hb with rfl | hb
  ·exact ⟨_,h1,fun v z=>by
    have z':Data.fields _=Data.cell v:=z;cases z'⟩
  ·have:b=it:=by simpa using hb
   subst this;exact ⟨o,e1,fun v z=>by rw [d] at z;cases z⟩
 keep:=fun i h h' ⟨old,h1,st⟩ k=>⟨old,k e (by simp) _ h1,st.at fun o e=>k it (by simp) o e⟩
 item:=by
  intro X hP hw hK hc i aq s σ H E I hf st hg;subst hP hw hK;obtain ⟨xs,x,hq,hx⟩:=hg;obtain ⟨its,rv,p,hz⟩:=I.list hq;obtain ⟨u,hu,ru⟩:=rv.get hx;obtain ⟨old,h1,h2⟩:=st;refine wpAny_pyNext_enum_item h1 h2 p.isList (x:=u) (by simpa using hu) hne fun h' e1 e2 e3 e4 e5=>?_
  refine ⟨_,rfl,wpAny_letOwnedTupleGo_enum (s:={ s with heap:=h',toks:=s.toks+1 }) e1 fun h2' e6 sb=>?_⟩;have ne0:e≠s.heap.objs.size:=FD (Ft h1);have I1:Inv X aq σ H { s with heap:=h2',toks:=s.toks+1 }:=I.turnedL (fp:=[e,it]) (fun b o hb q=>by
   have n1:b≠e:=fun z=>hb (by simp [z])
   have n2:b≠it:=fun z=>hb (by simp [z])
   exact (sb.2 b n1).trans (e5 b o n1 n2 q)) hf
  have et:h2'.get? s.heap.objs.size=some { cls:=.type "tuple",data:=.seq #[.int i s.toks,u] }:=(sb.2 _ (Ea ne0)).trans e3;have I2:=I1.trackNew (o:=.tup [.int i,x]) I (Fl _) ⟨by show 2<=sizeLine;decide,[.int i s.toks,u],.cons ⟨_,rfl⟩ (.cons ru .nil),?_⟩
  ·refine ⟨.ref s.heap.objs.size,_,I2,rfl,⟨_,x,rfl,I.hok.fresh (Fl _),rfl,fun ys hy=>by rw [I.list_inj hy hq];exact hx⟩,⟨u,?_,?_⟩,fun b hb=>?_⟩
   ·have:((i:Int)+1)=((i+1:Nat):Int):=by omega
    rw [this] at e6;exact e6
   ·exact e2.at fun o q=>(sb.2 _ (Ea hne)).trans q
   ·rw [Qj ?_]
    ·exact (hf b hb).1
    ·intro z;obtain ⟨o,q,r⟩:=h2;rcases FF.mp hb with hb | hb
     ·exact ne0 (hb ▸ z)
     ·have:b=it:=by simpa using hb
      rw [this] at z;exact FD (Ft q) z
  ·exact ⟨_,et,rfl,0,rfl⟩
 done:=by
  intro X hP hw hK hc i aq s σ H E I hf st hg;subst hP hw hK;obtain ⟨xs,hq,hx⟩:=hg;obtain ⟨its,rv,p,hz⟩:=I.list hq;obtain ⟨old,h1,h2⟩:=st;have hl:=rv.length;exact wpAny_pyNext_enum_end (I.ok.hd hc) h1 h2 p.isList (by simp;omega) fun h' eb=>⟨rfl,I.turnedL (fp:=[e,it]) (t':=s.toks) (fun b o hb q=>eb b o (fun z=>hb (by simp [z])) q) hf⟩
 self:=fun _ _ _ _ _ ⟨old,h1,_⟩ h=>wpAny_pyIter_enum h1 h
def BS (K:W.Frag) (ta:TA):TI:=fun σ H R=>ta σ H fun vs H1=>∃ a,vs=[.ref a]/\(∃ xs,SqL K H1 a xs)/\R (Ite K a) H1
theorem LL (K:W.Frag) {es:List Expr}{k:Nat}{a:Expr}{ta:TA}{p pos pt:Pos}(hK:X.K=K) (hg:Gl X "enumerate") (hm:X.mg "enumerate"=none) (ha:PA X [a] ta) (hs:starEach [a] X.env=[(false,eval a X.env)]:=by rfl):PI X (.Tuple es k pt) (.Call (.Name "enumerate" p) [a] [] pos) (BS K ta):=by
 subst hK;intro aq s σ H R I h;refine Call_ (WH I hg hm boot_enumerate (Dp (thn (ha pos aq s σ H _ I h) fun us s1 ⟨vs,H1,I1,r1,q1⟩=>?_) hs rfl));obtain ⟨l,rfl,⟨xs,hq⟩,q⟩:=q1;obtain ⟨u1,rfl,r2⟩:=Z0 r1;obtain rfl:=r2.ref_of;obtain ⟨its,rv,pl,hz⟩:=I1.list hq;refine call_enumerate_list pl.isList fun h' e1 e2 e3 e4=>?_
 have I2:Inv X aq σ H1 { s1 with heap:=h' }:=I1.kept (t':=s1.toks) e4;refine wpAny_pyIter_enum (s:={ s1 with heap:=h' }) e1 ?_;refine ⟨s1.heap.objs.size+1,[s1.heap.objs.size+1,s1.heap.objs.size],_,_,H1,rfl,I2,Gx l _ _ (Nat.succ_ne_self _),⟨_,e1,e2⟩,fun b hb=>?_,q⟩;have hb':s1.heap.objs.size<=b:=by
  rcases FF.mp hb with hb | hb
  ·rw [hb];exact Em _
  ·have:b=s1.heap.objs.size:=by simpa using hb
   rw [this];exact Fl _
 exact I1.fpOk hb' (I1.hok.fresh hb')
theorem HP {D:QU}(Pv:Nat->St->Hp->Prop) (h0:Pv 0 σ H) (hl:∀ i σ H,i<=xs.length->Pv i σ H->SqL K H a xs)
  (hs:∀ i x σ H p,xs[i]?=some x->Pv i σ H->H p=none->g (.ref p) σ (upd H p (.tup [.int (i:Nat),x])) fun σ2 H2=>tb { D with nx:=Pv (i+1),ct:=Pv (i+1),bk:=D.nx } σ2 H2) (hd:∀ σ H,Pv xs.length σ H->D.nx σ H):Kw (Ite K a) g tb D σ H:=by
 refine ⟨fun i m σ H=>m=xs.length-i/\i<=xs.length/\Pv i σ H,⟨xs.length,by simp,F1 _,h0⟩,?_⟩;rintro i m σ H ⟨rfl,hi,p⟩;have q:=hl i σ H hi p;by_cases hlt:i<xs.length
 ·refine .inr ⟨⟨xs,xs[i],q,by simp [hlt]⟩,Pv (i+1),fun σ' H' p'=>⟨xs.length-(i+1),by omega,rfl,hlt,p'⟩,fun x H' y=>?_⟩;obtain ⟨pp,x',rfl,hn,rfl,y⟩:=y;exact hs i x' σ _ pp (y xs q) p hn
 ·have e:i=xs.length:=by omega
  subst e;exact .inl ⟨⟨xs,q,Fl _⟩,hd σ H p⟩
def Ve (cells:List (Str×Addr)):List (Str×NameKind)->List (Str×Addr)->Option (List (Str×Addr))
 | [],acc=>some acc
 | (n,k) :: r,acc=>if k == .free then (match cells.lookup n with | some a=>Ve cells r ((n,a) :: acc) | none=>none) else Ve cells r acc
theorem JG {cells:List (Str×Addr)}:∀ {names:List (Str×NameKind)}{acc cl:List (Str×Addr)},Ve cells names acc=some cl->(∀ p∈acc,cells.lookup p.1=some p.2)->∀ p∈cl,cells.lookup p.1=some p.2
 | [],acc,cl,h,ha=>by
  have:acc=cl:=Fy h;subst this;exact ha
 | (n,k) :: r,acc,cl,h,ha=>by
  unfold Ve at h;split at h
  ·split at h
   ·rename_i a e;exact JG h fun p hp=>by
     rcases FF.mp hp with rfl | hp
     ·exact e
     ·exact ha p hp
   ·cases h
  ·exact JG h ha
theorem Na {cl:List (Str×Addr)}(h:Ve env.cells scope.names []=some cl):closureFor scope env=pure cl:=by
 simp only [closureFor];have gen:∀ (names:List (Str×NameKind)) (acc:List (Str×Addr)),Ve env.cells names acc=some cl->(do let r <-forIn names acc fun (x:Str×NameKind) (cs:List (Str×Addr))=>if (x.2 == NameKind.free)=true then do let a <-cellOf env x.1;pure (ForInStep.yield ((x.1,a) :: cs)) else pure (ForInStep.yield cs);pure r)=(pure cl:Sem _):=by
  intro names
  induction names with
  | nil=>intro acc h;have:acc=cl:=Fy h;subst this;rfl
  | cons y r ih=>
   intro acc h;obtain ⟨n,k⟩:=y;unfold Ve at h;rw [List.forIn_cons];split at h
   ·rename_i e;split at h
    ·rename_i a ea;simp only [Fk e];have:=ih _ h;simp only [cellOf,ea];exact this
    ·cases h
   ·rename_i e;simp only [Fh e];exact ih _ h
 exact Eq.trans (congrArg (fun m:Sem (List (Str×Addr))=>m >>= pure) (gen _ _ h)) rfl
theorem Uq {cl:List (Str×Addr)}{c:Addr}(h:cl.lookup x=some c):(x,c)∈cl:=by
 induction cl with
 | nil=>simp at h
 | cons y r ih=>
  rw [List.lookup_cons] at h;split at h
  ·rename_i e;have e':x=y.1:=by simpa using e
   cases h;rw [e'];exact FU ..
  ·exact FZ _ (ih h)
def He (X:Cx) (scope:Scope) (N:List Str) (caps:List (Option Nat)):Bool:=(List.range N.length).all fun i=>match N[i]?,caps[i]? with
 | some x,some (some j)=>X.N[j]? == some x&&X.env.kindOf x == some .cell&&(relabel scope X.env).names.lookup x == some .cell
 | _,_=>true
theorem Bs {cl:List (Str×Addr)}(clos:Ve X.env.cells scope.names []=some cl) (kind:scope.kind=.function) (nm:(scope.names.all fun y=>y.2 != .cell&&(y.2 != .local||scope.names.lookup y.1 == some .local))=true)
  (has:((relabel scope X.env).names.all fun y=>(y.2 != .cell&&y.2 != .free)||(cl.lookup y.1).isSome)=true) (cap:He X scope N caps=true) (len:caps.length=N.length):XY X scope cl N caps where
 clos:=Na clos
 kind:=kind
 nocell:=fun y hy z=>by
  have:=Eo.mp nm y hy;rw [z] at this;simp at this
 names:=fun y hy z=>by
  have:=Eo.mp nm y hy;rw [z] at this;simpa using this
 sub:=fun x c h=>JG clos (fun p hp=>absurd hp (by simp)) _ (Uq h)
 has:=fun x h=>by
  have gen:∀ (l:List (Str×NameKind)),(l.all fun y=>(y.2 != .cell&&y.2 != .free)||(cl.lookup y.1).isSome)=true->(l.lookup x=some .cell∨l.lookup x=some .free)->∃ c,cl.lookup x=some c:=by
   intro l
   induction l with
   | nil=>intro _ h;simp at h
   | cons y r ih=>
    intro ha h;rw [List.all_cons,Eb] at ha;rw [List.lookup_cons] at h;split at h
    ·rename_i e;have e':x=y.1:=by simpa using e
     have h3:y.2=.cell∨y.2=.free:=h.elim (fun h=>.inl (Fy h)) (fun h=>.inr (Fy h));have:=ha.1;have h4:(cl.lookup y.1).isSome=true:=by
      rcases h3 with h3 | h3 <;> rw [h3] at this <;> exact this
     rw [e'];exact Option.isSome_iff_exists.mp h4
    ·exact ih ha.2 h
  exact gen _ has h
 cap:=fun i j x h1 h2=>by
  have hi:=Qx h1;have:=Eo.mp cap i (List.mem_range.mpr hi);simp only [h1,h2,Eb,beq_iff_eq] at this;exact ⟨this.1.1,this.1.2,this.2⟩
 len:=len
theorem ZY {cl:List (Str×Addr)}(a:Ve X.env.cells scope.names []=some cl:=by rfl) (b:scope.kind=.function:=by rfl) (c:(scope.names.all fun y=>y.2 != .cell&&(y.2 != .local||scope.names.lookup y.1 == some .local))=true:=by rfl) (d:((relabel scope X.env).names.all fun y=>(y.2 != .cell&&y.2 != .free)||(cl.lookup y.1).isSome)=true:=by rfl) (e:He X scope N caps=true:=by rfl) (f:caps.length=N.length:=by rfl):XY X scope cl N caps:=Bs a b c d e f
theorem QS {wi:TI}:Kg caps wi g tt te σ H Q=wi σ H fun J H1=>JP J g tt te (WK caps σ) H1 Q:=rfl
theorem ZR {Q:Bool->Hp->Prop}:Ry σ H Q=Q true H:=rfl
theorem Lk {ta:TA}:BS K ta σ H R=ta σ H fun vs H1=>∃ a,vs=[.ref a]/\(∃ xs,SqL K H1 a xs)/\R (Ite K a) H1:=rfl
def CN (Pv:Nat->List V->St->Hp->Prop) (n i:Nat) (acc:List V) (σ:St) (H:Hp):Prop:=∃ m',m'<n-i/\m'=n-(i+1)/\i+1<=n/\acc.length<=i+1/\Pv (i+1) acc σ H
theorem CN.mk {Pv:Nat->List V->St->Hp->Prop}{acc:List V}(hi:i<n) (ha:acc.length<=i+1) (h:Pv (i+1) acc σ H):CN Pv n i acc σ H:=⟨n-(i+1),by omega,rfl,hi,ha,h⟩
theorem ZS (Pv:Nat->List V->St->Hp->Prop) (h0:Pv 0 [] σ0 H) (hl:∀ i acc σ H,i<=xs.length->Pv i acc σ H->SqL K H a xs) (hn:xs.length<=1000)
  (hs:∀ i x acc σ H,xs[i]?=some x->acc.length<=i->Pv i acc σ H->g x σ H fun σ2 H2=>tt σ2 H2 fun b H3=>if b=true then te σ2 H3 fun v H4=>CN Pv xs.length i (acc++[v]) σ2 H4 else CN Pv xs.length i acc σ2 H3)
  (hd:∀ acc σ H,Pv xs.length acc σ H->∀ p,H p=none->Q (.ref p) (upd H p (.lst acc))):JP (Itl K a) g tt te σ0 H Q:=by
 refine ⟨fun i m acc σ H=>m=xs.length-i/\i<=xs.length/\acc.length<=i/\Pv i acc σ H,⟨xs.length,by simp,F1 _,Fl _,h0⟩,?_⟩;rintro i m acc σ H ⟨rfl,hi,ha,p⟩;have q:=hl i acc σ H hi p;by_cases hlt:i<xs.length
 ·refine .inr ⟨⟨xs,xs[i],q,by simp [hlt]⟩,QN (by omega),fun x H' y=>?_⟩;obtain ⟨e,y⟩:=y;subst e;exact hs i x acc σ _ (y xs q) ha p
 ·have e:i=xs.length:=by omega
  subst e;exact .inl ⟨⟨xs,q,Fl _⟩,hd acc σ H p⟩
def Itz (K:W.Frag) (a b:Addr):It:=
 ⟨fun i H=>∃ xs ys x y,SqL K H a xs/\SqL K H b ys/\xs[i]?=some x/\ys[i]?=some y,fun i H v H'=>∃ p x y,v=.ref p/\H p=none/\H'=upd H p (.tup [x,y])/\(∀ xs,SqL K H a xs->xs[i]?=some x)/\∀ ys,SqL K H b ys->ys[i]?=some y,
  fun i H=>∃ xs ys,SqL K H a xs/\SqL K H b ys/\(xs.length<=i∨ys.length<=i)⟩
theorem NB {k:Nat}(l1 l2 z TI TO i1 i2:Addr) (D:ZipApart z TI TO i1 i2 l1 l2) :
  Nm P w K (.Tuple es k pos) (Itz K l1 l2) [z,TI,TO,i1,i2] z (fun i h=>IsZip h z TI TO .none/\IsPair h TI (.ref i1) (.ref i2)/\(∃ a b,IsPair h TO a b)/\h.IsListIter i1 l1 i/\h.IsListIter i2 l2 i) where
 mem:=by simp
 obj:=fun i h st b hb=>by
  obtain ⟨hz,h1,⟨_,_,h2⟩,⟨o3,e3,_,d3⟩,⟨o4,e4,_,d4⟩⟩:=st;simp only [FF,List.not_mem_nil,or_false] at hb;rcases hb with rfl | rfl | rfl | rfl | rfl
  ·exact ⟨_,hz,fun v q=>by have q':Data.fields _=Data.cell v:=q;cases q'⟩
  ·exact ⟨_,h1,fun v q=>by have q':Data.seq _ _=Data.cell v:=q;cases q'⟩
  ·exact ⟨_,h2,fun v q=>by have q':Data.seq _ _=Data.cell v:=q;cases q'⟩
  ·exact ⟨o3,e3,fun v q=>by rw [d3] at q;cases q⟩
  ·exact ⟨o4,e4,fun v q=>by rw [d4] at q;cases q⟩
 keep:=fun i h h' ⟨hz,h1,⟨a,b,h2⟩,h3,h4⟩ k=>⟨k z (by simp) _ hz,k TI (by simp) _ h1,⟨a,b,k TO (by simp) _ h2⟩,h3.at fun o e=>k i1 (by simp) o e,h4.at fun o e=>k i2 (by simp) o e⟩
 item:=by
  intro X hP hw hK hc i aq s σ H E I hf st hg;subst hP hw hK;obtain ⟨xs,ys,x,y,hq1,hq2,hx,hy⟩:=hg;obtain ⟨its1,rv1,p1,_⟩:=I.list hq1;obtain ⟨its2,rv2,p2,_⟩:=I.list hq2;obtain ⟨u1,hu1,ru1⟩:=rv1.get hx;obtain ⟨u2,hu2,ru2⟩:=rv2.get hy;obtain ⟨hz,hTI,⟨a,b,hTO⟩,h1,h2⟩:=id st;refine wpAny_pyNext_zip_item D hz hTI hTO h1 h2 p1.isList p2.isList (x:=u1) (y:=u2) (by simpa using hu1) (by simpa using hu2) fun h' e1 e2 e3 e4 e5 e6 e7=>?_
  refine ⟨_,rfl,wpAny_letOwnedTupleGo_zip (s:={ s with heap:=h' }) e1 fun h2' e8 sb=>?_⟩;have ne0:z≠s.heap.objs.size:=FD (Ft hz);have I1:Inv X aq σ H { s with heap:=h2' }:=I.turnedL (fp:=[z,TI,TO,i1,i2]) (t':=s.toks) (fun b o hb q=>by
   have n1:b≠z:=fun q=>hb (by simp [q])
   exact (sb.2 b n1).trans (e7 b o n1 (fun q=>hb (by simp [q])) (fun q=>hb (by simp [q])) (fun q=>hb (by simp [q])) q)) hf
  have et:h2'.get? s.heap.objs.size=some { cls:=.type "tuple",data:=.seq #[u1,u2] }:=(sb.2 _ (Ea ne0)).trans e5;have I2:=I1.trackNew (o:=.tup [x,y]) I (Fl _) ⟨by show 2<=sizeLine;decide,[u1,u2],.cons ru1 (.cons ru2 .nil),⟨_,et,rfl,0,rfl⟩⟩;refine ⟨.ref s.heap.objs.size,_,I2,rfl,⟨_,x,y,rfl,I.hok.fresh (Fl _),rfl,fun ys hy'=>by rw [I.list_inj hy' hq1];exact hx,fun ys hy'=>by rw [I.list_inj hy' hq2];exact hy⟩,⟨e8,?_,⟨_,_,(sb.2 _ D.TOz).trans e2⟩,e3.at fun o q=>(sb.2 _ D.i1z).trans q,e4.at fun o q=>(sb.2 _ D.i2z).trans q⟩,fun b hb=>?_⟩
  ·exact (sb.2 _ D.TIz).trans (e7 _ _ D.TIz D.TITO D.TIi1 D.TIi2 hTI)
  ·rw [Qj ?_]
   ·exact (hf b hb).1
   ·intro q;have:∃ o,s.heap.get? b=some o:=by
     simp only [FF,List.not_mem_nil,or_false] at hb;obtain ⟨o3,g3,_⟩:=h1;obtain ⟨o4,g4,_⟩:=h2;rcases hb with rfl | rfl | rfl | rfl | rfl
     ·exact ⟨_,hz⟩
     ·exact ⟨_,hTI⟩
     ·exact ⟨_,hTO⟩
     ·exact ⟨_,g3⟩
     ·exact ⟨_,g4⟩
    obtain ⟨o,g⟩:=this;exact FD (Ft g) q
 done:=by
  intro X hP hw hK hc i aq s σ H E I hf st hg;subst hP hw hK;obtain ⟨xs,ys,hq1,hq2,hx⟩:=hg;obtain ⟨its1,rv1,p1,_⟩:=I.list hq1;obtain ⟨its2,rv2,p2,_⟩:=I.list hq2;obtain ⟨hz,hTI,⟨a,b,hTO⟩,h1,h2⟩:=st;have hl1:=rv1.length;have hl2:=rv2.length;refine wpAny_pyNext_zip_end (I.ok.hd hc) D hz hTI hTO h1 h2 p1.isList p2.isList ?_ fun h' eb=>⟨rfl,I.turnedL (fp:=[z,TI,TO,i1,i2]) (t':=s.toks) (fun b o hb q=>eb b o (fun q=>hb (by simp [q])) (fun q=>hb (by simp [q])) (fun q=>hb (by simp [q])) (fun q=>hb (by simp [q])) q) hf⟩
  rcases hx with hx | hx
  ·exact .inl (by simp;omega)
  ·exact .inr (by simp;omega)
 self:=fun _ _ _ _ _ ⟨hz,_⟩ h=>wpAny_pyIter_zip hz h
theorem R7 {a b:Nat}(h:a<b∨b<a):a≠b:=by omega
theorem Hl (n l1 l2:Nat) (h1:l1<n) (h2:l2<n):ZipApart (n+4) (n+2) (n+3) n (n+1) l1 l2:=by
 constructor <;> exact R7 (by omega)
def SR (K:W.Frag) (ta:TA):TI:=fun σ H R=>ta σ H fun vs H1=>∃ a b,vs=[.ref a,.ref b]/\(∃ xs,SqL K H1 a xs)/\(∃ ys,SqL K H1 b ys)/\R (Itz K a b) H1
theorem RN (K:W.Frag) {es:List Expr}{k:Nat}{a b:Expr}{ta:TA}{p pos pt:Pos}(hK:X.K=K) (hg:Gl X "zip") (hm:X.mg "zip"=none) (ha:PA X [a,b] ta) (hs:starEach [a,b] X.env=[(false,eval a X.env),(false,eval b X.env)]:=by rfl) (hs2:starEach [b] X.env=[(false,eval b X.env)]:=by rfl):PI X (.Tuple es k pt) (.Call (.Name "zip" p) [a,b] [] pos) (SR K ta):=by
 subst hK;intro aq s σ H R I h;refine Call_ (WH I hg hm boot_zip (Dp (thn (ha pos aq s σ H _ I h) fun us s1 ⟨vs,H1,I1,r1,q1⟩=>?_) (by rw [hs,hs2]) (by rw [hs2];rfl)));obtain ⟨l1,l2,rfl,⟨xs,hq1⟩,⟨ys,hq2⟩,q⟩:=q1;obtain ⟨u1,u2,rfl,r2,r3⟩:=Jl r1;obtain rfl:=r2.ref_of;obtain rfl:=r3.ref_of;obtain ⟨its1,rv1,p1,_⟩:=I1.list hq1;obtain ⟨its2,rv2,p2,_⟩:=I1.list hq2;have lt1:l1<s1.heap.objs.size:=by obtain ⟨o,e,_⟩:=p1.isList;exact Ft e
 have lt2:l2<s1.heap.objs.size:=by obtain ⟨o,e,_⟩:=p2.isList;exact Ft e
 refine call_zip_2 p1.isList p2.isList fun h' e1 e2 e3 e4 e5 e6 e7=>?_
 have I2:Inv X aq σ H1 { s1 with heap:=h' }:=I1.kept (t':=s1.toks) e7;refine wpAny_pyIter_zip (s:={ s1 with heap:=h' }) e1 ?_;generalize hn:s1.heap.objs.size=n at *;have D:ZipApart (n+4) (n+2) (n+3) n (n+1) l1 l2:=Hl n l1 l2 lt1 lt2;refine ⟨n+4,[n+4,n+2,n+3,n,n+1],_,_,H1,rfl,I2,NB l1 l2 _ _ _ _ _ D,⟨e1,e2,⟨_,_,e3⟩,e4,e5⟩,fun b hb=>?_,q⟩;have hb':s1.heap.objs.size<=b:=by
  rw [hn];simp only [FF,List.not_mem_nil,or_false] at hb;rcases hb with rfl | rfl | rfl | rfl | rfl
  ·exact Nat.le_add_right _ _
  ·exact Nat.le_add_right _ _
  ·exact Nat.le_add_right _ _
  ·exact Fl _
  ·exact Nat.le_add_right _ _
 exact I1.fpOk hb' (I1.hok.fresh hb')
theorem HN {b:Addr}{D:QU}(Pv:Nat->St->Hp->Prop) (n:Nat) (hn:n=min xs.length ys.length) (h0:Pv 0 σ H) (hl:∀ i σ H,Pv i σ H->SqL K H a xs/\SqL K H b ys)
  (hs:∀ i x y σ H p,xs[i]?=some x->ys[i]?=some y->Pv i σ H->H p=none->g (.ref p) σ (upd H p (.tup [x,y])) fun σ2 H2=>tb { D with nx:=Pv (i+1),ct:=Pv (i+1),bk:=D.nx } σ2 H2) (hd:∀ σ H,Pv n σ H->D.nx σ H):Kw (Itz K a b) g tb D σ H:=by
 refine ⟨fun i m σ H=>m=n-i/\i<=n/\Pv i σ H,⟨n,by simp,F1 _,h0⟩,?_⟩;rintro i m σ H ⟨rfl,hi,p⟩;obtain ⟨q1,q2⟩:=hl i σ H p;by_cases hlt:i<n
 ·have h1:i<xs.length:=by omega
  have h2:i<ys.length:=by omega
  refine .inr ⟨⟨xs,ys,xs[i],ys[i],q1,q2,by simp [h1],by simp [h2]⟩,Pv (i+1),fun σ' H' p'=>⟨n-(i+1),by omega,rfl,hlt,p'⟩,fun x H' y=>?_⟩;obtain ⟨pp,x',y',rfl,hn',rfl,k1,k2⟩:=y;exact hs i x' y' σ _ pp (k1 xs q1) (k2 ys q2) p hn'
 ·have e:i=n:=by omega
  subst e;exact .inl ⟨⟨xs,ys,q1,q2,by omega⟩,hd σ H p⟩
def SH (K:W.Frag):List V->Hp->VK->Prop:=fun xs H Q=>∃ (p:Addr) (bs:List Bool),xs=[.ref p]/\SqL K H p (bs.map V.bl)/\Q (.bl (bs.all id)) H
def SG (K:W.Frag):List V->Hp->VK->Prop:=fun xs H Q=>∃ (p:Addr) (bs:List Bool),xs=[.ref p]/\SqL K H p (bs.map V.bl)/\Q (.bl (bs.any id)) H
theorem UG {bs:List Bool}(h:Vals (bs.map V.bl) us):us=bs.map Value.bool:=by
 induction bs generalizing us with
 | nil=>cases h;rfl
 | cons b r ih=>
  cases h with
  | cons h1 h2=>
   have e:_=Value.bool b:=h1;rw [e,ih h2];rfl
theorem GH {bs:List Bool}:((List.range bs.length).all fun i=>bs.getD i false)=bs.all id:=by
 have e:bs=(List.range bs.length).map fun i=>bs.getD i false:=by
  apply List.ext_getElem
  ·simp
  ·intro i h1 h2;simp [FO,Fj h1]
 conv=>rhs;rw [e]
 rw [List.all_map];rfl
theorem GG {bs:List Bool}:((List.range bs.length).any fun i=>bs.getD i false)=bs.any id:=by
 have e:bs=(List.range bs.length).map fun i=>bs.getD i false:=by
  apply List.ext_getElem
  ·simp
  ·intro i h1 h2;simp [FO,Fj h1]
 conv=>rhs;rw [e]
 rw [List.any_map];rfl
theorem WM (K:W.Frag) {X:Cx}(hK:X.K=K) (hc:X.calm=true):Zx X (.builtin "all") (SH K):=by
 subst hK;intro aq s σ H xs us Q I r h;obtain ⟨p,bs,rfl,hq,q⟩:=h;obtain ⟨u,rfl,r1⟩:=Z0 r;obtain rfl:=r1.ref_of;obtain ⟨its,rv,pl,_⟩:=I.list hq;have e:=UG rv;subst e;refine call_all_walk (wpAny_pyIter_list pl.isList ⟨_,_,_,_,_,_,fun i=>bs.getD i false,rfl,Walks.list (A:=X.A.in1) (I.ok.hd hc) s.heap.objs.size p ?_ _,⟨⟨_,FY _ rfl,rfl,rfl⟩,pl.isList.push _⟩,?_,fun h' tk hk=>?_⟩)
 ·obtain ⟨o,g,_⟩:=pl.isList;exact FD (Ft g)
 ·intro i v s' Q' E' hv hq';have hv':(bs.map Value.bool)[i]?=some v:=by simpa using hv
  rw [Fv] at hv';obtain ⟨b,hb,rfl⟩:=FW.mp hv';have e:bs.getD i false=b:=by rw [FO,hb];rfl
  have hq2:Q' (bs.getD i false) s':=hq';rw [e] at hq2;exact EE hq2
 ·have J:Inv X aq σ H { s with heap:=h',toks:=tk }:=I.kept fun b o g=>hk b o (fun z=>by
   have z':b=s.heap.objs.size:=by simpa using z
   exact FD (Ft g) z') (FA _ g)
  refine QD J q ?_;rw [FJ,Fi,GH]
theorem Nk (K:W.Frag) {X:Cx}(hK:X.K=K) (hc:X.calm=true):Zx X (.builtin "any") (SG K):=by
 subst hK;intro aq s σ H xs us Q I r h;obtain ⟨p,bs,rfl,hq,q⟩:=h;obtain ⟨u,rfl,r1⟩:=Z0 r;obtain rfl:=r1.ref_of;obtain ⟨its,rv,pl,_⟩:=I.list hq;have e:=UG rv;subst e;refine call_any_walk (wpAny_pyIter_list pl.isList ⟨_,_,_,_,_,_,fun i=>bs.getD i false,rfl,Walks.list (A:=X.A.in1) (I.ok.hd hc) s.heap.objs.size p ?_ _,⟨⟨_,FY _ rfl,rfl,rfl⟩,pl.isList.push _⟩,?_,fun h' tk hk=>?_⟩)
 ·obtain ⟨o,g,_⟩:=pl.isList;exact FD (Ft g)
 ·intro i v s' Q' E' hv hq';have hv':(bs.map Value.bool)[i]?=some v:=by simpa using hv
  rw [Fv] at hv';obtain ⟨b,hb,rfl⟩:=FW.mp hv';have e:bs.getD i false=b:=by rw [FO,hb];rfl
  have hq2:Q' (bs.getD i false) s':=hq';rw [e] at hq2;exact EE hq2
 ·have J:Inv X aq σ H { s with heap:=h',toks:=tk }:=I.kept fun b o g=>hk b o (fun z=>by
   have z':b=s.heap.objs.size:=by simpa using z
   exact FD (Ft g) z') (FA _ g)
  refine QD J q ?_;rw [FJ,Fi,GG]
def CMulU (i j:Int):Prop:=Bd 4000000 i/\Bd 4000000 j
theorem CMulU.ok {i j:Int}(h:CMulU i j):IntMulOk i j:=by
 have h1:=h.1.bits;have h2:=h.2.bits;unfold IntMulOk;have e:Builtin.Int.intTooBig ((Builtin.Int.intBits i:Int)+(Builtin.Int.intBits j:Int))=false:=by
  unfold Builtin.Int.intTooBig;have e2:bitsLine=134217728:=by decide
  rw [e2];exact FQ (by omega)
 rw [e];simp
theorem op_mulU:OpR X (binaryOp .Mult) (rI CMulU fun i j=>.int (i*j)):=opI fun _ _ _ _ _ _ _ hc q=>mul_int q hc.ok
def Ka (ns:List Int):Prop:=∀ i∈ns,Bd 1048576 i
theorem PL (h:W.WData.layableAll [W.WData.list (ns.map W.WData.int)]=true):Ka ns:=by
 have h1:W.WData.weight (W.WData.list (ns.map W.WData.int))<=2 ^ 20:=by
  have h2:W.WData.layable (W.WData.list (ns.map W.WData.int))=true:=by
   have:=h;unfold W.WData.layableAll at this;simpa using this
  unfold W.WData.layable at h2;rw [Eb] at h2;exact EO h2.2
 have h3:W.WData.weightAll (ns.map W.WData.int)<=2 ^ 20:=by
  unfold W.WData.weight at h1;exact h1
 intro i hi;have gen:∀ (l:List Int),i∈l->(if i == 0 then 0 else i.natAbs.log2+1)<=W.WData.weightAll (l.map W.WData.int):=by
  intro l
  induction l with
  | nil=>intro h;simp at h
  | cons x r ih=>
   intro h;rw [F3];unfold W.WData.weightAll;rcases FF.mp h with rfl | h
   ·show _<=W.WData.weight (W.WData.int i)+1+_;unfold W.WData.weight;omega
   ·have:=ih h;omega
 have:=gen ns hi;unfold Bd;by_cases z:i=0
 ·rw [z];exact Nat.two_pow_pos _
 ·rw [Fh (by simpa using z)] at this;have hp:i.natAbs≠0:=by omega
  exact (Nat.log2_lt hp).mp (by omega)
open PySem.W in
theorem walk_ofW {l:W.OpenLaw}{k:Nat}{q:Program}{XP:(Str->Option Value)->Heap->Prop}{YP:World->Heap->Prop}{d:DefRec}{K:Params->W.Frag}{CX:World->CXT}{sp:World->Sp} 
  (hn:l.most=some n) (hn2:n<=sizeLine) (hdf:d.params.defaults=[]) (hr:Room k callerA)
  (hY:∀ (w:World) (h:Heap),YP w h->(K w.params).In h)
  (F:∀ (w:World) (mg:Str->Option Value) (fa:Addr) (h:Heap),(K w.params).In h->h.Ns mainGlobals mg->mg d.name=some (.ref fa) ->
   ∃ fd:FuncData,(∀ (s:Shared) (u:Value),BindsTo s fd ⟨[u],[]⟩ [(x,u)]) /\
    ∀ base:Heap,(K w.params).In base->base.Ns mainGlobals mg->FnOk l.prog w (K w.params) mg base (CX w) k fa fd [x] (sp w))
  (hsp:∀ (w:World) (H:Hp) (a:Addr) (ns:List Int),ns.length<=n->Ka ns->BA H->SqL (K w.params) H a (ns.map V.int)->sp w [.ref a] H (fun v _=>v=.bl true) fun _ _ _=>False)
  (hCX:∀ (w:World) (H:Hp) (s:Shared) (e:Value) (s':Shared),CX w [] H s (fun _ _ _=>False) e s'->False) :
  W.WalkO q loose XP YP l.row.toRowW d [] (fun f vs=>PySem.call f vs):=by
 intro w s₀ s₁ mg mb G Y fa o pm cd doc dV kV ho hd hcd hD hmg hg args vals as hpre hlay hrd hwl hlo;obtain rfl:dV=.none:=Dflts.none hD hdf;obtain rfl:kV=.none:=Dflts.noKw hD;obtain ⟨a,vs,ns,rfl,rfl,hobj,hints,hlen⟩:=Att.script_of hn hpre hwl;have hbig:=PL hlay;have KX:=hY w _ Y;obtain ⟨fd,hb,hF⟩:=F w mg fa _ KX G.T.g hmg;refine enter_call (EK (Mq KX G.T.g G.T.b G.T.builtins G.T.nolimit hg hobj hints (FR hlen hn2) hr hF hb (fun H hO hS=>hsp w H a ns hlen hbig hO hS) fun H e s'=>hCX w H s₁ e s') fun r s' hq=>?_);obtain ⟨rfl,h2,h3,h4⟩:=hq;exact ⟨.inl ⟨.bool true,.bool true,[],rfl,fun _=>rfl,.bool true,Att.post_true l _,fun _=>⟨List.Pairwise.nil,fun _ hm=>(nomatch hm)⟩⟩,h2,h3,h4⟩
theorem Bi {a:Int}(h:b≠0):(a.fmod b).natAbs<b.natAbs:=by
 rcases Int.lt_or_gt_of_ne h with c | c
 ·have e:a.fmod b=-((-a).fmod (-b)):=by rw [Int.neg_fmod_neg];omega
  rw [e];have h1:=Int.fmod_nonneg_of_pos (-a) (show 0 < -b by omega);have h2:=Int.fmod_lt_of_pos (-a) (show 0 < -b by omega);omega
 ·have h1:=Int.fmod_nonneg_of_pos a c;have h2:=Int.fmod_lt_of_pos a c;omega
theorem MJ {a:Int}:Int.gcd b (a.fmod b)=Int.gcd a b:=by
 have e:a.fmod b=a-b*a.fdiv b:=by rw [Int.fmod_def]
 apply Nat.dvd_antisymm
 ·apply Int.dvd_gcd
  ·have h1:((Int.gcd b (a.fmod b):Nat):Int) ∣ b:=Int.gcd_dvd_left ..;have h2:((Int.gcd b (a.fmod b):Nat):Int) ∣ a.fmod b:=Dh ..;have:a=a.fmod b+b*a.fdiv b:=by omega
   have h3:=Int.dvd_add h2 (Int.dvd_mul_of_dvd_left (c:=a.fdiv b) h1);rw [<-this] at h3;exact h3
  ·exact Int.gcd_dvd_left ..
 ·apply Int.dvd_gcd
  ·exact Dh ..
  ·rw [e];exact Int.dvd_sub (Int.gcd_dvd_left ..) (Int.dvd_mul_of_dvd_left (Dh ..))
theorem Tp {a b d e:V}:start N [a,b,c,d,e]=some a :: some b :: some c :: some d :: some e :: List.replicate (N.length-5) none:=rfl
section
variable {X:Cx}
theorem Jr {spos:Pos}{cl:List (Str×Addr)}{wi:TI}(hN:X.N.Nodup) (hy:X.N[i]?=some y) (hx:Loc X.env.scope y) (hc:X.calm=true) (O:XY X scope cl N caps)
  (hi:PI X tg iter wi) (hg:∀ C s H ex,PG (blk X scope cl N C s H ex) tg g) (ht:∀ C s H ex,PTs (blk X scope cl N C s H ex) ifs tt) (he:∀ C s H ex,PE (blk X scope cl N C s H ex) elt te)
  (hs:∀ v,foldedSetIterable iter X.env v=pure v:=by intro _;rfl) (hsw:swapsWith (.ListComp elt [⟨tg,iter,ifs,0⟩] scope pos) (some (.Name y py)) spos.line X.env=pure true:=by rfl)
  (hf:X.fn y=true∨X.env.scope.names.lookup y=some .local:=by first | exact .inl rfl | exact .inr rfl | assumption):PS X (.Assign [.Name y py] (.ListComp elt [⟨tg,iter,ifs,0⟩] scope pos) spos) (Xe (Kg caps wi g tt te) (Ze i)):=by
 intro aq s σ H D I h;rw [exec_Assign_Name_used _ _ _ _ hsw];refine Fg (wpAny_standAt ?_);refine Fg ?_;show wpAny _ _ (comprehension (.ListComp elt [⟨tg,iter,ifs,0⟩] scope pos) scope X.env (firstIterPos [⟨tg,iter,ifs,0⟩] pos) (newList []) (firstAsync [⟨tg,iter,ifs,0⟩]) (firstIter [⟨tg,iter,ifs,0⟩] X.env) (some (assign (.Name y py) X.env)) >>= fun _=>pure ()) _ _ s;refine Fg ?_;refine wpAny_comprehension_free (use:=some (assign (.Name y py) X.env)) rfl hs O.clos O.kind O.names (thn (hi aq s σ H _ I h) fun v s1 h1=>thn h1 fun itv s2 h2=>?_);obtain ⟨it,fp,tn,J,H2,e,I2,T,st2,f2,W,⟨m0,w0⟩,turn⟩:=h2;subst e;refine wpAny_newObj_type (wpAny_newFunctionEnv O.nocell (by intro y hy;simp at hy) (fun h₁ hns₁ hsb₁=>?_) O.kind);dsimp only at hns₁ hsb₁ ⊢;generalize hH2:s2.heap.push { cls:=.type "list",dict:=none,data:=.seq ([]:List Value).toArray }=P2 at hns₁ hsb₁ ⊢;have hC:P2.objs.size=s2.heap.objs.size+1:=by rw [<-hH2,Heap.size_push]
 have hDC:s2.heap.objs.size≠P2.objs.size:=by rw [hC];exact FD (Dg _)
 have hCle:s2.heap.objs.size<=P2.objs.size:=by rw [hC];exact Em _
 have old:∀ b o,s2.heap.get? b=some o->h₁.get? b=some o:=fun b o e=>hsb₁.extBut b o (FD (FL (Ft e) hCle)) (FA _ (hH2 ▸ FA _ e))
 have hacc:h₁.PlainList s2.heap.objs.size #[]:=⟨_,hsb₁.extBut _ _ hDC (FA _ (hH2 ▸ FY _ rfl))⟩
 have hlt:∀ b∈fp,b<s2.heap.objs.size:=fun b hb=>by
  obtain ⟨o,e,_⟩:=T.obj 0 _ st2 b hb;exact Ft e
 generalize hCC:P2.objs.size=C at *;generalize hDD:s2.heap.objs.size=Dl at *;have I3:Inv (blk X scope cl N C s2 H2 fp) [] (WK caps σ) H2 { s2 with heap:=h₁,toks:=s2.toks+([]:List (Str×Value)).length }:=WO I2 O f2 (by rw [hDD];exact hlt) old (by rw [hDD];exact hCle) hns₁;have st3:tn 0 h₁:=T.keep 0 _ _ st2 fun b _ o e=>old b o e
 have hDn:H2 Dl=none:=I2.hok.fresh (by rw [hDD];exact Fl _);have nfs:∀ b∈fp,b ∉ frs X.stack:=fun b hb z=>by
  rcases FF.mp (I2.stkSub b z) with q | q
  ·exact (f2 b hb).2.1 q
  ·exact (f2 b hb).2.2.1 q
 have stat:∀ {H':Hp},(∀ b∈fp,H' b=none)->∀ b∈fp,Xw (blk X scope cl N C s2 H2 fp) [] H' b:=fun hn b hb=>
  ⟨hn b hb,FD (FL (hlt b hb) hCle),nfs b hb,.inl hb,fun x c e=>(f2 b hb).2.2.2.2.1 x c (O.sub x c e),fun p hp=>absurd (show p∈([]:List (Addr×Obj)) from hp) (by simp)⟩
 have cellD:∀ x c,cl.lookup x=some c->c≠Dl:=fun x c e z=>by
  obtain ⟨v,q⟩:=I2.cell x c (O.sub x c e);have:=q.lt;rw [hDD] at this;exact FG _ (z ▸ this)
 have nfsD:Dl ∉ frs X.stack:=fun z=>by
  have:=I2.stkSub Dl z;rcases FF.mp this with q | q
  ·have:=I2.lt;rw [hDD] at this;exact FG _ (q ▸ this)
  ·exact I2.nofs (by rw [hDD];exact Fl _) q
 have statD:∀ {H':Hp},H' Dl=none->Xw (blk X scope cl N C s2 H2 fp) [] H' Dl:=fun hn=>⟨hn,hDC,nfsD,.inr (Nat.le_of_eq hDD),cellD,fun p hp=>absurd (show p∈([]:List (Addr×Obj)) from hp) (by simp)⟩
 have loop:∀ s₃:Shared,s₃={ s2 with heap:=h₁,toks:=s2.toks+([]:List (Str×Value)).length } ->
   codeAny (model X.prog X.w) X.A (.compLoop (.ListComp elt [⟨tg,iter,ifs,0⟩] scope pos) 0 (.ref it) (.ref Dl) (compEnvC scope cl C X.env))
    (compPost (model X.prog X.w) X.A X.xe (some (assign (.Name y py) X.env)) (fun _ s'=>wpAny (model X.prog X.w) X.A (pure ()) (fun _ s'=>wpAny (model X.prog X.w) X.A (pure Flow.next) (SP X aq D) X.xe s') X.xe s') (.ref Dl) C) s₃:=by
  intro s₃ hs3;subst hs3;refine XW (fun n s'=>∃ i σ' H' acc its,Inv (blk X scope cl N C s2 H2 fp) [] σ' H' s'/\tn i s'.heap/\(∀ b∈fp,H' b=none)/\H' Dl=none/\Vals acc its/\s'.heap.PlainList Dl its.toArray/\acc.length<=sizeLine/\W i n acc σ' H') ?_ m0
   ⟨0,WK caps σ,H2,[],[],I3,st3,fun b hb=>(f2 b hb).1,hDn,.nil,hacc,F1 _,w0⟩
  rintro n s3 ⟨i,σ3,H3,acc,its,J3,st3,fr3,d3,va,pl3,la,w3⟩;rcases turn i n acc σ3 H3 w3 with ⟨stop,qn⟩ | ⟨go,la2,step⟩
  ·refine thn (T.done (blk X scope cl N C s2 H2 fp) rfl rfl rfl hc i [(Dl,{ cls:=.type "list",data:=.seq its.toArray (Classical.choose pl3) })] s3 σ3 H3 (fun _ _=>False) (J3.pins_of fun p hp=>?_) (fun b hb=>?_) st3 stop) fun r s4 ⟨hr,J4⟩=>?_
   ·have e:=FC.mp (show p∈[_] from hp);subst e;exact ⟨E7 pl3,d3,hDC,nfsD,fun v z=>by cases z⟩
   ·obtain ⟨q1,q2,q3,q4,q5,q6⟩:=stat fr3 b hb;refine ⟨q1,q2,q3,q4,q5,fun p hp z=>?_⟩;have e:=FC.mp (show p∈[_] from hp);subst e;exact absurd (hlt b hb) (by rw [<-z];exact FG _)
   ·subst hr;obtain ⟨m,hn,_⟩:=J4.loc;have pD:=J4.pin (Dl,_) (by simp;rfl);have J5:=Vl I2 f2 J4 (by rw [hDD];exact hCle) (⟨rfl,fun _ _=>rfl⟩:Heap.SameBut C s4.heap s4.heap);have nC:C≠X.env.locals:=fun z=>by
     have:=I2.lt;rw [hDD,<-z] at this;exact FG _ (FL this hCle)
    have cC:∀ z c,X.env.cells.lookup z=some c->c≠C:=fun z c e w=>by
     obtain ⟨v,q⟩:=I2.cell z c e;have:=q.lt;rw [hDD] at this;exact FG _ (FL (w ▸ this) hCle)
    have J6:=J5.track (o:=.lst acc) (FR I2.sz (by rw [hDD];exact Fl _)) d3 (fun z=>by
     have:=I2.lt;rw [hDD,<-z] at this;exact FG _ this) (fun y c e z=>by
     obtain ⟨v,q⟩:=I2.cell y c e;have:=q.lt;rw [hDD] at this;exact FG _ (z ▸ this)) (fun p hp z=>by
     have:=Ft (I2.pin p hp).1;rw [hDD,z] at this;exact FG _ this) ⟨la,its,_,va,pD.1⟩
    show wpAny _ _ (assign (.Name y py) X.env (.ref Dl)) _ _ s4;refine PyProof.Rows.assign_Name ?_;refine Kh J6 hN hy hx (show RelV (.ref Dl) (.ref Dl) from rfl) (fun s5 J7 ⟨a,sa,ha⟩=>?_) hf;have naC:C≠a:=fun z=>by
     rcases ha with w | w
     ·exact nC (z.trans w)
     ·exact cC _ _ w z.symm
    refine ⟨m,?_,fun h' sb=>?_⟩
    ·obtain ⟨o,es,ep,e,rest⟩:=hn;exact ⟨o,es,ep,(sa.2 C naC).trans e,rest⟩
    refine Fs (Fs ⟨_,_,?_,qn _ d3⟩);exact J7.turned (t':=s5.toks) (it:=C) (fun b o hb e=>(sb.2 b hb).trans e) (by rw [Qj (Ea hDC)];exact J4.free) nC (.inr (FR I2.sz (by rw [hDD];exact hCle))) cC (fun p hp z=>by
     have:=Ft (I2.pin p hp).1;rw [hDD,z] at this;exact FG _ (FL this hCle))
  ·refine thn (T.item (blk X scope cl N C s2 H2 fp) rfl rfl rfl hc i [(Dl,{ cls:=.type "list",data:=.seq its.toArray (Classical.choose pl3) })] s3 σ3 H3 (fun _ _=>False) (J3.pins_of fun p hp=>?_) (fun b hb=>?_) st3 go) fun r s4 ⟨u,hr,h4⟩=>?_
   ·have e:=FC.mp (show p∈[_] from hp);subst e;exact ⟨E7 pl3,d3,hDC,nfsD,fun v z=>by cases z⟩
   ·obtain ⟨q1,q2,q3,q4,q5,q6⟩:=stat fr3 b hb;refine ⟨q1,q2,q3,q4,q5,fun p hp z=>?_⟩;have e:=FC.mp (show p∈[_] from hp);subst e;exact absurd (hlt b hb) (by rw [<-z];exact FG _)
   ·subst hr;refine thn h4 fun _ s5 ⟨y,H5,J5,r5,y5,st5,fr5⟩=>?_
    have J5':Inv (blk X scope cl N C s2 H2 fp) ([(Dl,{ cls:=.type "list",data:=.seq its.toArray (Classical.choose pl3) })]++Xu fp s5.heap) σ3 H5 s5:=J5.pinned (fun b hb=>by
     obtain ⟨q1,q2,q3,q4,q5,q6⟩:=stat fr5 b hb;refine ⟨q1,q2,q3,q4,q5,fun p hp z=>?_⟩;have e:=FC.mp (show p∈[_] from hp);subst e;exact absurd (hlt b hb) (by rw [<-z];exact FG _)) (T.obj _ _ st5)
    refine thn (hg C s2 H2 fp _ s5 σ3 H5 y u _ J5' r5 (step y H5 y5)) fun _ s6 ⟨σ6,H6,J6,q6⟩=>?_
    refine thn (ht C s2 H2 fp _ s6 σ6 H6 _ J6 q6) fun ok s7 ⟨H7,J7,q7⟩=>?_
    have back:∀ {H8:Hp} {s8:Shared},Inv (blk X scope cl N C s2 H2 fp) ([(Dl,{ cls:=.type "list",data:=.seq its.toArray (Classical.choose pl3) })]++Xu fp s5.heap) σ6 H8 s8 ->
      tn (i+1) s8.heap/\(∀ b∈fp,H8 b=none)/\H8 Dl=none/\s8.heap.PlainList Dl its.toArray:=fun {H8 s8} J8=>by
     have pb:∀ b∈fp,∀ o,s5.heap.get? b=some o->s8.heap.get? b=some o/\H8 b=none:=fun b hb o e=>by
      have:=J8.pin (b,o) (F8 _ (F8 _ (Xg hb e)));exact ⟨this.1,this.2.1⟩
     have pd:=J8.pin (Dl,_) (F8 _ (EI _ (FC.mpr rfl)));refine ⟨T.keep _ _ _ st5 fun b hb o e=>(pb b hb o e).1,fun b hb=>?_,pd.2.1,⟨_,pd.1⟩⟩;obtain ⟨o,e,_⟩:=T.obj _ _ st5 b hb;exact (pb b hb o e).2
    cases ok with
    | false=>
     rw [Fh FS] at q7 ⊢;obtain ⟨m',hm,w7⟩:=q7;obtain ⟨b1,b2,b3,b4⟩:=back J7;exact ⟨m',hm,i+1,σ6,H7,acc,its,J7.pins_of (fun p hp=>absurd hp (by simp)),b1,b2,b3,va,b4,la,w7⟩
    | true=>
     rw [Fk rfl] at q7 ⊢;refine thn (he C s2 H2 fp _ s7 σ6 H7 _ J7 q7) fun z s8 ⟨zv,H8,J8,r8,q8⟩=>?_
     obtain ⟨m',hm,w8⟩:=q8;obtain ⟨b1,b2,b3,b4⟩:=back J8;have z1:its.length=acc.length:=va.length.symm;refine wpAny_list_append_plain (hsz:=by rw [FJ];omega) b4 fun h9 pl9 sb9=>?_
     have J9:Inv (blk X scope cl N C s2 H2 fp) [] σ6 H8 { s8 with heap:=h9,toks:=s8.toks }:=by
      obtain ⟨k0,k1,k2,k3,k4,k5⟩:=statD (H':=H8) b3;exact (J8.pins_of (pins':=[]) (fun p hp=>absurd hp (by simp))).turned (it:=Dl) (fun b o hb e=>(sb9.2 b hb).trans e) k0 k1 k3 k4 k5
     refine ⟨m',hm,i+1,σ6,H8,acc++[zv],its++[z],J9,T.keep _ _ _ b1 fun b hb o e=>(sb9.2 b (FD (hlt b hb))).trans e,b2,b3,va.append (.cons r8 .nil),?_,?_,w8⟩
     ·simpa using pl9
     ·rw [Fo,Fz];omega
 exact codeAny_compStart_list (loop _ rfl) (T.self X.A 0 _ _ _ st3 (loop _ rfl))
theorem Y4 {spos:Pos}{cl:List (Str×Addr)}{wi:TI}(hN:X.N.Nodup) (hy:X.N[i]?=some y) (hx:Loc X.env.scope y) (hc:X.calm=true) (O:XY X scope cl N caps)
  (hi:PI X (.Name x px) iter wi) (hg:∀ C s H ex,PG (blk X scope cl N C s H ex) (.Name x px) g) (ht:∀ C s H ex,PTs (blk X scope cl N C s H ex) ifs tt) (he:∀ C s H ex,PE (blk X scope cl N C s H ex) elt te)
  (hs:∀ v,foldedSetIterable iter X.env v=pure v:=by intro _;rfl) (hsw:swapsWith (.ListComp elt [⟨.Name x px,iter,ifs,0⟩] scope pos) (some (.Name y py)) spos.line X.env=pure true:=by rfl)
  (hf:X.fn y=true∨X.env.scope.names.lookup y=some .local:=by first | exact .inl rfl | exact .inr rfl | assumption):PS X (.Assign [.Name y py] (.ListComp elt [⟨.Name x px,iter,ifs,0⟩] scope pos) spos) (Xe (Kg caps wi g tt te) (Ze i)):=Jr hN hy hx hc O hi hg ht he hs hsw hf
end
end L2
namespace L2
open PySem PySem.W PyProof.Rows
def Asks {α:Type}(n:Nat) (P:α->Prop):KasT α->Prop
 | .ret a=>P a
 | .ask i j k=>i<n/\j<n/\∀ b,Asks n P (k b)
theorem Asks.bind {P:α->Prop}{R:β->Prop}{f:α->KasT β}(hf:∀ a,P a->Asks n R (f a)):∀ {t:KasT α},Asks n P t->Asks n R (t.bind f)
 | .ret a,h=>hf a h
 | .ask _ _ k,⟨h1,h2,h3⟩=>⟨h1,h2,fun b=>Asks.bind hf (h3 b)⟩
theorem Asks.wp {P:α->Prop}{cmp:Nat->Nat->(Bool->Shared->Prop)->Shared->Prop}(hc:∀ i j C,i<n->j<n->(∀ b,C b s)->cmp i j C s) :
  ∀ {t:KasT α},Asks n P t->t.kasWp cmp (fun a s'=>s'=s/\P a) s
 | .ret _,h=>⟨rfl,h⟩
 | .ask i j _,⟨h1,h2,h3⟩=>hc i j _ h1 h2 fun b=>Asks.wp hc (h3 b)
def PermN (n:Nat) (p:Array Nat):Prop:=p.toList.Perm (List.range n)
theorem PermN.lt {p:Array Nat}(h:PermN n p) (hn:0<n) (i:Nat):p.getD i 0<n:=by
 by_cases hi:i<p.size
 ·have e:p.getD i 0=p[i]:=by simp [Array.getD,hi]
  rw [e];have m:p[i]∈p.toList:=by simp
  exact List.mem_range.mp (h.mem_iff.mp m)
 ·have e:p.getD i 0=0:=by simp [Array.getD,hi]
  rw [e];exact hn
theorem PermN.rev {p:Array Nat}(h:PermN n p):PermN n (kas_rev p i j):=List.Perm.trans (Array.Perm.toList (mirror_perm p i j _)) h
theorem PermN.bub {k d:Nat}{p:Array Nat}(h:PermN n p):PermN n (bubble p k d):=List.Perm.trans (Array.Perm.toList (bubble_perm p k d)) h
section
variable {n:Nat} (hn:0<n)
include hn
theorem JN {p:Array Nat}(h:PermN n p):∀ f m,Asks n (fun _:Nat=>True) (kas_asc p f m)
 | 0,_=>trivial
 | f+1,m=>⟨h.lt hn _,h.lt hn _,fun b=>by cases b;exact JN h f (m+1);exact trivial⟩
theorem Yr:∀ f p m q,PermN n p->Asks n (fun r:Array Nat×Nat×Nat=>PermN n r.1) (kas_desc f p m q)
 | 0,_,_,_,h=>h
 | f+1,p,m,q,h=>⟨h.lt hn _,h.lt hn _,fun b=>by
  cases b with
  | true=>
   simp only [if_true];split
   ·exact Yr f _ _ _ h.rev
   ·exact Yr f _ _ _ h
  | false=>exact ⟨h.lt hn _,h.lt hn _,fun c=>by cases c;exact Yr f _ _ _ h;exact h⟩⟩
theorem JM {p:Array Nat}{k:Nat}(h:PermN n p):Asks n (fun r:Nat×Array Nat=>PermN n r.2) (kas_tail3 m k p):=
 by
 unfold kas_tail3;refine Asks.bind (P:=fun _=>True) ?_ (JN hn h.rev _ _);intro _ _;exact h.rev
theorem Yv {p:Array Nat}{k:Nat}(h:PermN n p):Asks n (fun r:Nat×Array Nat=>PermN n r.2) (kas_descPart m k p):=
 Asks.bind (fun r hr=>by split;exact JM hn (PermN.rev hr);exact JM hn hr) (Yr hn _ _ _ _ h)
theorem UC {p:Array Nat}{k:Nat}(h:PermN n p):Asks n (fun r:Nat×Array Nat=>PermN n r.2) (kas_count k p):=
 Asks.bind (fun m _=>by
  split
  ·exact h
  ·split
   ·exact ⟨h.lt hn _,h.lt hn _,fun b=>by cases b;exact Yv hn h.rev;exact h⟩
   ·exact Yv hn h) (JN hn h _ _)
theorem YK {p:Array Nat}{k:Nat}(h:PermN n p):∀ f l r,Asks n (fun _:Nat=>True) (kas_place p k f l r)
 | 0,_,_=>trivial
 | f+1,l,r=>by
  unfold kas_place;split
  ·exact trivial
  ·exact ⟨h.lt hn _,h.lt hn _,fun b=>by cases b;exact YK h f _ _;exact YK h f _ _⟩
theorem VZ:∀ f p k,PermN n p->Asks n (PermN n) (kas_bin f p k)
 | 0,_,_,h=>h
 | f+1,p,k,h=>Asks.bind (fun l _=>VZ f _ _ h.bub) (YK hn h _ _ _)
theorem Nl:Asks n (PermN n) (kas_sort n):=
 Asks.bind (fun r hr=>by split;exact VZ hn _ _ _ hr;exact hr) (UC hn (show PermN n (List.toArray (List.range n)) from List.Perm.refl _))
end
def Wn (k:Bool) (v:Value):Prop:=if k=true then ∃ x t,v=Value.str x t else ∃ i t,v=Value.int i t
section
variable {prog:Program} {w:World} {A:Around} {E:Value->Shared->Prop} {s:Shared}
theorem LZ {b k:Bool}{p q:Value}{Q:Bool->Shared->Prop}(hp:Wn k p) (hq:Wn k q) (h:∀ c,Q c s):wpAny (model prog w) A (oneLt' b p q) Q E s:=by
 cases k with
 | true=>
  obtain ⟨x,t,rfl⟩:=hp;obtain ⟨y,u,rfl⟩:=hq;cases b
  ·exact kat_one _ _ (PyProof.Rows.lt_str (h _))
  ·exact oneLt_str (h _)
 | false=>
  obtain ⟨x,t,rfl⟩:=hp;obtain ⟨y,u,rfl⟩:=hq;cases b
  ·exact kat_one _ _ (PyProof.Rows.lt_int (h _))
  ·exact oneLt_int (h _)
theorem Bq {k:Bool}{p q:Value}{Q:Bool->Shared->Prop}(hp:Wn k p) (hq:Wn k q) (h:∀ c,Q c s):wpAny (model prog w) A (eqBool p q) Q E s:=by
 cases k with
 | true=>
  obtain ⟨x,t,rfl⟩:=hp;obtain ⟨y,u,rfl⟩:=hq;exact wpAny_eqBool_str (h _)
 | false=>
  obtain ⟨x,t,rfl⟩:=hp;obtain ⟨y,u,rfl⟩:=hq;exact wpAny_eqBool_int (h _)
theorem VN {b fin:Bool}{Q:Bool->Shared->Prop}(h:∀ c,Q c s):∀ {ks:List Bool}{xs ys:List Value},Paired Wn ks xs->Paired Wn ks ys->∀ i,KatLex prog w A b fin Q (xs.zip ys) i s
 | _,_,_,.nil,_,_=>kat_nil (h _)
 | _,_,_,.cons hp rx,.cons hq ry,i=>kat_cons (Bq hp hq fun e=>kat_go (fun z=>by subst z;exact kat_yes (VN h rx ry (i+1))) (fun z=>by subst z;exact kat_no (LZ hp hq h)))
def Gs (h:Heap) (ks:List Bool) (v:Value):Prop:=∃ a o xs n,v=.ref a/\h.get? a=some o/\o.cls=.type "tuple"/\o.data=.seq xs n/\Paired Wn ks xs.toList
def bare (h:Heap) (a:Addr) (vs:List Value):Heap:=((h.update a (Obj.mapSeq fun _=>#[])).push (seqObj "tuple" vs.toArray 0)).push (seqObj "list" #[] 0)
theorem M6 {b:Addr}{vs:List Value}{o:Obj}(hb:b≠a) (g:h.get? b=some o):(bare h a vs).get? b=some o:=
 FA _ (FA _ ((Heap.get?_update_other h (Obj.mapSeq fun _=>#[]) (Ea hb)).trans g))
theorem Ud (vs:List Value):(List.range vs.length).map (fun i=>vs.getD i Value.none)=vs:=by
 apply Eu;intro i;by_cases h:i<vs.length
 ·rw [Fv,Df h];simp [h]
 ·simp [Nat.le_of_not_lt h]
end
def Gu (k:Bool) (x:V):Prop:=if k=true then ∃ z,x=V.str z else ∃ i,x=V.int i
theorem Ko:∀ {ks:List Bool}{xs:List V}{us:List Value},Paired Gu ks xs->Vals xs us->Paired Wn ks us
 | _,_,_,.nil,.nil=>.nil
 | k :: _,_,_,.cons hk r,.cons hv r'=>.cons (by
   cases k with
   | true=>obtain ⟨z,rfl⟩:=hk;obtain ⟨t,rfl⟩:=hv;exact ⟨z,t,rfl⟩
   | false=>obtain ⟨z,rfl⟩:=hk;obtain ⟨t,rfl⟩:=hv;exact ⟨z,t,rfl⟩) (Ko r r')
theorem Vp:∀ {xs:List V}{us:List Value}{u:Value},Vals xs us->u∈us->∃ x∈xs,RelV x u
 | _,_,_,.nil,h=>by cases h
 | _,_,u,.cons hv r,h=>by
  rcases FF.mp h with rfl | h
  ·exact ⟨_,FU,hv⟩
  ·obtain ⟨x,m,q⟩:=Vp r h;exact ⟨x,FZ _ m,q⟩
theorem Gv {ws:List Value}(p:us.Perm ws):∀ {xs:List V},Vals xs ws->∃ ys:List V,ys.Perm xs/\Vals ys us:=by
 induction p with
 | nil=>intro xs r;exact ⟨xs,.refl _,r⟩
 | cons x p ih=>
  intro xs r;cases r with
  | cons hv r=>
   obtain ⟨ys,h1,h2⟩:=ih r;exact ⟨_ :: ys,h1.cons _,.cons hv h2⟩
 | swap x y l=>
  intro xs r;cases r with
  | cons hv r=>
   cases r with
   | cons hw r=>exact ⟨_,.swap _ _ _,.cons hw (.cons hv r)⟩
 | trans p q ih1 ih2=>
  intro xs r;obtain ⟨ys,h1,h2⟩:=ih2 r;obtain ⟨zs,h3,h4⟩:=ih1 h2;exact ⟨zs,h3.trans h1,h4⟩
theorem VV (Pv:Nat->List V->St->Hp->Prop) (h0:Pv 0 [] σ0 H) (hn:n<=1000)
  (hs:∀ i acc σ H,i<n->acc.length<=i->Pv i acc σ H->g (.int (lo+i)) σ H fun σ2 H2=>tt σ2 H2 fun b H3=>if b=true then te σ2 H3 fun v H4=>CN Pv n i (acc++[v]) σ2 H4 else CN Pv n i acc σ2 H3)
  (hd:∀ acc σ H,Pv n acc σ H->∀ p,H p=none->Q (.ref p) (upd H p (.lst acc))):JP (Itr lo n) g tt te σ0 H Q:=by
 refine ⟨fun i m acc σ H=>m=n-i/\i<=n/\acc.length<=i/\Pv i acc σ H,⟨n,by simp,F1 _,Fl _,h0⟩,?_⟩;rintro i m acc σ H ⟨rfl,hi,ha,p⟩;by_cases hlt:i<n
 ·refine .inr ⟨hlt,QN (by omega),fun x H' y=>?_⟩;obtain ⟨rfl,rfl⟩:=y;exact hs i acc σ _ hlt ha p
 ·have e:i=n:=by omega
  subst e;exact .inl ⟨Fl _,hd acc σ H p⟩
def HB (neg:Bool):R2:=fun x y H Q=>∃ i j,x=.str i/\y=.str j/\Q (.bl (if neg then !(!(Builtin.Str.occurrences j i 0 j.length 1).isEmpty) else !(Builtin.Str.occurrences j i 0 j.length 1).isEmpty)) H
def LD (K:W.Frag) (neg:Bool):R2:=fun x y H Q=>rIn K neg x y H Q∨HB neg x y H Q
theorem inK (K:W.Frag) {X:Cx}(h:X.K=K):OpR X (compareOp .In) (LD K false):=by
 subst h;exact op_in_seq.or GL
theorem R6 (K:W.Frag) {X:Cx}(h:X.K=K):OpR X (compareOp .NotIn) (LD K true):=by
 subst h;exact op_notIn_seq.or KP
theorem K7 {z:Str}:∀ {xs:List Str},inV (.str z) (xs.map V.str)=decide (z∈xs)
 | []=>by simp [inV]
 | x :: xs=>by
  have ih:=K7 (z:=z) (xs:=xs);unfold inV at *;rw [F3,List.any_cons,ih];by_cases h:z=x
  ·subst h;simp [eqV]
  ·have h':¬ x=z:=fun e=>h e.symm
   simp [eqV,h,h']
theorem Kp (xs:List Str):(xs.map V.str).all Wd=true:=by
 rw [List.all_map,Eo];intro _ _;rfl
theorem Nv {z:Str}{xs:List Str}(h:SqL K H p (xs.map V.str)) (q:Q (.bl (decide (z∈xs))) H):LD K false (.str z) (.ref p) H Q:=
 .inl ⟨p,_,rfl,.inl h,rfl,Kp xs,by rw [K7];exact q⟩
theorem Nr {z:Str}{xs:List Str}(h:SqL K H p (xs.map V.str)) (q:Q (.bl (!decide (z∈xs))) H):LD K true (.str z) (.ref p) H Q:=
 .inl ⟨p,_,rfl,.inl h,rfl,Kp xs,by rw [K7];exact q⟩
end L2
namespace L2
open PySem PyProof.Rows
def asBl (x:V) (P:Bool->Prop):Prop:=match x with | .bl c=>P c | _=>False
theorem asBl.out {x:V}{P:Bool->Prop}(h:asBl x P):∃ c,x=.bl c/\P c:=by
 cases x <;> first | exact ⟨_,rfl,h⟩ | exact h.elim
def asInt (x:V) (P:Int->Prop):Prop:=match x with | .int c=>P c | _=>False
theorem asInt.out {x:V}{P:Int->Prop}(h:asInt x P):∃ c,x=.int c/\P c:=by
 cases x <;> first | exact ⟨_,rfl,h⟩ | exact h.elim
def asVar (o:Option (Option V)) (P:V->Prop):Prop:=match o with | some (some v)=>P v | _=>False
theorem asVar.out {o:Option (Option V)}{P:V->Prop}(h:asVar o P):∃ v,o=some (some v)/\P v:=by
 cases o with
 | none=>exact h.elim
 | some o=>cases o with
  | none=>exact h.elim
  | some v=>exact ⟨v,rfl,h⟩
section
variable {X:Cx}
theorem PE.imp {e:Expr}{t u:TE}(p:PE X e t) (h:∀ σ H Q,u σ H Q->t σ H Q):PE X e u:=fun aq s σ H Q I q=>p aq s σ H Q I (h _ _ _ q)
theorem PGs.imp {t u:TGs}(p:PGs X es t) (h:∀ vs σ H Q,u vs σ H Q->t vs σ H Q):PGs X es u:=fun aq s σ H vs us Q I r q=>p aq s σ H vs us Q I r (h _ _ _ _ q)
theorem OpR.imp {f:Value->Value->Sem Value}{r r':R2}(p:OpR X f r) (h:∀ x y H Q,r' x y H Q->r x y H Q):OpR X f r':=fun aq s σ H x y v u Q I rx ry q=>p aq s σ H x y v u Q I rx ry (h _ _ _ _ q)
theorem UnR.imp {f:Value->Sem Value}{r r':V->Hp->VK->Prop}(p:UnR X f r) (h:∀ x H Q,r' x H Q->r x H Q):UnR X f r':=fun aq s σ H x v Q I rx q=>p aq s σ H x v Q I rx (h _ _ _ q)
def Vs (i:Nat):TE:=fun σ H Q=>asVar σ[i]? fun v=>Q v H
theorem pu (i:Nat) {x:Str}{pos:Pos}(hN:X.N[i]?=some x:=by rfl) (hv:Vis X.env.scope x:=by first | exact Or.inl rfl | exact Or.inr (Or.inl rfl) | exact Or.inr (Or.inr rfl)) (hd:(x == ("__debug__":Str))=false:=by decide) (hcd:(x == ("__classdict__":Str))=false:=by decide):PE X (.Name x pos) (Vs i):=
 (pv i hN hv hd hcd).imp fun _ _ _ h=>h.out
def uB (t:TE):TT:=fun σ H Q=>t σ H fun x H1=>asBl x fun c=>Q c H1
variable {a b:Expr} {ta tb:TE} {rest:List Expr} {pos:Pos}
theorem Zt {e:Expr}{t:TE}(h:PE X e t) (he:∀ whole,isTrue e X.env whole=(do let v <-whole;standAt e.pos;holding [v] (truthy v)):=by intro _;rfl):PT X e (uB t):=by
 intro aq s σ H Q I hw;refine isTrue_plain (thn (h aq s σ H _ I hw) fun v s1 ⟨x,H1,I1,r1,q1⟩=>?_) (he _);obtain ⟨d,rfl,q⟩:=q1.out;cases r1;exact EE ⟨H1,I1,q⟩
def BH (ta tb:TE):TE:=fun σ H Q=>ta σ H fun x H1=>asBl x fun c=>if c=true then tb σ H1 Q else Q (.bl false) H1
def Sd (ta tb:TE):TE:=fun σ H Q=>ta σ H fun x H1=>asBl x fun c=>if c=true then Q (.bl true) H1 else tb σ H1 Q
def BG (ta:TE):TE:=fun σ H Q=>ta σ H fun x H1=>asBl x fun c=>Q (.bl (!c)) H1
theorem Jd (ha:PE X a ta) (hb:PE X (.BoolOp .And (b :: rest) pos) tb):PE X (.BoolOp .And (a :: b :: rest) pos) (BH ta tb):=by
 intro aq s σ H Q I h;refine BoolOp_and (thn (ha aq s σ H _ I h) fun v s1 ⟨x,H1,I1,r1,q1⟩=>?_);obtain ⟨c,rfl,q1⟩:=q1.out;cases r1;refine EE ?_;cases c with
 | true=>exact hb aq s1 σ H1 Q I1 q1
 | false=>exact ⟨.bl false,H1,I1,rfl,q1⟩
theorem RR (ha:PE X a ta) (hb:PE X (.BoolOp .Or (b :: rest) pos) tb):PE X (.BoolOp .Or (a :: b :: rest) pos) (Sd ta tb):=by
 intro aq s σ H Q I h;refine BoolOp_or (thn (ha aq s σ H _ I h) fun v s1 ⟨x,H1,I1,r1,q1⟩=>?_);obtain ⟨c,rfl,q1⟩:=q1.out;cases r1;refine EE ?_;cases c with
 | false=>exact hb aq s1 σ H1 Q I1 q1
 | true=>exact ⟨.bl true,H1,I1,rfl,q1⟩
theorem UQ (ha:PE X a ta):PE X (.UnaryOp .Not a pos) (BG ta):=by
 intro aq s σ H Q I h;refine UnaryOp_ (thn (ha aq s σ H _ I h) fun v s1 ⟨x,H1,I1,r1,q1⟩=>?_);obtain ⟨c,rfl,q1⟩:=q1.out;cases r1;exact not_of (EE ⟨.bl (!c),H1,I1,rfl,q1⟩)
theorem Qt {r:R2}(ho:OpR X (compareOp op) r) (ha:PE X a ta) (hb:PE X b tb) (hm:behindInMarks op b=false):PT X (.Compare a [op] [b] pos) (uB (tOp r ta tb)):=by
 intro aq s σ H Q I h;refine wpAny_isTrue_Compare1 (thn (ha aq s σ H _ I h) fun v s1 ⟨x,H1,I1,r1,q1⟩=>thn (hb aq s1 σ H1 _ I1 q1) fun u s2 ⟨y,H2,I2,r2,q2⟩=>
  thn (ho aq s2 σ H2 x y v u _ I2 r1 r2 q2) fun c s3 ⟨z,H3,I3,r3,q3⟩=>?_) hm
 obtain ⟨k,e,q3⟩:=q3.out;subst e;cases r3;exact EE ⟨H3,I3,q3⟩
def sI (C:Int->Int->Prop) (g:Int->Int->V):R2:=fun x y H Q=>asInt x fun i=>asInt y fun j=>C i j/\Q (g i j) H
def sI0 (g:Int->Int->V):R2:=fun x y H Q=>asInt x fun i=>asInt y fun j=>Q (g i j) H
def sU (g:Int->V):V->Hp->VK->Prop:=fun x H Q=>asInt x fun i=>Q (g i) H
theorem sI.out {C:Int->Int->Prop}{g:Int->Int->V}(x y:V) (H:Hp) (Q:VK) (h:sI C g x y H Q):rI C g x y H Q:=by
 obtain ⟨i,rfl,h2⟩:=asInt.out h;obtain ⟨j,rfl,h3⟩:=asInt.out h2;exact ⟨i,j,rfl,rfl,h3⟩
theorem sI0.out {g:Int->Int->V}(x y:V) (H:Hp) (Q:VK) (h:sI0 g x y H Q):rI0 g x y H Q:=by
 obtain ⟨i,rfl,h2⟩:=asInt.out h;obtain ⟨j,rfl,h3⟩:=asInt.out h2;exact ⟨i,j,rfl,rfl,h3⟩
theorem sU.out {g:Int->V}(x:V) (H:Hp) (Q:VK) (h:sU g x H Q):rU g x H Q:=by
 obtain ⟨i,rfl,h⟩:=asInt.out h;exact ⟨i,rfl,h⟩
theorem LS:OpR X (binaryOp .Sub) (sI0 fun i j=>.int (i-j)):=op_sub.imp sI0.out
theorem QR:OpR X (binaryOp .Mult) (sI CMulB fun i j=>.int (i*j)):=op_mulB.imp sI.out
theorem QC:OpR X (binaryOp .Mult) (sI CMulU fun i j=>.int (i*j)):=op_mulU.imp sI.out
theorem Qv:OpR X (binaryOp .FloorDiv) (sI (fun _ j=>CDivB j) fun i j=>.int (i.fdiv j)):=op_fdivB.imp sI.out
theorem Qn:OpR X (binaryOp .Mod) (sI (fun _ j=>0<j) fun i j=>.int (i % j)):=op_mod.imp sI.out
theorem Mb:OpR X (binaryOp .Mod) (sI (fun _ j=>j≠0) fun i j=>.int (i.fmod j)):=op_modN.imp sI.out
theorem Y7:OpR X (binaryOp .Pow) (sI UE fun i j=>.int (i ^ j.toNat)):=op_pow.imp sI.out
theorem Ju:OpR X (compareOp .Lt) (sI0 fun i j=>.bl (decide (i<j))):=op_lt.imp sI0.out
theorem KR:OpR X (compareOp .Gt) (sI0 fun i j=>.bl (decide (i > j))):=op_gt.imp sI0.out
theorem RX:OpR X (compareOp .GtE) (sI0 fun i j=>.bl (decide (i ≥ j))):=op_ge.imp sI0.out
theorem Lm:UnR X (unaryOp .USub) (sU fun i=>.int (-i)):=un_neg.imp sU.out
def sAdd:R2:=fun x y H Q=>match x,y with
 | .int i,.int j=>Q (.int (i+j)) H
 | .str i,.str j=>i.length+j.length<=sizeLine/\Q (.str (i++j)) H
 | .ref _,.ref _=>NZ x y H Q
 | _,_=>False
theorem sAdd.out (x y:V) (H:Hp) (Q:VK) (h:sAdd x y H Q):BO x y H Q:=by
 unfold sAdd at h;split at h
 ·exact .inl ⟨_,_,rfl,rfl,h⟩
 ·exact .inr (.inl ⟨_,_,rfl,rfl,h⟩)
 ·exact .inr (.inr h)
 ·exact h.elim
theorem Qq:OpR X (binaryOp .Add) sAdd:=op_addA.imp sAdd.out
def sEq (K:W.Frag):R2:=fun x y H Q=>match x,y with
 | .int i,.int j=>Q (.bl (decide (i=j))) H
 | .str i,.str j=>Q (.bl (decide (i=j))) H
 | .bl i,.bl j=>Q (.bl (decide (i=j))) H
 | _,_=>JU K x y H Q
def sNe (K:W.Frag):R2:=fun x y H Q=>match x,y with
 | .int i,.int j=>Q (.bl (!decide (i=j))) H
 | .str i,.str j=>Q (.bl (!decide (i=j))) H
 | .bl i,.bl j=>Q (.bl (!decide (i=j))) H
 | _,_=>KI K x y H Q
theorem sEq.out (x y:V) (H:Hp) (Q:VK) (h:sEq K x y H Q):JU K x y H Q:=by
 unfold sEq at h;split at h
 ·rw [Rp];exact h
 ·rw [Ro];exact h
 ·rw [Rq];exact h
 ·exact h
theorem sNe.out (x y:V) (H:Hp) (Q:VK) (h:sNe K x y H Q):KI K x y H Q:=by
 unfold sNe at h;split at h
 ·rw [Rf];exact h
 ·rw [Re];exact h
 ·rw [Rh];exact h
 ·exact h
theorem eqM (K:W.Frag) (h:X.K=K) (hu:X.A.units+64<cLine):OpR X (compareOp .Eq) (sEq K):=(eqK K h hu).imp sEq.out
theorem neM (K:W.Frag) (h:X.K=K) (hu:X.A.units+64<cLine):OpR X (compareOp .NotEq) (sNe K):=(neK K h hu).imp sNe.out
def SS:TGs:=fun vs σ H Q=>match vs with | []=>Q σ H | _=>False
def BV (t:TG) (u:TGs):TGs:=fun vs σ H Q=>match vs with | v :: r=>t v σ H fun σ' H'=>u r σ' H' Q | []=>False
theorem Zp:PGs X [] SS:=pgs_nil.imp fun vs _ _ _ h=>by
 cases vs with
 | nil=>exact ⟨rfl,h⟩
 | cons _ _=>exact h.elim
theorem Qz {e:Expr}{t:TG}{u:TGs}(h:PG X e t) (hg:PGs X es u) (hs:(assignEach (e :: es) X.env).map (·.2)=assign e X.env :: (assignEach es X.env).map (·.2):=by rfl):PGs X (e :: es) (BV t u):=(N5 h hg hs).imp fun vs _ _ _ q=>by
 cases vs with
 | nil=>exact q.elim
 | cons v r=>exact ⟨v,r,rfl,q⟩
end
def Sp1M (φ:V->Hp->VK->Prop):Sp:=fun vs H Q _=>match vs with | [a]=>φ a H Q | _=>False
def Sp2M (φ:V->V->Hp->VK->Prop):Sp:=fun vs H Q _=>match vs with | [a,b]=>φ a b H Q | _=>False
def Sp3M (φ:V->V->V->Hp->VK->Prop):Sp:=fun vs H Q _=>match vs with | [a,b,c]=>φ a b c H Q | _=>False
def Sp4M (φ:V->V->V->V->Hp->VK->Prop):Sp:=fun vs H Q _=>match vs with | [a,b,c,d]=>φ a b c d H Q | _=>False
def Rp1M (φ:V->Hp->VK->XK->Prop):Sp:=fun vs H Q E=>match vs with | [a]=>φ a H Q E | _=>False
def Rp3M (φ:V->V->V->Hp->VK->XK->Prop):Sp:=fun vs H Q E=>match vs with | [a,b,c]=>φ a b c H Q E | _=>False
theorem Sp1M.imp {φ:V->Hp->VK->Prop}(vs:List V) (H:Hp) (Q:VK) (E:XK) (h:Sp1M φ vs H Q E):Sp1 φ vs H Q E:=by
 unfold Sp1M at h;split at h
 ·exact ⟨_,rfl,h⟩
 ·exact h.elim
theorem Sp2M.imp {φ:V->V->Hp->VK->Prop}(vs:List V) (H:Hp) (Q:VK) (E:XK) (h:Sp2M φ vs H Q E):Sp2 φ vs H Q E:=by
 unfold Sp2M at h;split at h
 ·exact ⟨_,_,rfl,h⟩
 ·exact h.elim
theorem Sp3M.imp {φ:V->V->V->Hp->VK->Prop}(vs:List V) (H:Hp) (Q:VK) (E:XK) (h:Sp3M φ vs H Q E):Sp3 φ vs H Q E:=by
 unfold Sp3M at h;split at h
 ·exact ⟨_,_,_,rfl,h⟩
 ·exact h.elim
theorem Sp4M.imp {φ:V->V->V->V->Hp->VK->Prop}(vs:List V) (H:Hp) (Q:VK) (E:XK) (h:Sp4M φ vs H Q E):Sp4 φ vs H Q E:=by
 unfold Sp4M at h;split at h
 ·exact ⟨_,_,_,_,rfl,h⟩
 ·exact h.elim
theorem Rp1M.imp {φ:V->Hp->VK->XK->Prop}(vs:List V) (H:Hp) (Q:VK) (E:XK) (h:Rp1M φ vs H Q E):Rp1 φ vs H Q E:=by
 unfold Rp1M at h;split at h
 ·exact ⟨_,rfl,h⟩
 ·exact h.elim
theorem Rp3M.imp {φ:V->V->V->Hp->VK->XK->Prop}(vs:List V) (H:Hp) (Q:VK) (E:XK) (h:Rp3M φ vs H Q E):Rp3 φ vs H Q E:=by
 unfold Rp3M at h;split at h
 ·exact ⟨_,_,_,rfl,h⟩
 ·exact h.elim
theorem PU:Vs i σ H Q=asVar σ[i]? fun v=>Q v H:=rfl
theorem B3 {P:V->Prop}:asVar (some (some v)) P=P v:=rfl
theorem Hr {c:Bool}{P:Bool->Prop}:asBl (.bl c) P=P c:=rfl
theorem Hm {t:TE}{Q:Bool->Hp->Prop}:uB t σ H Q=t σ H fun x H1=>asBl x fun c=>Q c H1:=rfl
theorem Tf {tb:TE}:BH ta tb σ H Q=ta σ H fun x H1=>asBl x fun c=>if c=true then tb σ H1 Q else Q (.bl false) H1:=rfl
theorem Hq {tb:TE}:Sd ta tb σ H Q=ta σ H fun x H1=>asBl x fun c=>if c=true then Q (.bl true) H1 else tb σ H1 Q:=rfl
theorem P5:BG ta σ H Q=ta σ H fun x H1=>asBl x fun c=>Q (.bl (!c)) H1:=rfl
theorem Ho {C:Int->Int->Prop}{g:Int->Int->V}{i j:Int}:sI C g (.int i) (.int j) H Q=(C i j/\Q (g i j) H):=rfl
theorem P1 {g:Int->Int->V}{i j:Int}:sI0 g (.int i) (.int j) H Q=Q (g i j) H:=rfl
theorem Hn {g:Int->V}{i:Int}:sU g (.int i) H Q=Q (g i) H:=rfl
theorem B6 {i j:Int}:sAdd (.int i) (.int j) H Q=Q (.int (i+j)) H:=rfl
theorem B5 {i j:Str}:sAdd (.str i) (.str j) H Q=(i.length+j.length<=sizeLine/\Q (.str (i++j)) H):=rfl
theorem Yx {q:Addr}:sAdd (.ref p) (.ref q) H Q=NZ (.ref p) (.ref q) H Q:=rfl
theorem Td {i j:Int}:sEq K (.int i) (.int j) H Q=Q (.bl (decide (i=j))) H:=rfl
theorem Ta {i j:Str}:sEq K (.str i) (.str j) H Q=Q (.bl (decide (i=j))) H:=rfl
theorem Te {i j:Bool}:sEq K (.bl i) (.bl j) H Q=Q (.bl (decide (i=j))) H:=rfl
theorem Tc {q:Addr}:sEq K (.ref p) (.ref q) H Q=JU K (.ref p) (.ref q) H Q:=rfl
theorem P8 {i j:Int}:sNe K (.int i) (.int j) H Q=Q (.bl (!decide (i=j))) H:=rfl
theorem P6 {i j:Str}:sNe K (.str i) (.str j) H Q=Q (.bl (!decide (i=j))) H:=rfl
theorem P9 {i j:Bool}:sNe K (.bl i) (.bl j) H Q=Q (.bl (!decide (i=j))) H:=rfl
theorem P7 {q:Addr}:sNe K (.ref p) (.ref q) H Q=KI K (.ref p) (.ref q) H Q:=rfl
theorem B4 {Q:St->Hp->Prop}:SS [] σ H Q=Q σ H:=rfl
theorem Lc {t:TG}{u:TGs}{r:List V}{Q:St->Hp->Prop}:BV t u (v :: r) σ H Q=t v σ H fun σ' H'=>u r σ' H' Q:=rfl
theorem P0 {φ:V->Hp->VK->Prop}{a:V}:Sp1M φ [a] H Q E=φ a H Q:=rfl
theorem PZ {φ:V->V->Hp->VK->Prop}{a b:V}:Sp2M φ [a,b] H Q E=φ a b H Q:=rfl
theorem PY {φ:V->V->V->Hp->VK->Prop}{a b:V}:Sp3M φ [a,b,c] H Q E=φ a b c H Q:=rfl
theorem PX {φ:V->V->V->V->Hp->VK->Prop}{a b d:V}:Sp4M φ [a,b,c,d] H Q E=φ a b c d H Q:=rfl
theorem P4 {φ:V->Hp->VK->XK->Prop}{a:V}:Rp1M φ [a] H Q E=φ a H Q E:=rfl
theorem P3 {φ:V->V->V->Hp->VK->XK->Prop}{a b:V}:Rp3M φ [a,b,c] H Q E=φ a b c H Q E:=rfl
theorem UF {q:Addr}(h:NZ (.ref p) (.ref q) H Q):sAdd (.ref p) (.ref q) H Q:=h
end L2
namespace L2
open PySem PySem.Spec PyProof.Rows
section
variable {κ:Type} [DecidableEq κ]
def Q8 (kvs:List (κ×V)) (k:κ):Option V:=(kvs.find? fun kv=>decide (kv.1=k)).map (·.2)
def X0 (kvs:List (κ×V)) (k:κ) (v:V):List (κ×V):=
 if (kvs.any fun kv=>decide (kv.1=k))=true then kvs.map (fun kv=>if kv.1=k then (kv.1,v) else kv) else kvs++[(k,v)]
theorem Zm {p:κ×V}{r:List (κ×V)}{k:κ}(e:p.1=k):Q8 (p :: r) k=some p.2:=by simp [Q8,E9,e]
theorem Zn {p:κ×V}{r:List (κ×V)}{k:κ}(e:¬ p.1=k):Q8 (p :: r) k=Q8 r k:=by simp [Q8,E9,e]
theorem Xd (k:κ):∀ kvs:List (κ×V),(kvs.any fun kv=>decide (kv.1=k))=(Q8 kvs k).isSome
 | []=>rfl
 | p :: r=>by
  rw [List.any_cons];by_cases e:p.1=k
  ·simp only [Zm e,FT e,Bool.true_or,Option.isSome_some]
  ·rw [Zn e,FQ e,Bool.false_or];exact Xd k r
theorem Vr (k j:κ) (y:V):∀ kvs:List (κ×V),Q8 (kvs.map fun kv=>if kv.1=k then (kv.1,y) else kv) j=(Q8 kvs j).map fun x=>if j=k then y else x
 | []=>rfl
 | p :: r=>by
  have ih:=Vr k j y r;rw [F3];by_cases h:p.1=k
  ·rw [Fk h];by_cases e:p.1=j
   ·rw [Zm (p:=(p.1,y)) e,Zm e,EH,Fk (e.symm.trans h)]
   ·rw [Zn (p:=(p.1,y)) e,Zn e,ih]
  ·rw [Fh h];by_cases e:p.1=j
   ·rw [Zm (p:=p) e,Zm e,EH,Fh (fun z=>h (e.trans z))]
   ·rw [Zn (p:=p) e,Zn e,ih]
theorem Kd (k j:κ) (y:V):∀ kvs:List (κ×V),Q8 kvs k=none->Q8 (kvs++[(k,y)]) j=if j=k then some y else Q8 kvs j
 | [],_=>by
  by_cases e:k=j
  ·rw [Fk e.symm];exact Zm (p:=(k,y)) e
  ·rw [Fh (fun z=>e z.symm)];exact Zn (p:=(k,y)) e
 | p :: r,hn=>by
  rw [List.cons_append];have hk:¬ p.1=k:=fun z=>by rw [Zm z] at hn;cases hn
  rw [Zn hk] at hn;have ih:=Kd k j y r hn;by_cases e:p.1=j
  ·rw [Zm e,Zm e,Fh (fun z=>hk (e.trans z))]
  ·rw [Zn e,Zn e,ih]
theorem Vq (kvs:List (κ×V)) (k j:κ) (y:V):Q8 (X0 kvs k y) j=if j=k then some y else Q8 kvs j:=by
 unfold X0;by_cases a:(kvs.any fun kv=>decide (kv.1=k))=true
 ·rw [Fk a,Vr];rw [Xd] at a;by_cases e:j=k
  ·obtain ⟨x,hx⟩:=Option.isSome_iff_exists.mp a;rw [Fk e,e,hx,EH,Fk rfl]
  ·rw [Fh e];cases Q8 kvs j with
   | none=>rfl
   | some x=>rw [EH,Fh e]
 ·rw [Fh a];refine Kd k j y kvs ?_;rw [Xd] at a;cases q:Q8 kvs k with
  | none=>rfl
  | some x=>rw [q] at a;exact (a rfl).elim
theorem X7 (kvs:List (κ×V)) (k:κ) (v:V):(X0 kvs k v).length<=kvs.length+1:=by
 unfold X0;split
 ·rw [Fi];omega
 ·rw [Fo,El,List.length_nil];omega
theorem Y2 {kvs:List (κ×V)}{k:κ}(v:V) (h:Q8 kvs k=none):X0 kvs k v=kvs++[(k,v)]:=by
 unfold X0;rw [Xd,h];exact Fh (by decide)
theorem RelO.isSome_eq {o:Option V}{u:Option Value}(r:RelO o u):o.isSome=u.isSome:=by
 cases o with
 | none=>cases u with
  | none=>rfl
  | some _=>exact (show False from r).elim
 | some _=>cases u with
  | none=>exact (show False from r).elim
  | some _=>rfl
theorem KV.val {kvs:List (κ×V)}{vs:List (κ×Value)}(r:KV kvs vs) (k:κ):RelO (Q8 kvs k) (valueAt vs k):=by
 unfold KV at r
 induction r with
 | nil=>exact True.intro
 | @cons p q ps qs h t ih=>
  obtain ⟨h1,h2⟩:=h;by_cases e:p.1=k
  ·have e':q.1=k:=h1.symm.trans e;have b:valueAt (q :: qs) k=some q.2:=by simp [valueAt,E9,e']
   rw [Zm e,b];exact h2
  ·have e':¬ q.1=k:=fun z=>e (h1.trans z)
   have b:valueAt (q :: qs) k=valueAt qs k:=by simp [valueAt,E9,e']
   rw [Zn e,b];exact ih
theorem KV.any {kvs:List (κ×V)}{vs:List (κ×Value)}(r:KV kvs vs) (k:κ):(kvs.any fun kv=>decide (kv.1=k))=vs.any fun kv=>decide (kv.1=k):=by
 unfold KV at r
 induction r with
 | nil=>rfl
 | cons h t ih=>rw [List.any_cons,List.any_cons,ih,h.1]
theorem KV.repl {kvs:List (κ×V)}{vs:List (κ×Value)}(r:KV kvs vs) (k:κ) {y:V}{u:Value}(ry:RelV y u) :
  KV (kvs.map fun kv=>if kv.1=k then (kv.1,y) else kv) (vs.map fun kv=>if kv.1=k then (kv.1,u) else kv):=by
 unfold KV at r ⊢
 induction r with
 | nil=>exact .nil
 | @cons p q ps qs h t ih=>
  rw [F3,F3];refine .cons ?_ ih;obtain ⟨h1,h2⟩:=h;by_cases e:p.1=k
  ·rw [Fk e,Fk (h1.symm.trans e)];exact ⟨h1,ry⟩
  ·rw [Fh e,Fh (fun z=>e (h1.trans z))];exact ⟨h1,h2⟩
theorem KV.put {kvs:List (κ×V)}{vs:List (κ×Value)}(r:KV kvs vs) (k:κ) {y:V}{u:Value}(ry:RelV y u):KV (X0 kvs k y) (stored vs k u):=by
 unfold X0 stored;rw [r.any k];by_cases e:(vs.any fun kv=>decide (kv.1=k))=true
 ·rw [Fk e,Fk e];exact r.repl k ry
 ·rw [Fh e,Fh e];exact Paired.snoc r ⟨rfl,ry⟩
theorem KV.keys {kvs:List (κ×V)}{vs:List (κ×Value)}(r:KV kvs vs):kvs.map (·.1)=vs.map (·.1):=by
 unfold KV at r
 induction r with
 | nil=>rfl
 | cons h t ih=>rw [F3,F3,ih,h.1]
theorem KV.length {kvs:List (κ×V)}{vs:List (κ×Value)}(r:KV kvs vs):kvs.length=vs.length:=Paired.length r
end
theorem UX {k:Key}(r:RelV (kV k) u):(QP P w).is k u=true:=by
 cases k with
 | inl i=>obtain ⟨t,e⟩:=(show ∃ t,u=Value.int i t from r);subst e;exact VJ P w i t
 | inr x=>obtain ⟨t,e⟩:=(show ∃ t,u=Value.str x t from r);subst e;exact VI P w x t
theorem Kl {P:Program}{w:World}:∀ {ks:List Key}{us:List Value},Vals (ks.map kV) us->ItemsAre (QP P w) ks us
 | [],_,r=>by rw [List.map_nil] at r;cases r;exact .nil
 | k :: ks,_,r=>by
  rw [F3] at r;cases r with
  | cons h t=>exact .cons (UX h) (Kl t)
abbrev KT (H:Hp):List (List Key×V)->List (List Key×Addr×Value)->Prop:=Paired fun p q=>p.1=q.1/\H q.2.1=some (.tup (p.1.map kV))/\RelV p.2 q.2.2
theorem KT.val {kvs:List (List Key×V)}{xs:List (List Key×Addr×Value)}(r:KT H kvs xs) (k:List Key):RelO (Q8 kvs k) ((atKey xs k).map (·.2)):=by
 induction r with
 | nil=>exact True.intro
 | @cons p q ps qs h t ih=>
  obtain ⟨h1,_,h2⟩:=h;by_cases e:p.1=k
  ·have e':q.1=k:=h1.symm.trans e;have b:atKey (q :: qs) k=some q.2:=by simp [atKey,E9,e']
   rw [Zm e,b];exact h2
  ·have e':¬ q.1=k:=fun z=>e (h1.trans z)
   have b:atKey (q :: qs) k=atKey qs k:=by simp [atKey,E9,e']
   rw [Zn e,b];exact ih
theorem KT.repl {kvs:List (List Key×V)}{xs:List (List Key×Addr×Value)}(r:KT H kvs xs) (k:List Key) {y:V}{u:Value}(ry:RelV y u) :
  KT H (kvs.map fun kv=>if kv.1=k then (kv.1,y) else kv) (xs.map (putAt k u)):=by
 induction r with
 | nil=>exact .nil
 | @cons p q ps qs h t ih=>
  rw [F3,F3];refine .cons ?_ ih;obtain ⟨h1,h2,h3⟩:=h;unfold putAt;by_cases e:p.1=k
  ·rw [Fk e,Fk (h1.symm.trans e)];exact ⟨h1,h2,ry⟩
  ·rw [Fh e,Fh (fun z=>e (h1.trans z))];exact ⟨h1,h2,h3⟩
theorem KT.put {kvs:List (List Key×V)}{xs:List (List Key×Addr×Value)}(r:KT H kvs xs) (k:List Key) {b:Addr}{y:V}{u:Value}(hb:H b=some (.tup (k.map kV))) (ry:RelV y u) :
  KT H (X0 kvs k y) (storedH xs k b u):=by
 have e:(kvs.any fun kv=>decide (kv.1=k))=(atKey xs k).isSome:=by
  rw [Xd,(r.val k).isSome_eq,Option.isSome_map]
 unfold X0 storedH;rw [e];by_cases q:(atKey xs k).isSome=true
 ·rw [Fk q,Fk q];exact r.repl k ry
 ·rw [Fh q,Fh q];exact Paired.snoc r ⟨rfl,hb,ry⟩
theorem KT.keeps {kvs:List (List Key×V)}{xs:List (List Key×Addr×Value)}(r:KT H kvs xs) (ht:∀ b ys,H b=some (.tup ys)->H' b=some (.tup ys)):KT H' kvs xs:=
 Paired.mapP r fun _ _ z=>⟨z.1,ht _ _ z.2.1,z.2.2⟩
section
variable {P:Program} {w:World} {H:Hp} {h:Heap} {a:Addr}
theorem BN {u:HO}(ok:HOk P w H h) (e:Rd H a u):ObjOk P w H h a u:=e.ok ok
theorem VR (ok:HOk P w H h) (e:Rd H a (.dK kvs)):kvs.length<=sizeLine/\(a == sysModules)=false/\∃ vs,KV kvs vs/\h.DictOf (QP P w) a vs:=
 show ObjOk P w H h a (.dK kvs) from BN ok e
theorem BZ (ok:HOk P w H h) (e:H a=some (.dK kvs)):kvs.length<=sizeLine/\(a == sysModules)=false/\∃ vs,KV kvs vs/\h.DictOf (QP P w) a vs:=VR ok (.inl e)
theorem K4 {ks:List Key}(ok:HOk P w H h) (e:H a=some (.tup (ks.map kV))):(tupleKind (QP P w)).is h ks a:=by
 obtain ⟨_,its,r,o,h1,h2,n,h3⟩:=(show ObjOk P w H h a (.tup (ks.map kV)) from ok a _ e)
 exact ⟨o,its.toArray,n,h1,h2,h3,by simpa using Kl r⟩
theorem Gc {kvs:List (List Key×V)}(ok:HOk P w H h) (e:Rd H a (.dT kvs)):kvs.length<=sizeLine/\(a == sysModules)=false /\
  ∃ xs,KT H kvs xs/\h.DictOfH (tupleKind (QP P w)) a xs:=by
 obtain ⟨z,y,xs,r,o,es,ep,h1,h2,h3,h4,h5⟩:=(show ObjOk P w H h a (.dT kvs) from BN ok e)
 refine ⟨z,y,xs,r,o,es,ep,h1,h2,h3,h4,fun x hx=>?_,h5⟩;have all:∀ {l:List (List Key×V)} {m:List (List Key×Addr×Value)},KT H l m->∀ x∈m,(tupleKind (QP P w)).is h x.1 x.2.1:=by
  intro l m q
  induction q with
  | nil=>intro x hx;exact nomatch hx
  | @cons p q ps qs hq t ih=>
   intro x hx;rcases FF.mp hx with e | hx
   ·subst e;exact K4 ok (by rw [<-hq.1];exact hq.2.1)
   ·exact ih x hx
 exact all r x hx
theorem S3 {kvs:List (List Key×V)}(ok:HOk P w H h) (e:H a=some (.dT kvs)):kvs.length<=sizeLine/\(a == sysModules)=false /\
  ∃ xs,KT H kvs xs/\h.DictOfH (tupleKind (QP P w)) a xs:=Gc ok (.inl e)
end
def DGet (H:Hp) (a:Addr) (y:V) (r:Option V):Prop:=
 (∃ kvs k,Rd H a (.dK kvs)/\y=kV k/\r=Q8 kvs k)∨∃ kvs k b,Rd H a (.dT kvs)/\y=.ref b/\H b=some (.tup (k.map kV))/\r=Q8 kvs k
def DPut (H:Hp) (a:Addr) (y v:V) (H':Hp):Prop:=
 (∃ kvs k,H a=some (.dK kvs)/\y=kV k/\kvs.length<sizeLine/\H'=upd H a (.dK (X0 kvs k v))) ∨
 ∃ kvs k b,H a=some (.dT kvs)/\y=.ref b/\H b=some (.tup (k.map kV))/\kvs.length<sizeLine/\H'=upd H a (.dT (X0 kvs k v))
theorem DGet.k {H:Hp}{a:Addr}{kvs:List (Key×V)}{k:Key}(e:H a=some (.dK kvs)):DGet H a (kV k) (Q8 kvs k):=.inl ⟨kvs,k,.inl e,rfl,rfl⟩
theorem DPut.k {H:Hp}{a:Addr}{kvs:List (Key×V)}{k:Key}{v:V}(e:H a=some (.dK kvs)) (hl:kvs.length<sizeLine):DPut H a (kV k) v (upd H a (.dK (X0 kvs k v))):=.inl ⟨kvs,k,e,rfl,hl,rfl⟩
section
variable {X:Cx} {aq:List (Addr×Obj)} {σ:St} {H:Hp} {s:Shared} {a:Addr} {y v:V} {u r:Value} {o:Option V} {A:Around} {E:Value->Shared->Prop}
theorem Inv.big (I:Inv X aq σ H s):sysModules<s.heap.objs.size:=by
 have h:mainGlobals<s.heap.objs.size:=(I.mod.glob.keeps I.bk).lt;exact Nat.lt_trans (by decide) h
theorem G9 {Q:Value->Shared->Prop}(hu:A.units+1<cLine) (I:Inv X aq σ H s) (g:DGet H a y (some v)) (ry:RelV y u) (h:∀ w' s',Inv X aq σ H s'->RelV v w'->Q w' s') :
  wpAny (model X.prog X.w) A (getItem (.ref a) u) Q E s:=by
 rcases g with ⟨kvs,k,e,ey,l⟩ | ⟨kvs,k,b,e,ey,eb,l⟩
 ·subst ey;obtain ⟨z,hd,vs,rel,dd⟩:=VR I.hok e;obtain ⟨w',hw,rw'⟩:=RelO.some_of (v:=v) (o:=valueAt vs k) (by rw [l];exact rel.val k);exact wpAny_getItem_of (UX ry) dd.mapOf hw (h w' _ (I.tok _) rw')
 ·subst ey;cases (show u=Value.ref b from ry);obtain ⟨z,hd,xs,rel,dd⟩:=Gc I.hok e;obtain ⟨w',hw,rw'⟩:=RelO.some_of (v:=v) (o:=(atKey xs k).map (·.2)) (by rw [l];exact rel.val k);obtain ⟨p,hp,hp2⟩:=FW.mp hw;refine wpAny_getItem_heap (tupleKind_room_in1 hu) (K4 I.hok eb) dd hp ?_;rw [hp2];exact h w' _ (I.tok _) rw'
theorem Br {Q:Value->Shared->Prop}(hu:A.units+1<cLine) (I:Inv X aq σ H s) (g:DGet H a y o) (ry:RelV y u) (h:∀ s',Inv X aq σ H s'->Q (.bool (!o.isSome)) s') :
  wpAny (model X.prog X.w) A (compareOp .NotIn u (.ref a)) Q E s:=by
 rcases g with ⟨kvs,k,e,ey,l⟩ | ⟨kvs,k,b,e,ey,eb,l⟩
 ·subst ey;obtain ⟨z,hd,vs,rel,dd⟩:=VR I.hok e;refine wpAny_notIn_of (UX ry) hd dd.mapOf ?_;rw [<-(rel.val k).isSome_eq,<-l];exact h _ (I.tok _)
 ·subst ey;cases (show u=Value.ref b from ry);obtain ⟨z,hd,xs,rel,dd⟩:=Gc I.hok e;refine wpAny_notIn_heap (tupleKind_room_in1 hu) (K4 I.hok eb) hd dd ?_;have q:=(rel.val k).isSome_eq;rw [Option.isSome_map] at q;rw [<-q,<-l];exact h _ (I.tok _)
theorem Gg {ob:HO}(I:Inv X aq σ H s) (mu:Mut (H a)) (hs:Heap.SameBut a s.heap h') (he:∃ q,h'.get? a=some q) (new:ObjOk X.prog X.w (upd H a ob) h' a ob) :
  Inv X aq σ (upd H a ob) { s with heap:=h',toks:=t' }:=
 I.write (x:=a) (e:=a) mu (.inl rfl) (fun b q hb z=>(hs.2 b hb).trans z) he new
theorem Pt {vs:List (Key×Value)}(z:kvs.length<=sizeLine) (hd:(a == sysModules)=false) (rel:KV kvs vs) (dd:h'.DictOf (QP P w) a vs) :
  ObjOk P w H' h' a (.dK kvs):=⟨z,hd,vs,rel,dd⟩
theorem G8 {Q:Unit->Shared->Prop}(hu:A.units+1<cLine) (I:Inv X aq σ H s) (g:DPut H a y v H') (ry:RelV y u) (rv:RelV v r) (h:∀ s',Inv X aq σ H' s'->Q () s') :
  wpAny (model X.prog X.w) A (setItem (.ref a) u r) Q E s:=by
 rcases g with ⟨kvs,k,e,ey,l,eH⟩ | ⟨kvs,k,b,e,ey,eb,l,eH⟩
 ·subst ey eH;obtain ⟨z,hd,vs,rel,dd⟩:=BZ I.hok e;have hz:vs.length<=sizeLine:=by rw [<-rel.length];exact z
  have hl:(X0 kvs k v).length<=sizeLine:=by have:=X7 kvs k v;omega
  refine wpAny_setItem_pairs (hsz:=hz) (UX ry) dd fun h' dd' hs=>h _ ?_
  have he:∃ q,h'.get? a=some q:=let ⟨q,_,_,hq,_⟩:=dd';⟨q,hq⟩;exact Gg I (by rw [e];exact True.intro) hs he (Pt hl hd (rel.put k rv) dd')
 ·subst ey eH;cases (show u=Value.ref b from ry);obtain ⟨z,hd,xs,rel,dd⟩:=S3 I.hok e;have hz:xs.length<=sizeLine:=by rw [<-Paired.length rel];exact z
  have hl:(X0 kvs k v).length<=sizeLine:=by have:=X7 kvs k v;omega
  refine wpAny_setItem_heap (hsz:=hz) (tupleKind_room_in1 hu) (K4 I.hok eb) dd fun h' dd' hs=>h _ ?_
  obtain ⟨q,es,ep,hq,h2,h3,h4,_,h5⟩:=dd';refine Gg I (by rw [e];exact True.intro) hs ⟨q,hq⟩ ⟨hl,hd,_,(rel.put k eb rv).keeps fun c ys ec=>?_,q,es,ep,hq,h2,h3,h4,h5⟩;rw [Qj (VH ec e (fun z=>nomatch z))];exact ec
end
def Hi (i:Expr):Prop:=∀ ov iv,subscripted i false ov iv=operate [ov,iv] (getItem ov iv)
theorem Lr {E:Value->Shared->Prop}{value slice:Expr}{id:String}{Q:Value->Shared->Prop} 
  (hl:typeLookup (.type T) "__getitem__"=pure (some (.builtin id))) (hs:Hi slice)
  (h:wpAny (model prog w) A (eval value env) (fun o s₁=>wpAny (model prog w) A (eval slice env) (fun i s₂=>s₂.TypeIs o T/\wpAny (model prog w) A (getItem o i) Q E s₂) E s₁) E s) :
  wpAny (model prog w) A (eval (.Subscript value slice pos) env) Q E s:=by
 refine Subscript_ (FV h (fun o s₁ h₁=>FV h₁ (fun i s₂ h₂=>?_) fun _ _ x=>x) fun _ _ x=>x);obtain ⟨hT,h₂⟩:=h₂;unfold subscriptTail;refine Fg ?_;rw [getitemInPython_of_ne hT.not_modules];refine Fg (wpAny_specialOf hT hl ?_);have fin:wpAny (model prog w) A (subscripted slice false o i) (fun r s₃=>wpAny (model prog w) A (letTemporaryGo value o r >>= fun _=>pure r) Q E s₃) E s₂:=by
  rw [hs o i];exact wpAny_operating (FV h₂ (fun r s₃ h₃=>Fg (wpAny_letTemporaryGo (Fs h₃))) fun _ _ x=>x)
 first
  | exact Fs (Fg fin)
  | exact Fg (Fs (Fg fin))
  | exact Fg fin
theorem VS {y:V}{o:Option V}(I:Inv X aq σ H s) (g:DGet H a y o):s.TypeIs (.ref a) "dict":=by
 rcases g with ⟨kvs,k,e,_,_⟩ | ⟨kvs,k,b,e,_,_,_⟩
 ·obtain ⟨_,_,vs,_,dd⟩:=VR I.hok e;exact dd.typeIs
 ·obtain ⟨_,_,xs,_,dd⟩:=Gc I.hok e;exact dd.typeIs
def BK (td ty:TE):TE:=fun σ H Q=>td σ H fun x H1=>ty σ H1 fun y H2=>∃ a v,x=.ref a/\DGet H2 a y (some v)/\Q v H2
def UK (ty td:TE):TE:=fun σ H Q=>ty σ H fun y H1=>td σ H1 fun x H2=>∃ a o,x=.ref a/\DGet H2 a y o/\Q (.bl (!o.isSome)) H2
def NM (td ty tv:TE):TS:=fun D σ H=>tv σ H fun v H1=>td σ H1 fun x H2=>ty σ H2 fun y H3=>∃ a H4,x=.ref a/\DPut H3 a y v H4/\D.nx σ H4
section
variable {X:Cx} {o i e value:Expr} {pos pos' tpos:Pos} {td ty tv:TE}
theorem Xp (hu:X.A.units+1<cLine) (ho:PE X o td) (hi:PE X i ty) (hs:Hi i):PE X (.Subscript o i pos) (BK td ty):=by
 intro aq s σ H Q I h;refine Lr PySem.F.slot_dict_getitem.lookup hs (thn (ho aq s σ H _ I h) fun u s1 ⟨x,H1,I1,rx,q1⟩=>thn (hi aq s1 σ H1 _ I1 q1) fun iv s2 ⟨y,H2,I2,ry,a,v,ex,g,q2⟩=>?_);subst ex;obtain rfl:u=Value.ref a:=rx;exact ⟨VS I2 g,G9 hu I2 g ry fun w' s3 I3 rw'=>⟨v,H2,I3,rw',q2⟩⟩
theorem Kj (hu:X.A.units+1<cLine) (hi:PE X i ty) (ho:PE X o td):PC X .NotIn i o (UK ty td):=by
 intro aq s σ H Q I h;refine thn (hi aq s σ H _ I h) fun iv s1 ⟨y,H1,I1,ry,q1⟩=>thn (ho aq s1 σ H1 _ I1 q1) fun u s2 ⟨x,H2,I2,rx,a,ov,ex,g,q2⟩=>?_
 subst ex;obtain rfl:u=Value.ref a:=rx;exact Br hu I2 g ry fun s3 I3=>⟨.bl (!ov.isSome),H2,I3,rfl,q2⟩
theorem Yo (hu:X.A.units+1<cLine) (ho:PE X o td) (hi:PE X i ty) (hv:PE X value tv) (hs:swapsWith value (some (.Subscript o i pos')) pos.line X.env=pure false) :
  PS X (.Assign [.Subscript o i pos'] value pos) (NM td ty tv):=by
 intro aq s σ H D I h;refine wpAny_Assign_Subscript (thn (hv aq s σ H _ I h) fun r s1 ⟨v,H1,I1,rv,q1⟩=>thn (ho aq s1 σ H1 _ I1 q1) fun u s2 ⟨x,H2,I2,rx,q2⟩=>thn (hi aq s2 σ H2 _ I2 q2) fun iv s3 ⟨y,H3,I3,ry,a,H4,ex,g,q3⟩=>?_) hs;subst ex;obtain rfl:u=Value.ref a:=rx;exact G8 hu I3 g ry rv fun s4 I4=>⟨σ,H4,I4,q3⟩
end
theorem MW (h:Heap) (hb:sysModules<h.objs.size):ObjOk P w H (h.push { cls:=.type "dict",data:=.dict #[] }) h.objs.size (.dK []):=
 ⟨F1 _,beq_eq_false_iff_ne.mpr (Ea (FD hb)),[],.nil,Heap.DictOf.new h⟩
def NH:TE:=fun _ H Q=>∀ p,H p=none->Q (.ref p) (upd H p (.dK []))
section
variable {X:Cx} {pos:Pos}
theorem X4:PE X (.Dict [] [] pos) NH:=fun aq s σ H Q I h=>
 wpAny_Dict_empty ⟨.ref s.heap.objs.size,_,I.laid (a:=s.heap.objs.size) (o:=.dK []) (t':=s.toks) (fun _ _ q=>FA _ q) (Fl _) (MW s.heap I.big),rfl,h _ (I.hok.fresh (Fl _))⟩
end
end L2
namespace L2
open PySem PyProof.Rows
section
variable {κ:Type} [DecidableEq κ]
theorem Ny {kvs:List (κ×V)}{k:κ}(h:Q8 kvs k=none):¬ k∈kvs.map (·.1):=by
 intro m;obtain ⟨p,hp,e⟩:=Fw.mp m;have q:(kvs.any fun kv=>decide (kv.1=k))=true:=List.any_eq_true.mpr ⟨p,hp,FT e⟩;rw [Xd,h] at q;exact absurd q (by simp)
theorem UH {kvs:List (κ×V)}{k:κ}(h:Q8 kvs k=some v):k∈kvs.map (·.1):=by
 have q:(kvs.any fun kv=>decide (kv.1=k))=true:=by
  rw [Xd,h];all_goals rfl
 obtain ⟨p,hp,e⟩:=List.any_eq_true.mp q;exact Fw.mpr ⟨p,hp,EO e⟩
end
section
variable {X:Cx} {e o value:Expr} {ta tv:TE} {f:Str} {pos pos':Pos}
theorem Zv (K:W.Frag) (h:X.K=K) (he:PE X e ta) (hb:attributeBase e f X.env (eval e X.env)=eval e X.env:=by rfl):PE X (.Attribute e f pos) (Lp K ta f):=by subst h;exact RS he hb
theorem QF (K:W.Frag) (h:X.K=K) (ha:PE X o ta) (hv:PE X value tv) (hs:swapsWith value (some (.Attribute o f pos')) pos.line X.env=pure false:=by rfl):PS X (.Assign [.Attribute o f pos'] value pos) (Lx K ta tv f):=by subst h;exact RM ha hv hs
end
def Sz (K:W.Frag):V->List V->Hp->VK->Prop:=fun x vs H Q=>∃ (z:Str) (p:Addr) (ys:List Str),x=.str z/\vs=[.ref p]/\SqL K H p (ys.map V.str)/\(ys.map (·.length)).sum+ys.length*z.length<=16777216/\Q (.str (Txt.join z ys)) H
theorem V5 {ys:List Str}:∀ {us:List Value},Vals (ys.map V.str) us->StrsAre us ys:=by
 induction ys with
 | nil=>intro us r;rw [List.map_nil] at r;cases r;exact .nil
 | cons y ys ih=>
  intro us r;rw [F3] at r;cases r with
  | cons hv r=>
   obtain ⟨t,rfl⟩:=hv;exact .cons _ _ (ih r)
theorem LY (K:W.Frag) {X:Cx}(h:X.K=K):MtR X "str.join" (Sz K):=by
 subst h;intro aq s σ H x xs v us Q I rx rs q;obtain ⟨z,p,ys,rfl,rfl,hq,hz,q⟩:=q;obtain ⟨t,rfl⟩:=rx;obtain ⟨u,rfl,r1⟩:=Z0 rs;obtain rfl:=r1.ref_of;obtain ⟨its,rv,pl,_⟩:=I.list hq;exact join_list pl.isList (by simpa using V5 rv) hz fun t' k=>⟨.str _,H,I.tok _,⟨_,rfl⟩,q⟩
structure UD (P:Program) (w:World) (K:W.Frag) (mg:Str->Option Value) (base:Heap) (k:Nat) (C:Addr) (m:Str) (ps:List Str) (sp:Sp):Prop where
 ex:∃ (f:Addr) (fd:FuncData),FnOk P w K mg base CX0 k f fd ps sp/\Binds K fd ps []/\M9 K C m f
structure JQ (P:Program) (w:World) (K:W.Frag) (mg:Str->Option Value) (base:Heap) (k:Nat) (C:Addr) (ps:List Str) (sp:Sp):Prop where
 ex:∃ (f:Addr) (fd:FuncData),FnOk P w K mg base CX0 k f fd ps sp/\Binds K fd ps []/\Mk K C f
structure IsC (K:W.Frag) (C:Addr):Prop where
 ha:W.findIn K (.ref C) "__class__"=some (some (.builtin "object.__class__"))
 hn:W.specialIn K (.builtin "object.__class__") "__get__"=some (some (.builtin "getset_descriptor.__get__"))
 htk:W.takesIn K (.builtin "object.__class__")=some true
 hm:W.mroIn K C (.type "object")=some true
section
variable {X:Cx} {k:Nat} {C:Addr} {m x:Str} {ps:List Str} {sp:Sp} {p pos apos:Pos} {o e:Expr} {es:List Expr} {t:TA} {ta:TE}
theorem N6 (G:UD X.prog X.w X.K X.mg X.base k C m ps sp) (hr:Room k X.A) (c:Cls X.K C) (he:PE X o ta) (ha:PA X (e :: es) t)
  (hst:starEach (e :: es) X.env=(false,eval e X.env) :: starEach es X.env:=by rfl) (hpl:(backTo pos (starEach es X.env)).any (·.1)=false:=by rfl)
  (ht:eval (.Call (.Attribute o m apos) (e :: es) [] pos) X.env=(do
   let ov <-eval o X.env
   standAt apos.atName
   let (f,first) <-holding [ov] (getMethod ov m pl)
   callWith pos f first (backTo pos (starEach (e :: es) X.env)) (backToKw pos (keywordEach [] X.env))):=by rfl) :
  PE X (.Call (.Attribute o m apos) (e :: es) [] pos) (Vu C m sp [] E0 ta t):=by
 obtain ⟨f,fd,F,b,M⟩:=G.ex;exact LN he c M F hr b .nil UU ha hst hpl ht
theorem UR (G:UD X.prog X.w X.K X.mg X.base k C m ps sp) (hr:Room k X.A) (c:Cls X.K C) (he:PE X o ta)
  (ht:eval (.Call (.Attribute o m apos) [] [] pos) X.env=(do
   let ov <-eval o X.env
   standAt apos.atName
   let (f,first) <-holding [ov] (getMethod ov m pl)
   callWith pos f first (backTo pos (starEach [] X.env)) (backToKw pos (keywordEach [] X.env))):=by rfl) :
  PE X (.Call (.Attribute o m apos) [] [] pos) (Vu C m sp [] E0 ta Lo):=by
 obtain ⟨f,fd,F,b,M⟩:=G.ex;exact N7 he c M F hr b .nil UU ht
theorem XS (G:JQ X.prog X.w X.K X.mg X.base k C ps sp) (hr:Room (k+1) X.A) (hg:Gl X x) (hm:X.mg x=some (.ref C)) (ha:PA X (e :: es) t) (hdb:(x == ("__debug__":Str))=false:=by decide)
  (he:starEach (e :: es) X.env=(false,eval e X.env) :: starEach es X.env:=by rfl) (hpl:(backTo pos (starEach es X.env)).any (·.1)=false:=by rfl):PE X (.Call (.Name x p) (e :: es) [] pos) (WV C sp [] E0 t):=by
 obtain ⟨f,fd,F,b,M⟩:=G.ex;exact LO M F hr hg hm b .nil UU ha hdb he hpl
end
theorem Jk {f:Str}{fs:List (Str×V)}(hp:H p=some (.ins C dx fs)) (c:Cls K C) (n:NoAttr K C f) (l:fs.lookup f=some v) (q:Q v H) (e:σ[i]?=some (some (.ref p)):=by rfl):Lp K (Vs i) f σ H Q:=by
 show asVar σ[i]? _;rw [e];exact ⟨p,C,dx,fs,v,rfl,hp,c,n,l,q⟩
theorem XZ {f:Str}{fs:List (Str×V)}{D:QU}(hp:H p=some (.ins C dx fs)) (c:Cls K C) (n:NoAttr K C f) (l:fs.length<1000) (q:D.nx σ (upd H p (.ins C dx (QX f v fs)))) (e:σ[i]?=some (some (.ref p)):=by rfl) (e':σ[j]?=some (some v):=by rfl):Lx K (Vs i) (Vs j) f D σ H:=by
 show asVar σ[j]? _;rw [e'];show asVar σ[i]? _;rw [e];exact ⟨p,C,dx,fs,rfl,hp,c,n,l,q⟩
theorem Lh {m:Str}{sp:Sp}{ta:TA}{fs:List (Str×V)}(hp:H p=some (.ins C dx fs)) (l:fs.lookup m=none) (q:ta σ H fun vs H2=>sp (.ref p :: (vs++[])) H2 Q E0) (e:σ[i]?=some (some (.ref p)):=by rfl):Vu C m sp [] E0 (Vs i) ta σ H Q:=by
 show asVar σ[i]? _;rw [e];exact ⟨p,dx,fs,rfl,hp,l,q⟩
theorem Mr {k:Key}(h:JA k u=true):RelV (kV k) u:=by
 rcases QV h with ⟨i,t,rfl,rfl⟩ | ⟨x,t,rfl,rfl⟩
 ·exact ⟨t,rfl⟩
 ·exact ⟨t,rfl⟩
def ItD (d:Addr) (o:Obj) (kvs:List (Key×V)):It:=
 ⟨fun i H=>H d=some (.frz o (.dK kvs))/\i<kvs.length,fun i H x H'=>H'=H/\∃ kv,kvs[i]?=some kv/\x=kV kv.1,fun i H=>H d=some (.frz o (.dK kvs))/\kvs.length<=i⟩
def DOb (P:Program) (w:World) (o:Obj) (vs:List (Key×Value)) (ep:Nat):Prop:=∃ es,o.ExactDict/\o.data=.dict es ep/\KeysOf (QP P w) es/\Pairs (QP P w) es.toList vs/\(vs.map (·.1)).Nodup
theorem Ke {o:Obj}{vs:List (Key×Value)}{ep:Nat}(hob:DOb P w o vs ep) (rel:KV kvs vs) :
  Nm P w K tg (ItD d o kvs) [it] it (fun i h=>h.IsKeyIter it d i vs.length ep) where
 mem:=by simp
 obj:=fun i h st b hb=>by
  have e:b=it:=by simpa using hb
  subst e;obtain ⟨q,e,c,dd⟩:=st;exact ⟨q,e,fun v z=>by rw [dd] at z;cases z⟩
 keep:=fun i h h' ⟨q,e,r⟩ k=>⟨q,k it (by simp) q e,r⟩
 item:=by
  intro X hP hw hK hc i aq s σ H E I hf st hg;subst hP hw hK;obtain ⟨hd,hi⟩:=hg;obtain ⟨es,o1,o2,o3,o4,o5⟩:=hob;obtain ⟨f0,f1,f2,f3,f4,f5⟩:=hf it (by simp);have gd:s.heap.get? d=some o:=(show ObjOk X.prog X.w H s.heap d (.frz o (.dK kvs)) from I.hok d _ hd).1;have hm:s.heap.DictAt (QP X.prog X.w) d vs ep:=⟨o,es,gd,o1,o2,o3,o4,o5⟩
  have hl:=rel.length;obtain ⟨⟨k,u⟩,hx⟩:∃ kv,vs[i]?=some kv:=⟨_,Fj (by omega)⟩
  have hkv:(kvs.map (·.1))[i]?=some k:=by rw [rel.keys,Fv,hx];rfl
  rw [Fv] at hkv;obtain ⟨kv,hkv2,rfl⟩:=FW.mp hkv;refine wpAny_pyNext_dict_item st hm hx fun key h' hk st' sb=>?_
  have I1:Inv X aq σ H { s with heap:=h' }:=I.turned (t':=s.toks) (fun b o hb e=>(sb.2 b hb).trans e) f0 f1 f3 f4 f5;obtain ⟨q,e,c,dd⟩:=id st';exact ⟨key,rfl,U0 (s:={ s with heap:=h' }) e c dd (by decide) ⟨kV kv.1,H,I1,Mr hk,⟨rfl,kv,hkv2,rfl⟩,st',fun b hb=>(hf b hb).1⟩⟩
 done:=by
  intro X hP hw hK hc i aq s σ H E I hf st hg;subst hP hw hK;obtain ⟨hd,hi⟩:=hg;obtain ⟨es,o1,o2,o3,o4,o5⟩:=hob;obtain ⟨f0,f1,f2,f3,f4,f5⟩:=hf it (by simp);have gd:s.heap.get? d=some o:=(show ObjOk X.prog X.w H s.heap d (.frz o (.dK kvs)) from I.hok d _ hd).1;have hm:s.heap.DictAt (QP X.prog X.w) d vs ep:=⟨o,es,gd,o1,o2,o3,o4,o5⟩
  have hl:=rel.length;exact wpAny_pyNext_dict_end (I.ok.hd hc) st hm (Ec (by omega)) fun h' eb=>⟨rfl,I.turned (t':=s.toks) (fun b o hb e=>eb b o hb e) f0 f1 f3 f4 f5⟩
 self:=fun _ _ _ _ _ st h=>wpAny_pyIter_keyiter st h
def BU (tl:TE):TI:=fun σ H R=>tl σ H fun x H1=>∃ d kvs,x=.ref d/\H1 d=some (.dK kvs)/\∀ o,R (ItD d o kvs) (upd H1 d (.frz o (.dK kvs)))
section
variable {X:Cx} {tg l:Expr} {tl:TE}
theorem LM (hl:PE X l tl):PI X tg l (BU tl):=by
 intro aq s σ H R I h;refine thn (hl aq s σ H _ I h) fun v s1 ⟨x,H1,I1,r1,q1⟩=>?_
 obtain ⟨d,kvs,e,hd,q⟩:=q1;subst e;cases r1;obtain ⟨z,hs,vs,rel,dd⟩:=BZ I1.hok hd;obtain ⟨ep,hm⟩:=dd.dictAt;obtain ⟨o,es,gd,o1,o2,o3,o4,o5⟩:=id hm;have I2:Inv X aq σ (upd H1 d (.frz o (.dK kvs))) s1:=by
  refine I1.write (x:=d) (e:=d) (h':=s1.heap) (t':=s1.toks) (by rw [hd];exact True.intro) (.inl rfl) (fun b u _ e=>e) ⟨o,gd⟩ ?_;exact ⟨gd,z,hs,vs,rel,dd⟩
 refine wpAny_pyIter_dict hs hm ?_;have hn:(upd H1 d (.frz o (.dK kvs))) s1.heap.objs.size=none:=I2.hok.fresh (Fl _);refine ⟨s1.heap.objs.size,[s1.heap.objs.size],_,_,_,rfl,I2.kept (t':=s1.toks) fun b o e=>FA _ e,Ke ⟨es,o1,o2,o3,o4,o5⟩ rel,⟨_,FY _ rfl,rfl,rfl⟩,fun b hb=>?_,q o⟩;have e:b=s1.heap.objs.size:=by simpa using hb
 subst e;exact I2.fpOk (Fl _) hn
end
theorem HQ {o:Obj}{D:QU}(Pv:Nat->St->Hp->Prop) (h0:Pv 0 σ H) (hl:∀ i σ H,i<=kvs.length->Pv i σ H->H d=some (.frz o (.dK kvs)))
  (hs:∀ i kv σ H,kvs[i]?=some kv->Pv i σ H->g (kV kv.1) σ H fun σ2 H2=>tb { D with nx:=Pv (i+1),ct:=Pv (i+1),bk:=D.nx } σ2 H2) (hd:∀ σ H,Pv kvs.length σ H->D.nx σ H):Kw (ItD d o kvs) g tb D σ H:=by
 refine ⟨fun i m σ H=>m=kvs.length-i/\i<=kvs.length/\Pv i σ H,⟨kvs.length,by simp,F1 _,h0⟩,?_⟩;rintro i m σ H ⟨rfl,hi,p⟩;have q:=hl i σ H hi p;rcases EZ i kvs.length with hlt | hge
 ·refine .inr ⟨⟨q,hlt⟩,Pv (i+1),fun σ' H' p'=>⟨kvs.length-(i+1),by omega,rfl,hlt,p'⟩,?_⟩;rintro x H' ⟨rfl,kv,hk,rfl⟩;exact hs i kv σ _ hk p
 ·have e:i=kvs.length:=by omega
  subst e;exact .inl ⟨⟨q,hge⟩,hd σ H p⟩
def LC:V->List V->Hp->VK->Prop:=fun x vs H Q=>∃ (l:Addr) (xs:List V) (k:Int) (y:V),x=.ref l/\vs=[.int k,y]/\H l=some (.lst xs)/\0<=k/\k<=xs.length/\xs.length<=1000/\Q .non (upd H l (.lst (xs.take k.toNat++y :: xs.drop k.toNat)))
theorem Ux {k:Int}(h0:0<=k) (h:k<=1000):¬ (!Builtin.List.listFitsIndex k)=true:=by
 rw [fitsIndex_of h0 (Int.lt_of_le_of_lt h (by decide))];decide
theorem GW:MtM X "list.insert" LC:=by
 intro aq s σ H x vs v us Q I rx rv h;obtain ⟨l,xs,k,y,rfl,rfl,hH,h0,hi,hz,q⟩:=h;cases rx;obtain ⟨u1,u2,rfl,⟨t,rfl⟩,ru⟩:=Jl rv;obtain ⟨z,its,n,r,hl,e⟩:=I.lstM hH;have hs:its.toArray.size<=sizeLine:=by rw [FJ];omega
 have hk:k.toNat<=its.length:=by omega
 refine call_meets F.slot_list_insert ⟨_,e,rfl⟩ F.entry_list_insert (F.args_list_insert_3 _ _ _) (AutoListH.list_insert_list_int_val_1 l its.toArray n k t u2 (Ux h0 (by omega)) hs) ⟨e,?_⟩;refine ⟨.non,_,I.lset (its':=its.take k.toNat++u2 :: its.drop k.toNat) hH e ?_ ((r.take k.toNat).append (.cons ru (r.drop k.toNat))) ?_,rfl,q⟩
 ·have hm:min k.toNat its.toArray.size=k.toNat:=by rw [FJ];omega
  simp only [Fh (show ¬ (k<0) by omega),hm];apply Array.ext';simp only [Array.toList_append,Array.toList_push,Array.toList_extract,FJ];simp;exact EF (by rw [F5];omega)
 ·rw [Fo,El,FN,F5];unfold sizeLine;omega
section
variable {P:Program} {w:World} {A:Around} {R:Result->Shared->Prop} {I:Addr} {fp wr:List Addr} {G:Array GenState->Array GenState->Prop} {n:Nat} {T:Nat->Value->Prop} {St:Nat->Shared->Prop}
def met (zs:List Str) (i:Nat) (k:Str):Bool:=decide (k∈zs.take i)
end
section
variable {ta td ty tv tl:TE} {t:TE} {σ:St} {H:Hp} {Q:VK} {D:QU} {R:It->Hp->Prop} {B:Bool->Hp->Prop}
theorem Px:NH σ H Q=∀ p,H p=none->Q (.ref p) (upd H p (.dK [])):=rfl
theorem d_ni':tB (UK ty td) σ H B=ty σ H fun y H1=>td σ H1 fun x H2=>∃ a o,x=.ref a/\DGet H2 a y o/\∃ b,V.bl (!o.isSome)=.bl b/\B b H2:=rfl
theorem Pz:BK td ty σ H Q=td σ H fun x H1=>ty σ H1 fun y H2=>∃ a v,x=.ref a/\DGet H2 a y (some v)/\Q v H2:=rfl
theorem Pw:NM td ty tv D σ H=tv σ H fun v H1=>td σ H1 fun x H2=>ty σ H2 fun y H3=>∃ a H4,x=.ref a/\DPut H3 a y v H4/\D.nx σ H4:=rfl
theorem Py:BU tl σ H R=tl σ H fun x H1=>∃ d kvs,x=.ref d/\H1 d=some (.dK kvs)/\∀ o,R (ItD d o kvs) (upd H1 d (.frz o (.dK kvs))):=rfl
theorem PB {f:Str}:Lp K ta f σ H Q=ta σ H fun x H1=>∃ a C dx fs v,x=.ref a/\H1 a=some (.ins C dx fs)/\Cls K C/\NoAttr K C f/\fs.lookup f=some v/\Q v H1:=rfl
theorem Pu {f:Str}:Lx K ta tv f D σ H=tv σ H fun y H1=>ta σ H1 fun x H2=>∃ a C dx fs,x=.ref a/\H2 a=some (.ins C dx fs)/\Cls K C/\NoAttr K C f/\fs.length<1000/\D.nx σ (upd H2 a (.ins C dx (QX f y fs))):=rfl
end
theorem DGet.r {k:Key}(e:Rd H a (.dK kvs)):DGet H a (kV k) (Q8 kvs k):=.inl ⟨kvs,k,e,rfl,rfl⟩
end L2
namespace L2
open PySem PySem.Spec PyProof.Rows
end L2
namespace L2
open PySem PySem.W PyProof.Rows
structure Fe (n:Nat) (lt:Nat->Nat->Bool):Prop where
 tot:∀ i j,i<n->j<n->i≠j->lt i j=!lt j i
 tr:∀ i j k,i<n->j<n->k<n->lt i j=true->lt j k=true->lt i k=true
section
variable {n:Nat} {lt:Nat->Nat->Bool} {p:Array Nat}
variable (L:Fe n lt)
include L
end
def ltS (a b:Str):Prop:=a.cps.toList<b.cps.toList
instance (a b:Str):Decidable (ltS a b):=inferInstanceAs (Decidable (a.cps.toList<b.cps.toList))
theorem Jm:∀ {us:List Value}{zs:List Str},us.length=zs.length->(∀ (j:Nat) v z,us[j]?=some v->zs[j]?=some z->∃ t,v=Value.str z t)->StrsAre us zs
 | [],[],_,_=>.nil
 | u :: us,z :: zs,hl,h=>by
  obtain ⟨t,rfl⟩:=h 0 u z rfl rfl;exact .cons _ _ (Jm (by simpa using hl) fun j v y h1 h2=>h (j+1) v y h1 h2)
 | [],_ :: _,hl,_=>nomatch hl
 | _ :: _,[],hl,_=>nomatch hl
section
variable {prog:Program} {w:World} {A:Around} {E:Value->Shared->Prop} {s:Shared}
theorem Vy {kvs:List (Key×Value)}{zs:List Str}{Q:Value->Shared->Prop}(hh:A.handled=none) (lo:(d == sysModules)=false) (hd:s.heap.DictOf (QP prog w) d kvs) (hk:kvs.map (·.1)=zs.map Sum.inr) (h64:zs.length<64)
  (h:∀ (out:Array Value) (ss:List Str) (h1 h':Heap) (tk e:Nat),StrsAre out.toList ss->ss.Perm zs->sortedS ss=true->(∀ b o,s.heap.get? b=some o->h1.get? b=some o)->(∀ b o,h1.get? b=some o->h'.get? b=some o)->h'.get? h1.objs.size=some (seqObj "list" out e)->Q (.ref h1.objs.size) { s with heap:=h',toks:=tk }) :
  wpAny (model prog w) A (call (.builtin "sorted") [.ref d]) Q E s:=by
 obtain ⟨ep,hat⟩:=hd.dictAt;have kl:kvs.length=zs.length:=by
  have:=congrArg List.length hk;rwa [Fi,Fi] at this
 refine Calls.call_function_entry kind_sorted plain_sorted entry_sorted (args_sorted1 _) ?_;show wpAny _ _ (Builtin.«sorted» _) _ _ _;unfold Builtin.«sorted»;refine Fg (m:=checkCount "sorted" 1 1 _) (Fs (Fg (kdu_collect (A:=A.in1) (kdl_dict (knd:=QP prog w) (kvs:=kvs) (ep:=ep) lo) hh hat (by rw [Ew];omega) fun h' tk acc hk' hacc=>?_)));have al:acc.toList.length=zs.length:=by rw [Array.length_toList,hacc.1,kl]
 have hS:StrsAre acc.toList zs:=Jm (by omega) fun j v z hj hz=>by
  obtain ⟨k,x,hx,hi⟩:=hacc.2 j v (by rw [<-Array.getElem?_toList];exact hj);have e1:(kvs.map (·.1))[j]?=some k:=by rw [Fv,hx];rfl
  rw [hk,Fv,hz] at e1;cases e1;exact Mr (k:=Sum.inr z) hi
 refine Fg (wpAny_newList ?_ (by rw [Ew];omega));have new:(h'.push (seqObj "list" acc.toList.toArray 0)).get? h'.objs.size=some (seqObj "list" acc.toList.toArray 0):=FY _ rfl;show wpAny _ _ _ _ _ { s with heap:=h'.push (seqObj "list" acc.toList.toArray 0),toks:=tk };dsimp only;refine Fg (wpAny_holding (wpAny_call_entry slot_list_sort ⟨_,new,rfl⟩ entry_list_sort (list_sort_treeK strKind_oneLt new hS.keysOf (fun v₁ v₂ rest e=>keyKind_strs (by rw [<-e];exact hS)) (by omega) fun st' hp hs=>⟨_,rfl,?_⟩) (args_list_sort _)));obtain ⟨ss,h1,h2,h3⟩:=sorted_out_str hS hp hs;obtain ⟨e,he⟩:=sortedHeap_at (out:=(arrOf st').map (·.2)) new;refine Fs ⟨_,rfl,h _ ss h' _ tk e h1 h2 h3 hk' (fun b o q'=>?_) he⟩;have hlt:=Ft q';rw [sortedHeap_old (FD hlt) (by rw [size_push'];exact Nat.lt_succ_of_lt hlt)];exact FA _ q'
end
theorem Kc:∀ {us:List Value}{ss:List Str},StrsAre us ss->Vals (ss.map V.str) us
 | _,_,.nil=>.nil
 | _,_,.cons _ t r=>.cons ⟨t,rfl⟩ (Kc r)
def RI:List V->Hp->VK->Prop:=fun xs H Q=>∃ (d:Addr) (kvs:List (Key×V)) (zs:List Str),xs=[.ref d]/\Rd H d (.dK kvs)/\kvs.map (·.1)=zs.map Sum.inr/\zs.length<64/\∀ l ss,H l=none->ss.Perm zs->sortedS ss=true->Q (.ref l) (upd H l (.lst (ss.map V.str)))
theorem Vj (hc:X.calm=true):Zx X (.builtin "sorted") RI:=by
 intro aq s σ H xs us Q I r h;obtain ⟨d,kvs,zs,rfl,hd,hk,h64,q⟩:=h;obtain ⟨u,rfl,r1⟩:=Z0 r;obtain rfl:=r1.ref_of;obtain ⟨z,lo,vs,rel,dd⟩:=VR I.hok hd;refine Vy (I.ok.hd hc) lo dd (by rw [<-rel.keys];exact hk) h64 fun out ss h1 h' tk e s1 s2 s3 k1 k2 he=>?_
 have I1:Inv X aq σ H { s with heap:=h1 }:=I.kept (t':=s.toks) k1;have hz:zs.length<=sizeLine:=by rw [Ew];omega
 exact ⟨.ref _,_,I1.laid (t':=tk) k2 (Fl _) (show ObjOk X.prog X.w _ _ _ (.lst (ss.map V.str)) from ⟨by rw [Fi,s2.length_eq];exact hz,out.toList,e,Kc s1,by rw [he]⟩),rfl,q _ _ (I1.hok.fresh (Fl _)) s2 s3⟩
end L2
namespace Gr
variable {α:Type} [DecidableEq α]
def Adj (ps:List (α×α)) (x y:α):Prop:=(x,y)∈ps∨(y,x)∈ps
inductive Rch (ps:List (α×α)):α->α->Prop
 | refl (x:α):Rch ps x x
 | step {x y z:α} (h:Rch ps x y) (a:Adj ps y z):Rch ps x z
end Gr
namespace Gr
open PySem
def NmAt (n:Nat) (two:Bool) (u:Int) (z:Str):Prop:=z.cps[n]?=some (97+(u % 26).toNat)/\(two=true->z.cps[n+1]?=some (97+(u / 26).toNat))
end Gr
namespace L2
open PySem PyProof.Rows Gr
def Nb (H:Hp) (d:Addr) (ak:List Str) (nb:Str->List Str):Prop:=∃ kvs:List (Key×V),H d=some (.dK kvs)/\∀ z∈ak,∃ a,Q8 kvs (Sum.inr z)=some (.ref a)/\H a=some (.lst ((nb z).map V.str))
theorem Nb.same {nb:Str->List Str}(h:Nb H d ak nb) (g:Same H H'):Nb H' d ak nb:=by
 obtain ⟨kvs,h1,h2⟩:=h;refine ⟨kvs,g _ _ h1,fun z hz=>?_⟩;obtain ⟨a,h3,h4⟩:=h2 z hz;exact ⟨a,h3,g _ _ h4⟩
theorem Yg (hk:kvs.map (·.1)=ak.map Sum.inr) {z:Str}(hz:z ∉ ak):Q8 kvs (Sum.inr z:Key)=none:=by
 cases q:Q8 kvs (Sum.inr z:Key) with
 | none=>rfl
 | some v=>
  have:=UH q;rw [hk] at this;obtain ⟨y,hy,e⟩:=Fw.mp this;cases e;exact absurd hy hz
theorem Nx (hk:kvs.map (·.1)=ak.map Sum.inr) {z:Str}(hz:z∈ak):(Q8 kvs (Sum.inr z:Key)).isSome=true:=by
 cases q:Q8 kvs (Sum.inr z:Key) with
 | some v=>rfl
 | none=>
  exfalso;refine Ny q ?_;rw [hk];exact Fw.mpr ⟨z,hz,rfl⟩
def vO:Option Str->V
 | none=>.non
 | some p=>.str p
def stE (e:Str×Option Str):Key×V:=(Sum.inr e.1,vO e.2)
theorem W5 (st:List (Str×Option Str)):(st.map stE).map (·.1)=(st.map (·.1)).map Sum.inr:=by rw [Eg,Eg];rfl
theorem Gy {st:List (Str×Option Str)}(k:Str):(Q8 (st.map stE) (Sum.inr k:Key)).isSome=decide (k∈st.map (·.1)):=by
 by_cases c:k∈st.map (·.1)
 ·rw [FT c];exact Nx (W5 st) c
 ·rw [FQ c,Yg (W5 st) c];rfl
theorem NI {st:List (Str×Option Str)}{k:Str}{v:Option Str}(h:k ∉ st.map (·.1)):X0 (st.map stE) (Sum.inr k) (vO v)=(st++[(k,v)]).map stE:=by
 rw [Y2 _ (Yg (W5 st) h),Fx];rfl
end L2
namespace L2
open PySem PySem.Spec PyProof.Rows Gr
def rcB (ps:List (Str×Str)) (x y:Str):Bool:=@decide (Rch ps x y) (Classical.propDecidable _)
def comp (NS:List Str) (ps:List (Str×Str)) (x:Str):List Str:=NS.filter (rcB ps x)
end L2
namespace L2
open PySem PyProof.Rows
abbrev TJ:=Str->St->Hp->VK->Prop
end L2
namespace L2
open PySem PySem.Spec PyProof.Rows
structure RoomH (k:Nat) (A:Around) (e:Addr):Prop where
 hd:A.handled=some (.ref e)
 dp:A.depth+3*k+5<recursionLimit
 un:A.units+16*k+200<cLine
theorem RoomH.deeper {k:Nat}(r:RoomH (k+1) A e) (env:Env):RoomH k (A.deeper env) e:=
 ⟨r.hd,by have:=r.dp;show A.depth+1+3*k+5<_;omega,by have:=r.un;show A.units+3+16*k+200<_;omega⟩
theorem RoomH.depth {k:Nat}(r:RoomH k A e):A.depth<recursionLimit:=by have:=r.dp;omega
theorem RoomH.units {k:Nat}(r:RoomH k A e):A.units+64<cLine:=by have:=r.un;omega
theorem Room.hand {k:Nat}(r:Room k A) (e:Addr) (h:j<=k):RoomH j (A.mark (some (.ref e))) e:=⟨rfl,(r.mono h).dp,(r.mono h).un⟩
def cxH (P:Program) (w:World) (K:W.Frag) (mg:Str->Option Value) (base:Heap) (N:List Str) (qual:Str) (scope:Scope) (f:Addr) (cd:Value) (A:Around) (outer:List Env) (s:Shared) (H:Hp):Cx where
 prog:=P
 w:=w
 K:=K
 mg:=mg
 base:=base
 A:=A.deeper (envOfC qual scope s.heap.objs.size f cd)
 N:=N
 s₀:=s
 H₀:=H
 env:=envOfC qual scope s.heap.objs.size f cd
 outer:=outer
 stack:=envOfC qual scope s.heap.objs.size f cd :: outer
 ex:=[]
 calm:=false
 fn:=fun _=>true
 pn:=[]
 xe:=fun _ _=>False
theorem Uv {cd:Value}{s1:Shared} 
  (S:Qo N ps scope) (e0:Env0 P w K mg base A outer s H) (hl:vs.length=ps.length) (r:Vals vs us)
  (x:InCallC s s.heap.objs.size (bindL (envOfC qual scope s.heap.objs.size f cd).kindOf (ps.zip us) fun _=>none) (cellsFrom (s.heap.objs.size+1) scope.names []) (bindC (envOfC qual scope s.heap.objs.size f cd).kindOf (ps.zip us) fun _=>none) s1) :
  Inv (cxH P w K mg base N qual scope f cd A outer s H) [] (start N vs) H s1:=by
 have hpl:ps.length<=N.length:=by have:=congrArg List.length S.pre;rw [FN] at this;omega
 obtain ⟨h1,tk,rfl,hk⟩:=x.done;have noA:∀ b:Addr,b ∉ (cxH P w K mg base N qual scope f cd A outer s H).ex:=fun b z=>absurd (show b∈([]:List Addr) from z) (by simp)
 refine ⟨⟨e0.mod,S.kind,rfl,rfl,Fl _,fun y z c h1 h2=>?_,fun y hy=>?_,fun y c _ h=>?_,fun z=>Bool.noConfusion (show false=true from z),Around.frames_deeper e0.frames,.inr ⟨rfl,rfl⟩,fun b z=>absurd z (noA b),e0.bs,e0.bsz,fun b _ _=>noA b,fun b z=>absurd z (noA b),e0.funs,e0.frf⟩,
  rfl,e0.bare,Un.kept hk,⟨_,x.toInCall.ns,fun i y v h1 h2 h3=>?_⟩,fun y c h=>⟨_,x.cell y c h⟩,e0.hok.fresh (Fl _),fun y c h=>?_,fun p hp=>absurd (show p∈([]:List (Addr×Obj)) from hp) (by simp),e0.hok.kept hk,?_⟩
 ·exact name_of_addr x.apart (Ey h1) (Ey h2)
 ·have hy:scope.names.lookup y=some .cell∨scope.names.lookup y=some .free:=hy;rcases hy with hy | hy
  ·exact Wk hy
  ·exact absurd rfl (S.nofree _ (Ey hy))
 ·exact E5 (x.above y c (Ey h))
 ·have hi:i<vs.length:=by
   unfold start at h2;by_cases hi:i<vs.length
   ·exact hi
   ·rw [Ee (by simpa using hi)] at h2;rw [List.getElem?_replicate] at h2;split at h2 <;> cases h2
  have ha:vs[i]?=some v:=by
   unfold start at h2;rw [Eh (by simpa using hi),Fv] at h2;cases e:vs[i]? with
   | none=>rw [e] at h2;cases h2
   | some a=>rw [e] at h2;cases h2;rfl
  obtain ⟨u,hu,rv⟩:=r.get ha;have hp:ps[i]?=some y:=by
   rw [<-S.pre,List.getElem?_take_of_lt (by omega)];exact h1
  have ndP:ps.Nodup:=by rw [<-S.pre];exact S.nd.sublist (List.take_sublist _ _)
  refine ⟨u,rv,?_⟩;rcases S.par y (Fu hp) with k | k
  ·exact .inl ⟨k,WQ ndP hp hu k⟩
  ·obtain ⟨c,e⟩:=Wk (n:=s.heap.objs.size+1) k;refine .inr ⟨.inl k,c,e,?_⟩;have q:=x.cell y c e;rw [WR ndP hp hu (by show scope.names.lookup y≠_;rw [k];decide)] at q;exact q
 ·exact e0.hok.fresh (E5 (x.above y c (Ey h)))
 ·unfold start;show _=N.length;rw [Fo,Fi,List.length_replicate];omega
structure FnOkH (P:Program) (w:World) (K:W.Frag) (mg:Str->Option Value) (base:Heap) (k:Nat) (f:Addr) (fd:FuncData) (ps:List Str) (sp:Addr->Sp):Prop where
 len:∀ e vs H Q E,sp e vs H Q E->vs.length=ps.length
 run:∀ (A:Around) (e:Addr) (outer:List Env) (s:Shared) (H:Hp) (args:Args) (us:List Value) (vs:List V) (Q:VK) (E:XK),RoomH k A e->Env0 P w K mg base A outer s H->BindsTo s fd args (ps.zip us)->Vals vs us->sp e vs H Q E ->
  codeAny (model P w) A (.call (.ref f) args) (CR CX0 outer P w H s Q E) s
theorem FnOkH.imp {k:Nat}{sp sp':Addr->Sp}(F:FnOkH P w K mg base k f fd ps sp)
  (h:∀ e vs H Q E,sp' e vs H Q E->sp e vs H Q E):FnOkH P w K mg base k f fd ps sp':=
 ⟨fun e vs H Q E q=>F.len e vs H Q E (h _ _ _ _ _ q),fun A e outer s H args us vs Q E hr he hb hv hs=>F.run A e outer s H args us vs Q E hr he hb hv (h _ _ _ _ _ hs)⟩
section
variable {P:Program} {w:World} {K:W.Frag} {mg:Str->Option Value} {base:Heap}
theorem Fun.okH {k:Nat}{sp:Addr->Sp}(F:Fun K x qual st f fd) (S:Qo N ps (Qh st)) (len:∀ e vs H Q E,sp e vs H Q E->vs.length=ps.length)
  (hbody:∀ (cdv:Value) (A:Around) (e:Addr) (outer:List Env) (s:Shared) (H:Hp) (vs:List V) (Q:VK) (E:XK),RoomH k (A.deeper (envOfC qual (Qh st) s.heap.objs.size f cdv)) e->sp e vs H Q E ->
   ∃ t,PSs (cxH P w K mg base N qual (Qh st) f cdv A outer s H) (QO st) t/\t { nx:=fun _ H'=>Q .non H',rt:=Q } (start N vs) H):FnOkH P w K mg base (k+1) f fd ps sp:=by
 obtain ⟨oc,od,kV,doc,pm,an,cdv,ct,osl,rfl,lk,hcd⟩:=F.ex;refine ⟨len,fun A e outer s H args us vs Q E hr e0 hb r hsp=>?_⟩;have hl:=len _ _ _ _ _ hsp;have KX:K.In s.heap:=e0.mod.kin.keeps fun b o e=>(e0.bs b o e).1
 have lim:s.heap.NoLimit:=e0.mod.nolimit.keeps fun b o e=>(e0.bs b o e).1
 have hkind:∀ y∈ps.zip us,(Qh st).names.lookup y.1=some .local∨((Qh st).names.lookup y.1=some .cell/\((cellsFrom (s.heap.objs.size+1) (Qh st).names []).lookup y.1).isSome=true):=fun ⟨n,v⟩ hy=>by
  rcases S.par n (List.of_mem_zip hy).1 with q | q
  ·exact .inl q
  ·exact .inr ⟨q,W.cellsFrom_some _ _ _ (.inl q)⟩
 refine codeAny_call_function hr.depth (KX _ _ lk) rfl S.co S.gen rfl (W.codeRec_of KX hcd) (hb _ _ _ _ ?_);refine wpAny_newFunctionEnv_cells S.kind hkind fun env he s1 x=>?_
 subst he;refine ⟨lim.keeps x.toInCall.keep,codeAny_func ?_⟩;obtain ⟨t,ht,hq⟩:=hbody cdv A e outer s H vs Q E (hr.deeper _) hsp;have I:Inv (cxH P w K mg base N qual (Qh st) f cdv A outer s H) [] (start N vs) H s1:=Uv S e0 hl r x;refine FV (ht [] s1 (start N vs) H _ I hq) (fun fl s' hs=>?_) fun e s' hs=>False.elim hs
 have fin:∀ {σ':St} {H':Hp} {v:V} {u:Value},Inv (cxH P w K mg base N qual (Qh st) f cdv A outer s H) [] σ' H' s'->RelV v u->Q v H'->CE outer P w H s Q u s':=
  fun {σ' H' v u} J rv q=>⟨v,H',J.os,J.bare,J.base,J.hok,rv,q⟩
 cases fl with
 | ret u=>
  obtain ⟨v,σ',H',J,rv,q⟩:=hs;exact fin J rv q
 | next=>
  obtain ⟨σ',H',J,q⟩:=hs;exact fin (v:=V.non) (u:=Value.none) J rfl q
 | brk=>
  obtain ⟨_,_,_,q⟩:=hs;exact False.elim q
 | cont=>
  obtain ⟨_,_,_,q⟩:=hs;exact False.elim q
end
structure PR (P:Program) (w:World) (K:W.Frag) (mg:Str->Option Value) (base:Heap) (k:Nat) (name:Str) (ps:List Str) (sp:Addr->Sp):Prop where
 ex:∃ (f:Addr) (fd:FuncData),FnOkH P w K mg base k f fd ps sp/\Binds K fd ps []/\W.keepIn K (.ref f)=true/\mg name=some (.ref f)
section
variable {X:Cx} {k:Nat} {name:Str} {ps:List Str} {sp:Addr->Sp} {ea:Addr} {p pos:Pos} {e:Expr} {es:List Expr} {t:TA}
theorem KO (C:PR X.prog X.w X.K X.mg X.base k name ps sp) (hr:RoomH k X.A ea) (hg:Gl X name) (ha:PA X (e :: es) t) (hdb:(name == ("__debug__":Str))=false:=by decide)
  (he:starEach (e :: es) X.env=(false,eval e X.env) :: starEach es X.env:=by rfl) (hpl:(backTo pos (starEach es X.env)).any (·.1)=false:=by rfl) :
  PE X (.Call (.Name name p) (e :: es) [] pos) (Vw (sp ea) [] E0 t):=by
 obtain ⟨f,fd,F,hb,hk,hm⟩:=C.ex;intro aq s σ H Q I h;refine EY (XT I hg hm ?_ hdb);refine W.callWith_K (h₀:=X.base) I.ok.mod.kin hk (thn (ha pos aq s σ H _ I h) fun us s1 ⟨vs,H1,I1,r,q⟩=>⟨I1.kIn,?_⟩) he hpl;have r2:Vals (vs++[]) (us++[]):=r.append .nil;have hl:(us++[]).length=ps.length:=by rw [<-r2.length];exact F.len _ _ _ _ _ q
 refine wpAny_call (EK (F.run X.A ea X.stack s1 H1 ⟨us,[]⟩ (us++[]) (vs++[]) Q E0 hr I1.env0 (hb s1 us I1.kIn hl) r2 q) fun r s' hq=>?_);cases r with
 | error e=>exact False.elim hq
 | ok fl=>
  cases fl with
  | ret u=>exact I1.after hq
  | next=>exact False.elim hq
  | brk=>exact False.elim hq
  | cont=>exact False.elim hq
end
structure Cj {α:Type}(t:Sem α):Prop where
 out:∀ (M:Model) (Γ:PySem.Ctx) (Q1 Q2:α->Pos->Shared->Prop) (E1 E2:Value->Pos->Shared->Prop) (p:Pos) (s:Shared),Sem.wp M Γ t Q1 E1 p s->Sem.wp M Γ t Q2 E2 p s ->
  Sem.wp M Γ t (fun a p s=>Q1 a p s/\Q2 a p s) (fun e p s=>E1 e p s/\E2 e p s) p s
section
variable {α β:Type}
theorem QQ {a:α}:Cj (pure a:Sem α):=⟨fun _ _ _ _ _ _ _ _ h1 h2=>⟨h1,h2⟩⟩
theorem Xv {x:String}:Cj (unsupported x:Sem α):=⟨fun _ _ _ _ _ _ _ _ h1 _=>h1.elim⟩
theorem QG {m:Sem α}{f:α->Sem β}(h:Cj m) (hf:∀ a,Cj (f a)):Cj (m >>= f):=⟨fun M Γ Q1 Q2 E1 E2 p s h1 h2=>by
 have e:=fun Q E=>Sem.wp_bind M Γ m f Q E p s
 have h1':=(e Q1 E1).mp h1;have h2':=(e Q2 E2).mp h2;exact (e _ _).mpr (Sem.wp_mono M Γ m (fun a p' s' ⟨z1,z2⟩=>(hf a).out M Γ Q1 Q2 E1 E2 p' s' z1 z2) (fun _ _ _ z=>z) p s (h.out M Γ _ _ _ _ p s h1' h2'))⟩
theorem Vg:Cj (load a):=⟨fun _ _ _ _ _ _ _ _ ⟨o,e,h1⟩ ⟨o',e',h2⟩=>by
 rw [e] at e';cases e';exact ⟨o,e,h1,h2⟩⟩
theorem Ks {f:Obj->Obj}:Cj (update a f):=⟨fun _ _ _ _ _ _ _ _ ⟨e,h1⟩ ⟨_,h2⟩=>⟨e,h1,h2⟩⟩
theorem VY {o:Obj}:Cj (alloc o):=⟨fun _ _ _ _ _ _ _ _ h1 h2=>⟨h1,h2⟩⟩
theorem JI:Cj stack:=⟨fun _ _ _ _ _ _ _ _ h1 h2=>⟨h1,h2⟩⟩
end
theorem Cj.any {t:Sem α}(h:Cj t) {M:Model}{A:Around}{Q1 Q2:α->Shared->Prop}{E1 E2:Value->Shared->Prop}{s:Shared}(h1:wpAny M A t Q1 E1 s) (h2:wpAny M A t Q2 E2 s):wpAny M A t (fun a s=>Q1 a s/\Q2 a s) (fun e s=>E1 e s/\E2 e s) s:=
 fun Γ p hΓ=>h.out M Γ _ _ _ _ p s (h1 Γ p hΓ) (h2 Γ p hΓ)
theorem VX {v:Value}:Cj (fieldsOf v):=by
 unfold fieldsOf;split
 ·refine QG Vg fun o=>?_
  split
  ·exact QQ
  ·exact Xv
 ·exact Xv
theorem Wj {v:Value}:Cj (field v i):=by
 unfold field;refine QG VX fun vs=>?_
 split
 ·exact QQ
 ·exact Xv
theorem JH {v:Value}:Cj (updateField a i v):=by
 unfold updateField;refine QG Vg fun o=>?_
 split
 ·split
  ·exact Ks
  ·exact Xv
 ·exact Xv
theorem Ye {v x:Value}:Cj (setField v i x):=by
 unfold setField;split
 ·exact JH
 ·exact Xv
theorem cj_setFlight {e:Value}{f:Option Addr}:Cj (setFlight e f):=by
 unfold setFlight;refine QG Wj fun tb=>?_
 split
 ·exact Ye
 ·exact QQ
theorem Nc {l:List Env}:Cj (behindIsImport env l):=by
 unfold behindIsImport;split
 ·exact QQ
 ·split
  ·exact QQ
  ·exact QG Wj fun _=>QQ
theorem MZ:Cj underTheClaimsCaller:=by
 unfold underTheClaimsCaller;exact QG JI fun _=>QQ
theorem Bt {b:Bool}{l:List Env}:Cj (keptBack env b l):=by
 unfold keptBack;split
 ·split
  ·exact QQ
  ·exact QG MZ fun _=>QQ
 ·exact QQ
theorem VW:∀ {l:List Env},Cj (readyFrames l)
 | []=>QQ
 | env :: outer=>by
  have ih:=VW (l:=outer);unfold readyFrames;split
  ·refine QG Vg fun o=>?_
   split
   ·exact QQ
   ·exact QG Nc fun _=>QG Bt fun _=>QG Ks fun _=>ih
  ·exact Xv
theorem UA:Cj (PySem.frameOf env):=by
 unfold PySem.frameOf frameEnvs;refine QG (QG JI fun _=>QQ) fun l=>?_
 refine QG ?_ fun r=>?_
 ·unfold frameObject;split
  ·exact QQ
  ·exact QG VW fun _=>QQ
 ·split
  ·exact QQ
  ·exact Xv
theorem M0 {b:Bool}:Cj (entryPlaceOf f b):=by
 unfold entryPlaceOf;refine QG JI fun acts=>?_
 split <;> exact QQ
theorem Vf {ty:String}{l:List Value}:Cj (newFields ty l):=by
 unfold newFields newObj newObjAsIs;dsimp only;split
 ·exact QG Xv fun _=>QG VY fun _=>QQ
 ·exact QG VY fun _=>QQ
theorem M1 {a b c d e:Value}{l:List Value}:Cj (EntryCells.newEntry a b c d e l):=Vf
theorem cj_noteFrame {e:Value}:Cj (noteFrame e env):=by
 unfold noteFrame;split
 ·refine QG Wj fun hd=>?_
  have rest:∀ {b:Bool} {f:Addr},Cj (do
    let a <-PySem.frameOf env
    let pl <-entryPlaceOf f b
    let x <-EntryCells.newEntry hd a Value.none (rawInt ↑f) Value.none pl
    setField e 1 x):=fun {b f}=>QG UA fun _=>QG M0 fun _=>QG M1 fun _=>Ye
  dsimp only;split
  ·refine QG Wj fun fl=>?_
   split
   ·exact QQ
   ·exact QG Ye fun _=>rest
  ·exact rest
 ·exact Xv
theorem cj_leaving {e:Value}:Cj (leaving env e):=QG cj_noteFrame fun _=>cj_setFlight
def F2 (e:Addr) (h:Heap):Prop:=∃ o vs,h.get? e=some o/\o.data=.fields vs/\vs[2]?=some .none
theorem Pb {o:Obj}{vs:Array Value}{f:Array Value->Array Value}(h:o.data=.fields vs):(Obj.mapFields f o).data=.fields (f vs)/\(Obj.mapFields f o).isFreed=false:=by
 obtain ⟨c,d,dt,sl⟩:=o;cases h;exact ⟨rfl,rfl⟩
end L2
namespace L2
open PySem PySem.Spec PyProof.Rows PySem.W Builtin Builtin.ObjectAttr Builtin.Getset_descriptor
end L2
namespace L2
open PySem PySem.Spec PyProof.Rows PySem.W Builtin
section
variable {prog:Program} {w:World} {A:Around} {E:Value->Shared->Prop} {s:Shared} {e it l:Addr} {i:Nat} {items:Array Value}
theorem J1:entryFor table "proto.unchain"=some Builtin.«proto.unchain»:=by kernel_rfl
theorem GI {o:Obj}{us:Array Value}{Q:α->Shared->Prop}(hh:A.handled=some (.ref e)) (f2:F2 e s.heap) (ha:s.heap.get? a=some o) (hd:o.data=.fields us) (h2:2<us.size) (hne:e≠a)
  (hE:E (.ref a) { s with heap:=s.heap.update a (Obj.mapFields fun x_1=>x_1.setIfInBounds 2 (.ref e)) }):wpAny (model prog w) A (raiseNew (.ref a):Sem α) Q E s:=by
 obtain ⟨oe,vs,k1,k2,k3⟩:=f2;unfold raiseNew;refine Fg (wpAny_handled ?_);rw [hh];dsimp only;rw [Fk (by rw [bne_iff_ne];intro z;cases z;exact hne rfl)];refine Fg (wpAny_holding (wpAny_runValue (codeAny_builtin J1 ?_)));unfold Builtin.«proto.unchain»;dsimp only;refine Fg (wpAny_field k1 k2 k3 ?_);rw [Fk (by rfl)];refine Fs ?_;refine Fg ?_;show wpAny (model prog w) A (setField (.ref a) 2 (.ref e)) _ _ _;refine wpAny_setField ha hd h2 ?_;exact wpAny_throw hE
theorem L5 {Q:Option Value->Shared->Prop}(hh:A.handled=some (.ref e)) (f2:F2 e s.heap) (ne:e≠it) (hit:s.heap.IsListIter it l i) (hl:s.heap.IsList l items) (hx:items[i]?=none)
  (hE:∀ (h':Heap) (x:Addr),Heap.ExtBut it s.heap h'->(∃ o,h'.get? x=some o/\o.cls=Value.type "StopIteration")->E (.ref x) { s with heap:=h' }):wpAny (model prog w) A (callSpecial? (.ref it) (Str.ofString "__next__")) Q E s:=by
 obtain ⟨o,ho,hc,hd⟩:=id hit;obtain ⟨ol,hol,left,nl,hdl⟩:=hl;refine wpAny_callSpecial?_slot hit.typeIs slot_listiter_next (wpAny_call_entry slot_listiter_next hit.typeIs entry_listiter_next ?_)
 change wpAny _ _ (field (.ref it) 0 >>= _) _ _ _
 refine Fg (wpAny_field ho hd rfl ?_)
 change wpAny _ _ (field (.ref it) 1 >>= _) _ _ _
 refine Fg (wpAny_field ho hd rfl ?_)
 change wpAny _ _ (seqItems? (.ref l) >>= _) _ _ _
 refine Fg (wpAny_seqItems hol hdl ?_);have hx':items[(i:Int).toNat]?=none:=hx;dsimp only [Int.toNat_natCast];rw [hx];dsimp only;refine Fg (wpAny_rule (Fg (wpAny_setField ho hd (by simp) ?_)));unfold SmallTypes.stopIteration newExc;refine Fg (Fg (wpAny_newObj_type (Fg (wpAny_of_eq (Eq.refl (firstArgMember (Value.type "StopIteration") [])) (wpAny_newObj_type ?_)))));have e1:Heap.ExtBut it s.heap (s.heap.update it (Obj.mapFields fun x=>x.setIfInBounds 0 Value.none)):=fun b ob hb hg=>ER _ (Ea hb) hg
 generalize s.heap.update it (Obj.mapFields fun x=>x.setIfInBounds 0 Value.none)=h1 at *;have fe:F2 e h1:=by
  obtain ⟨oe,vs,k1,k2,k3⟩:=f2;exact ⟨oe,vs,e1 e oe ne k1,k2,k3⟩
 dsimp only;generalize hob:({ cls:=Value.type "StopIteration",data:=Data.fields _ }:Obj)=ob;have hcls:ob.cls=Value.type "StopIteration":=by rw [<-hob]
 obtain ⟨us,hus,hsz⟩:∃ us,ob.data=.fields us/\2<us.size:=by
  rw [<-hob];refine ⟨_,rfl,?_⟩;rw [Array.size_append];show 2<6+_;omega
 clear hob;have k2:∀ b o,h1.get? b=some o->(h1.push { cls:=Value.type "tuple",data:=Data.seq #[] }).get? b=some o:=fun b o q=>FA _ q
 generalize h1.push { cls:=Value.type "tuple",data:=Data.seq #[] }=h2 at *;have k3:∀ b o,h2.get? b=some o->(h2.push ob).get? b=some o:=fun b o q=>FA _ q
 have alive:ob.isFreed=false:=by
  obtain ⟨c,d,dt,sl⟩:=ob;cases hus;rfl
 have kn:(h2.push ob).get? h2.objs.size=some ob:=FY _ alive;have fresh:∀ b o,h2.get? b=some o->h2.objs.size≠b:=fun b o q z=>absurd (Ft q) (by rw [z];exact FG _)
 have fe3:F2 e (h2.push ob):=by
  obtain ⟨oe,vs,q1,q2,q3⟩:=fe;exact ⟨oe,vs,k3 _ _ (k2 _ _ q1),q2,q3⟩
 have hne:e≠h2.objs.size:=by
  obtain ⟨oe,vs,q1,q2,q3⟩:=fe;exact (fresh _ _ (k2 _ _ q1)).symm
 refine GI (s:={ s with heap:=h2.push ob }) hh fe3 kn hus hsz hne (hE _ _ (fun b o hb hg=>?_) ?_)
 ·have q:=k2 _ _ (e1 b o hb hg);exact ER _ (fresh _ _ q) (k3 _ _ q)
 ·obtain ⟨m1,m2⟩:=Pb (f:=fun x_1=>x_1.setIfInBounds 2 (Value.ref e)) hus;refine ⟨_,Dq _ kn m2,?_⟩;obtain ⟨c,d,dt,sl⟩:=ob;cases hus;exact hcls
theorem ZI {Q:Option Value->Shared->Prop}(hh:A.handled=some (.ref e)) (f2:F2 e s.heap) (ne:e≠it) (hit:s.heap.IsListIter it l i) (hl:s.heap.IsList l items) (hx:items[i]?=none)
  (hQ:∀ h':Heap,Heap.ExtBut it s.heap h'->Q none { s with heap:=h' }):wpAny (model prog w) A (pyNext (.ref it)) Q E s:=by
 unfold pyNext;refine Fg (wpAny_attempt (L5 hh f2 ne hit hl hx fun h' x eb ⟨o,k1,k2⟩=>?_));dsimp only;unfold isInstance;refine Fg ?_
 repeat (first | (with_reducible refine wpAny_loadPart_at k1 ?_;rw [k2]) | wp_step)
 refine wpAny_of_eq (show isSubtype (Value.type "StopIteration") (Value.type "StopIteration")=pure true by kernel_rfl) (Fs ?_);exact hQ _ eb
end
structure B0 (P:Program) (w:World) (K:W.Frag) (ea:Addr) (tg:Expr) (J:It) (fp:List Addr) (it:Addr) (tn:Nat->Heap->Prop):Prop where
 mem:it∈fp
 obj:∀ i h,tn i h->∀ b∈fp,∃ o,h.get? b=some o/\∀ v,o.data≠.cell v
 keep:∀ i h h',tn i h->(∀ b∈fp,∀ o,h.get? b=some o->h'.get? b=some o)->tn i h'
 item:∀ (X:Cx),X.prog=P->X.w=w->X.K=K->X.A.handled=some (.ref ea)->∀ (i:Nat) (aq:List (Addr×Obj)) (s:Shared) (σ:St) (H:Hp) (E:Value->Shared->Prop),Inv X aq σ H s->(∀ b∈fp,Xw X aq H b)->tn i s.heap->J.go i H ->
  wpAny (model P w) X.A (pyNext (.ref it)) (fun r s1=>∃ u,r=some u /\
   wpAny (model P w) X.A (letOwnedTupleGo tg (.ref it) u) (fun _ s2=>∃ x H',Inv X aq σ H' s2/\RelV x u/\J.yld i H x H'/\tn (i+1) s2.heap/\∀ b∈fp,H' b=none) E s1) E s
 done:∀ (X:Cx),X.prog=P->X.w=w->X.K=K->X.A.handled=some (.ref ea)->∀ (i:Nat) (aq:List (Addr×Obj)) (s:Shared) (σ:St) (H:Hp) (E:Value->Shared->Prop),Inv X aq σ H s->(∀ b∈fp,Xw X aq H b)->tn i s.heap->J.stop i H ->
  wpAny (model P w) X.A (pyNext (.ref it)) (fun r s1=>r=none/\Inv X aq σ H s1) E s
 self:∀ (A:Around) (i:Nat) (s:Shared) (Q:Value->Shared->Prop) (E:Value->Shared->Prop),tn i s.heap->Q (.ref it) s->wpAny (model P w) A (pyIter (.ref it)) Q E s
def Fc (X:Cx) (ea:Addr) (aq:List (Addr×Obj)) (σ:St) (tg:Expr) (R:It->Hp->Prop) (itv:Value) (s2:Shared):Prop:=
 ∃ (it:Addr) (fp:List Addr) (tn:Nat->Heap->Prop) (J:It) (H':Hp),itv=.ref it/\Inv X aq σ H' s2/\B0 X.prog X.w X.K ea tg J fp it tn/\tn 0 s2.heap/\(∀ b∈fp,Xw X aq H' b)/\R J H'
def PIH (X:Cx) (ea:Addr) (tg iter:Expr) (wi:TI):Prop:=
 ∀ (aq:List (Addr×Obj)) (s:Shared) (σ:St) (H:Hp) (R:It->Hp->Prop),Inv X aq σ H s->wi σ H R ->
  wpAny (model X.prog X.w) X.A (eval iter X.env) (fun v s1=>wpAny (model X.prog X.w) X.A (pyIter v) (Fc X ea aq σ tg R) X.xe s1) X.xe s
theorem N9 {cl:List (Str×Addr)}{wi:TI}(hc:X.A.handled=some (.ref ea)) (O:XY X scope cl N caps)
  (hi:PIH X ea (.Name x px) iter wi) (hg:∀ C s H ex,PG (blk X scope cl N C s H ex) (.Name x px) g) (ht:∀ C s H ex,PTs (blk X scope cl N C s H ex) ifs tt) (he:∀ C s H ex,PE (blk X scope cl N C s H ex) elt te)
  (hs:∀ v,foldedSetIterable iter X.env v=pure v:=by intro _;rfl):PE X (.ListComp elt [⟨.Name x px,iter,ifs,0⟩] scope pos) (Kg caps wi g tt te):=by
 intro aq s σ H Q I h;rw [eval_ListComp];refine wpAny_comprehension_free (use:=none) rfl hs O.clos O.kind O.names (thn (hi aq s σ H _ I h) fun v s1 h1=>thn h1 fun itv s2 h2=>?_);obtain ⟨it,fp,tn,J,H2,e,I2,T,st2,f2,W,⟨m0,w0⟩,turn⟩:=h2;subst e;refine wpAny_newObj_type (wpAny_newFunctionEnv O.nocell (by intro y hy;simp at hy) (fun h₁ hns₁ hsb₁=>?_) O.kind);dsimp only at hns₁ hsb₁ ⊢;generalize hH2:s2.heap.push { cls:=.type "list",dict:=none,data:=.seq ([]:List Value).toArray }=P2 at hns₁ hsb₁ ⊢;have hC:P2.objs.size=s2.heap.objs.size+1:=by rw [<-hH2,Heap.size_push]
 have hDC:s2.heap.objs.size≠P2.objs.size:=by rw [hC];exact FD (Dg _)
 have hCle:s2.heap.objs.size<=P2.objs.size:=by rw [hC];exact Em _
 have old:∀ b o,s2.heap.get? b=some o->h₁.get? b=some o:=fun b o e=>hsb₁.extBut b o (FD (FL (Ft e) hCle)) (FA _ (hH2 ▸ FA _ e))
 have hacc:h₁.PlainList s2.heap.objs.size #[]:=⟨_,hsb₁.extBut _ _ hDC (FA _ (hH2 ▸ FY _ rfl))⟩
 have hlt:∀ b∈fp,b<s2.heap.objs.size:=fun b hb=>by
  obtain ⟨o,e,_⟩:=T.obj 0 _ st2 b hb;exact Ft e
 generalize hCC:P2.objs.size=C at *;generalize hDD:s2.heap.objs.size=Dl at *;have I3:Inv (blk X scope cl N C s2 H2 fp) [] (WK caps σ) H2 { s2 with heap:=h₁,toks:=s2.toks+([]:List (Str×Value)).length }:=WO I2 O f2 (by rw [hDD];exact hlt) old (by rw [hDD];exact hCle) hns₁;have st3:tn 0 h₁:=T.keep 0 _ _ st2 fun b _ o e=>old b o e
 have hDn:H2 Dl=none:=I2.hok.fresh (by rw [hDD];exact Fl _);have nfs:∀ b∈fp,b ∉ frs X.stack:=fun b hb z=>by
  rcases FF.mp (I2.stkSub b z) with q | q
  ·exact (f2 b hb).2.1 q
  ·exact (f2 b hb).2.2.1 q
 have stat:∀ {H':Hp},(∀ b∈fp,H' b=none)->∀ b∈fp,Xw (blk X scope cl N C s2 H2 fp) [] H' b:=fun hn b hb=>
  ⟨hn b hb,FD (FL (hlt b hb) hCle),nfs b hb,.inl hb,fun x c e=>(f2 b hb).2.2.2.2.1 x c (O.sub x c e),fun p hp=>absurd (show p∈([]:List (Addr×Obj)) from hp) (by simp)⟩
 have cellD:∀ x c,cl.lookup x=some c->c≠Dl:=fun x c e z=>by
  obtain ⟨v,q⟩:=I2.cell x c (O.sub x c e);have:=q.lt;rw [hDD] at this;exact FG _ (z ▸ this)
 have nfsD:Dl ∉ frs X.stack:=fun z=>by
  have:=I2.stkSub Dl z;rcases FF.mp this with q | q
  ·have:=I2.lt;rw [hDD] at this;exact FG _ (q ▸ this)
  ·exact I2.nofs (by rw [hDD];exact Fl _) q
 have statD:∀ {H':Hp},H' Dl=none->Xw (blk X scope cl N C s2 H2 fp) [] H' Dl:=fun hn=>⟨hn,hDC,nfsD,.inr (Nat.le_of_eq hDD),cellD,fun p hp=>absurd (show p∈([]:List (Addr×Obj)) from hp) (by simp)⟩
 have loop:∀ s₃:Shared,s₃={ s2 with heap:=h₁,toks:=s2.toks+([]:List (Str×Value)).length } ->
   codeAny (model X.prog X.w) X.A (.compLoop (.ListComp elt [⟨.Name x px,iter,ifs,0⟩] scope pos) 0 (.ref it) (.ref Dl) (compEnvC scope cl C X.env))
    (compPost (model X.prog X.w) X.A X.xe none (EP X aq σ Q) (.ref Dl) C) s₃:=by
  intro s₃ hs3;subst hs3;refine XW (fun n s'=>∃ i σ' H' acc its,Inv (blk X scope cl N C s2 H2 fp) [] σ' H' s'/\tn i s'.heap/\(∀ b∈fp,H' b=none)/\H' Dl=none/\Vals acc its/\s'.heap.PlainList Dl its.toArray/\acc.length<=sizeLine/\W i n acc σ' H') ?_ m0
   ⟨0,WK caps σ,H2,[],[],I3,st3,fun b hb=>(f2 b hb).1,hDn,.nil,hacc,F1 _,w0⟩
  rintro n s3 ⟨i,σ3,H3,acc,its,J3,st3,fr3,d3,va,pl3,la,w3⟩;rcases turn i n acc σ3 H3 w3 with ⟨stop,qn⟩ | ⟨go,la2,step⟩
  ·refine thn (T.done (blk X scope cl N C s2 H2 fp) rfl rfl rfl hc i [(Dl,{ cls:=.type "list",data:=.seq its.toArray (Classical.choose pl3) })] s3 σ3 H3 (fun _ _=>False) (J3.pins_of fun p hp=>?_) (fun b hb=>?_) st3 stop) fun r s4 ⟨hr,J4⟩=>?_
   ·have e:=FC.mp (show p∈[_] from hp);subst e;exact ⟨E7 pl3,d3,hDC,nfsD,fun v z=>by cases z⟩
   ·obtain ⟨q1,q2,q3,q4,q5,q6⟩:=stat fr3 b hb;refine ⟨q1,q2,q3,q4,q5,fun p hp z=>?_⟩;have e:=FC.mp (show p∈[_] from hp);subst e;exact absurd (hlt b hb) (by rw [<-z];exact FG _)
   ·subst hr;obtain ⟨m,hn,_⟩:=J4.loc;refine ⟨m,hn,fun h' sb=>?_⟩;have pD:=J4.pin (Dl,_) (by simp;rfl);have J5:=Vl I2 f2 J4 (by rw [hDD];exact hCle) sb;refine ⟨.ref Dl,upd H3 Dl (.lst acc),?_,rfl,qn _ d3⟩;refine J5.track (o:=.lst acc) (FR I2.sz (by rw [hDD];exact Fl _)) d3 (fun z=>by
     have:=I2.lt;rw [hDD,<-z] at this;exact FG _ this) (fun y c e z=>by
     obtain ⟨v,q⟩:=I2.cell y c e;have:=q.lt;rw [hDD] at this;exact FG _ (z ▸ this)) (fun p hp z=>by
     have:=Ft (I2.pin p hp).1;rw [hDD,z] at this;exact FG _ this) ⟨la,its,_,va,(sb.2 Dl hDC).trans pD.1⟩
  ·refine thn (T.item (blk X scope cl N C s2 H2 fp) rfl rfl rfl hc i [(Dl,{ cls:=.type "list",data:=.seq its.toArray (Classical.choose pl3) })] s3 σ3 H3 (fun _ _=>False) (J3.pins_of fun p hp=>?_) (fun b hb=>?_) st3 go) fun r s4 ⟨u,hr,h4⟩=>?_
   ·have e:=FC.mp (show p∈[_] from hp);subst e;exact ⟨E7 pl3,d3,hDC,nfsD,fun v z=>by cases z⟩
   ·obtain ⟨q1,q2,q3,q4,q5,q6⟩:=stat fr3 b hb;refine ⟨q1,q2,q3,q4,q5,fun p hp z=>?_⟩;have e:=FC.mp (show p∈[_] from hp);subst e;exact absurd (hlt b hb) (by rw [<-z];exact FG _)
   ·subst hr;refine thn h4 fun _ s5 ⟨y,H5,J5,r5,y5,st5,fr5⟩=>?_
    have J5':Inv (blk X scope cl N C s2 H2 fp) ([(Dl,{ cls:=.type "list",data:=.seq its.toArray (Classical.choose pl3) })]++Xu fp s5.heap) σ3 H5 s5:=J5.pinned (fun b hb=>by
     obtain ⟨q1,q2,q3,q4,q5,q6⟩:=stat fr5 b hb;refine ⟨q1,q2,q3,q4,q5,fun p hp z=>?_⟩;have e:=FC.mp (show p∈[_] from hp);subst e;exact absurd (hlt b hb) (by rw [<-z];exact FG _)) (T.obj _ _ st5)
    refine thn (hg C s2 H2 fp _ s5 σ3 H5 y u _ J5' r5 (step y H5 y5)) fun _ s6 ⟨σ6,H6,J6,q6⟩=>?_
    refine thn (ht C s2 H2 fp _ s6 σ6 H6 _ J6 q6) fun ok s7 ⟨H7,J7,q7⟩=>?_
    have back:∀ {H8:Hp} {s8:Shared},Inv (blk X scope cl N C s2 H2 fp) ([(Dl,{ cls:=.type "list",data:=.seq its.toArray (Classical.choose pl3) })]++Xu fp s5.heap) σ6 H8 s8 ->
      tn (i+1) s8.heap/\(∀ b∈fp,H8 b=none)/\H8 Dl=none/\s8.heap.PlainList Dl its.toArray:=fun {H8 s8} J8=>by
     have pb:∀ b∈fp,∀ o,s5.heap.get? b=some o->s8.heap.get? b=some o/\H8 b=none:=fun b hb o e=>by
      have:=J8.pin (b,o) (F8 _ (F8 _ (Xg hb e)));exact ⟨this.1,this.2.1⟩
     have pd:=J8.pin (Dl,_) (F8 _ (EI _ (FC.mpr rfl)));refine ⟨T.keep _ _ _ st5 fun b hb o e=>(pb b hb o e).1,fun b hb=>?_,pd.2.1,⟨_,pd.1⟩⟩;obtain ⟨o,e,_⟩:=T.obj _ _ st5 b hb;exact (pb b hb o e).2
    cases ok with
    | false=>
     rw [Fh FS] at q7 ⊢;obtain ⟨m',hm,w7⟩:=q7;obtain ⟨b1,b2,b3,b4⟩:=back J7;exact ⟨m',hm,i+1,σ6,H7,acc,its,J7.pins_of (fun p hp=>absurd hp (by simp)),b1,b2,b3,va,b4,la,w7⟩
    | true=>
     rw [Fk rfl] at q7 ⊢;refine thn (he C s2 H2 fp _ s7 σ6 H7 _ J7 q7) fun z s8 ⟨zv,H8,J8,r8,q8⟩=>?_
     obtain ⟨m',hm,w8⟩:=q8;obtain ⟨b1,b2,b3,b4⟩:=back J8;have z1:its.length=acc.length:=va.length.symm;refine wpAny_list_append_plain (hsz:=by rw [FJ];omega) b4 fun h9 pl9 sb9=>?_
     have J9:Inv (blk X scope cl N C s2 H2 fp) [] σ6 H8 { s8 with heap:=h9,toks:=s8.toks }:=by
      obtain ⟨k0,k1,k2,k3,k4,k5⟩:=statD (H':=H8) b3;exact (J8.pins_of (pins':=[]) (fun p hp=>absurd hp (by simp))).turned (it:=Dl) (fun b o hb e=>(sb9.2 b hb).trans e) k0 k1 k3 k4 k5
     refine ⟨m',hm,i+1,σ6,H8,acc++[zv],its++[z],J9,T.keep _ _ _ b1 fun b hb o e=>(sb9.2 b (FD (hlt b hb))).trans e,b2,b3,va.append (.cons r8 .nil),?_,?_,w8⟩
     ·simpa using pl9
     ·rw [Fo,Fz];omega
 exact codeAny_compStart_list (loop _ rfl) (T.self X.A 0 _ _ _ st3 (loop _ rfl))
theorem Vo (hh:A.handled=some (.ref e)) (I ax:Addr) (hne:ax≠I) (hei:e≠I) (items:Array Value) :
  Walks prog w A I [I,ax,e] [I] items.size (fun i v=>items[i]?=some v) fun i h=>h.IsListIter I ax i/\h.IsList ax items/\F2 e h where
 sub:=fun b hb=>by simp at hb;simp [hb]
 frame:=fun i h h' ⟨s1,s2,o,vs,k1,k2,k3⟩ hk=>⟨s1.at fun o e=>hk I (by simp) o e,s2.at fun o e=>hk ax (by simp) o e,o,vs,hk _ (by simp) _ k1,k2,k3⟩
 item:=fun i s Q E hi ⟨s1,s2,o,vs,k1,k2,k3⟩ hQ=>by
  refine wpAny_pyNext_list_item s1 s2 (x:=items[i]) (by simp [hi]) fun h' st' sb=>?_
  exact hQ items[i] h' s.toks (by simp [hi]) ⟨st',s2.extBut sb.extBut hne,o,vs,sb.extBut _ _ hei k1,k2,k3⟩ fun b ob hb g=>sb.extBut b ob (by simpa using hb) g
 done:=fun s Q E ⟨s1,s2,f2⟩ hQ=>ZI hh f2 hei s1 s2 (by simp) fun h' eb=>hQ h' s.toks fun b ob hb g=>eb b ob (by simpa using hb) g
 self:=fun _ _ _ _ st hQ=>wpAny_pyIter_listiter st.1 hQ
end L2
namespace L2
open PySem PySem.Spec PyProof.Rows
end L2
namespace L2
open PySem PySem.Spec PyProof.Rows
end L2
namespace L2
open PySem PySem.W PyProof.Rows
section
variable {prog:Program} {w:World} {A:Around} {E:Value->Shared->Prop} {s:Shared}
theorem We {h:Heap}{ks:List Bool}:∀ (vs:List Value),(∀ v∈vs,Gs h (false :: ks) v)->∃ fs,KatTups h vs fs/\fs.length=vs.length/\∀ f∈fs,∃ x t,f=Value.int x t
 | [],_=>⟨[],trivial,rfl,by simp⟩
 | v :: vs,H=>by
  obtain ⟨fs,h1,h2,h3⟩:=We vs fun u hu=>H u (FZ _ hu)
  obtain ⟨a,o,xs,n,rfl,ho,hc,hd,hp⟩:=H v FU;obtain ⟨f,r,hx,hf⟩:∃ f r,xs.toList=f :: r/\Wn false f:=by
   generalize xs.toList=l at hp;cases hp with
   | cons hf _=>exact ⟨_,_,rfl,hf⟩
  ·refine ⟨f :: fs,⟨⟨a,o,xs,n,rfl,ho,hc,hd,?_⟩,h1⟩,by simp [h2],?_⟩
   ·have:xs.toList[0]?=some f:=by rw [hx];rfl
    simpa using this
   ·intro g hg;rcases FF.mp hg with rfl | hg
    ·exact hf
    ·exact h3 g hg
theorem VL {vs:List Value}{ks:List Bool}{P:PySem.Fin->Shared->Prop}(ho:s.heap.get? a=some (seqObj "list" vs.toArray n)) (h64:vs.length<64) (ht:∀ v∈vs,Gs s.heap (false :: ks) v)
  (fin:∀ out:Array Value,out.toList.Perm vs->P (.done (.ret .none)) { s with heap:=sortedHeap s.heap a vs out }):wpAny (model prog w) A (Builtin.«list.sort» ⟨[.ref a],[]⟩) P E s:=by
 have hv:vs.length<=sizeLine:=by rw [Ew];omega
 obtain ⟨e1,ho1⟩:∃ e1,(s.heap.update a (Obj.mapSeq fun _=>(#[]:Array Value))).get? a=some (seqObj "list" #[] e1):=⟨_,get?_update_seq ho fun _=>#[]⟩
 have ho6:(bare s.heap a vs).get? a=some (seqObj "list" #[] e1):=FA _ (FA _ ho1);have ht6:∀ v∈vs,Gs (bare s.heap a vs) (false :: ks) v:=fun v m=>by
  obtain ⟨b,o,xs,k,rfl,g,hc,hd,hp⟩:=ht v m;refine ⟨b,o,xs,k,rfl,M6 (fun z=>?_) g,hc,hd,hp⟩;subst z;rw [ho] at g;cases g;simp [seqObj] at hc
 rw [list_sort_plain];refine Fg (listItems_at ho rfl (Fg (listUpdate_at ho rfl (Fg (seqEpoch_at ho1 rfl (Fg (wpAny_newTuple (Fg (wpAny_newList (wpAny_holding ?_) (F1 _))) ?_)))) ?_ (F1 _))))
 rotate_left
 ·exact hv
 ·rw [FJ];exact hv
 show wpAny (model prog w) A _ P E { s with heap:=bare s.heap a vs };dsimp only;by_cases h2:vs.toArray.size<2
 ·rw [Fk h2,Fk h2];refine Fg (Fs ?_);rw [StateT.run_pure];refine Fg (Fs ?_);dsimp only;have e:(arrOf (SortSt.mk' general' (vs.toArray.zip vs.toArray) #[] 7 none)).map (·.2)=vs.toArray:=by
   apply Array.toList_inj.mp;show (Array.map _ (vs.toArray.zip vs.toArray)).toList=vs;rw [Array.toList_map,Array.toList_zip];exact List.map_snd_zip (Fl _)
  refine Fg (seqEpoch_at ho6 rfl (Fg (listUpdate_at ho6 rfl ?_ (F1 _) ?_)))
  ·simp only [bne_self_eq_false,Bool.false_eq_true,if_false];exact Fs (fin _ (by rw [e]))
  ·show (Array.map _ _).size<=_;rw [e,FJ];omega
 ·rw [Fh h2,Fh h2];rw [FJ] at h2;obtain ⟨fs,k1,k2,k3⟩:=We (h:=bare s.heap a vs) vs ht6;refine Fg (kat_kind (T:=.type "int") k1 (by omega) (fun v hv=>by obtain ⟨x,t,rfl⟩:=k3 v hv;exact Looks.of_pure rfl) rfl ?_);have hc:∀ i j (C:Bool->Shared->Prop),i<vs.length->j<vs.length->(∀ b,C b { s with heap:=bare s.heap a vs }) ->
    kas_ask prog w A (tuples' (Value.type "int" != Value.type "tuple")) vs i j C { s with heap:=bare s.heap a vs }:=fun i j C hi hj hC=>by
   unfold kas_ask;have gi:vs.getD i Value.none=vs[i]:=by simp [hi]
   have gj:vs.getD j Value.none=vs[j]:=by simp [hj]
   rw [gi,gj];obtain ⟨b,o,xs,k,e,g,hc,hd,hp⟩:=ht6 vs[i] (List.getElem_mem hi);obtain ⟨b',o',xs',k',e',g',hc',hd',hp'⟩:=ht6 vs[j] (List.getElem_mem hj);rw [e,e'];exact kat_lt g hd g' hd' (VN hC hp hp' 0)
  refine Fg (FV (kat_run (ks:=vs) (vs:=vs) (Q:=fun st' s'=>s'={ s with heap:=bare s.heap a vs }/\∃ p:Array Nat,p.size=vs.length/\arrOf st'=p.map (kas_item (vs.toArray.zip vs.toArray))/\failedOf st'=none/\PermN vs.length p) rfl (by omega) h64
   (fun p st' s' a1 a2 a3 a4=>⟨a4.1,p,a1,a2,a3,a4.2⟩) (Asks.wp hc (Nl (by omega)))) ?_ fun _ _ e=>e)
  rintro ⟨⟨⟩,st'⟩ s' ⟨rfl,p,hp,har,hf,perm⟩;dsimp only;have e:=kat_snds (vs:=vs) (ks:=vs) rfl har;have pm:(p.toList.map fun i=>vs.getD i Value.none).Perm vs:=by
   have:=perm.map fun i=>vs.getD i Value.none
   rwa [Ud] at this
  refine Fg (seqEpoch_at ho6 rfl (Fg (listUpdate_at ho6 rfl ?_ (F1 _) ?_)))
  ·rw [hf];simp only [bne_self_eq_false,Bool.false_eq_true,if_false];exact Fs (fin _ (by rw [e];exact pm))
  ·show (Array.map _ _).size<=_;rw [e,FJ,pm.length_eq];omega
theorem KA {vs:List Value}{ks:List Bool}{Q:Value->Shared->Prop}(hl:s.heap.IsList l vs.toArray) (h64:vs.length<64) (ht:∀ v∈vs,Gs s.heap (false :: ks) v)
  (h:∀ (out:List Value) (h':Heap) (e:Nat),out.Perm vs->(∀ b o,s.heap.get? b=some o->h'.get? b=some o)->h'.get? (s.heap.objs.size+1)=some (seqObj "list" out.toArray e)->Q (.ref (s.heap.objs.size+1)) { s with heap:=h' }) :
  wpAny (model prog w) A (call (.builtin "sorted") [.ref l]) Q E s:=by
 have hv:vs.length<=sizeLine:=by rw [Ew];omega
 refine Calls.call_function_entry kind_sorted plain_sorted entry_sorted (args_sorted1 _) ?_;show wpAny _ _ (Builtin.«sorted» _) _ _ _;unfold Builtin.«sorted»;refine Fg (m:=checkCount "sorted" 1 1 _) (Fs (Fg (collect_list hl (Fg (wpAny_newList ?_ ?_)) ?_)))
 rotate_left
 ·exact hv
 ·exact hv
 have fin:∀ out:Array Value,out.toList.Perm vs->Q (.ref (s.heap.objs.size+1)) { s with heap:=sortedAll s.heap vs out }:=fun out hp=>by
  obtain ⟨e,he⟩:=sortedAll_at s.heap vs out;exact h out.toList _ e hp (fun b o=>sortedAll_old) (by rw [he])
 unfold sortedAll at fin;generalize hG:(s.heap.push (seqObj "list" #[] 0)).update s.heap.objs.size (Obj.mapSeq (·++vs.toArray))=G at fin;have z:G.objs.size=s.heap.objs.size+1:=by
  rw [<-hG];simp [Heap.size_update,size_push']
 have old:∀ b o,s.heap.get? b=some o->(G.push (seqObj "list" vs.toArray 0)).get? b=some o:=fun b o q=>by
  refine FA _ ?_;rw [<-hG,Heap.get?_update_ne _ _ _ _ (FD (Ft q))];exact FA _ q
 have new:(G.push (seqObj "list" vs.toArray 0)).get? (s.heap.objs.size+1)=some (seqObj "list" vs.toArray 0):=z ▸ FY _ rfl;show wpAny _ _ _ _ _ { s with heap:=G.push (seqObj "list" vs.toArray 0) };dsimp only;rw [z];refine Fg (wpAny_holding (wpAny_call_entry slot_list_sort ⟨_,new,rfl⟩ entry_list_sort (VL (ks:=ks) new h64 (fun v m=>?_) fun out hp=>⟨_,rfl,?_⟩) (args_list_sort _)))
 ·obtain ⟨a,o,xs,n,e,g,r⟩:=ht v m;exact ⟨a,o,xs,n,e,old _ _ g,r⟩
 ·exact Fs ⟨_,rfl,fin out hp⟩
end
def RH (K:W.Frag):List V->Hp->VK->Prop:=fun xs H Q=>∃ p ys ks,xs=[.ref p]/\SqL K H p ys/\ys.length<64/\(∀ y∈ys,∃ a zs,y=.ref a/\SqT K H a zs/\Paired Gu (false :: ks) zs)/\∀ l zs,H l=none->zs.Perm ys->Q (.ref l) (upd H l (.lst zs))
theorem Vi (K:W.Frag) {X:Cx}(hK:X.K=K):Zx X (.builtin "sorted") (RH K):=by
 subst hK;intro aq s σ H xs us Q I r h;obtain ⟨p,ys,ks,rfl,hq,h64,ht,q⟩:=h;obtain ⟨u,rfl,r1⟩:=Z0 r;obtain rfl:=r1.ref_of;obtain ⟨its,rv,pl,hz⟩:=I.list hq;have hlen:=rv.length;refine KA (ks:=ks) pl.isList (by omega) (fun v m=>?_) fun out h' e hp kp g=>?_
 ·obtain ⟨y,my,ry⟩:=Vp rv m;obtain ⟨a,zs,rfl,hs,hf⟩:=ht y my;obtain rfl:=ry.ref_of;obtain ⟨its',r',pt,_⟩:=I.tuple hs;obtain ⟨o,ho,hc,n,hd⟩:=pt;exact ⟨a,o,its'.toArray,n,rfl,ho,hc,hd,Ko hf r'⟩
 ·obtain ⟨zs,pz,rz⟩:=Gv hp rv;exact ⟨.ref _,_,I.laid (t':=s.toks) kp (Em _) (show ObjOk X.prog X.w _ h' _ (.lst zs) from ⟨by rw [pz.length_eq];exact hz,out,e,rz,g⟩),rfl,q _ _ (I.hok.fresh (Em _)) pz⟩
def ltP (a b:Int×Int):Prop:=a.1<b.1∨(a.1=b.1/\a.2<b.2)
instance (a b:Int×Int):Decidable (ltP a b):=inferInstanceAs (Decidable (_∨_))
end L2
namespace L2
open PySem PySem.Spec PyProof.Rows
end L2
namespace L2
open PySem PyProof.Rows PySem.Calls PySem.W
structure FunD (K:W.Frag) (x qual:Str) (st:Stmt) (f:Addr) (fd:FuncData):Prop where
 ex:∃ (oc:Value) (od:Option Addr) (dV kV doc pm:Value) (an:Option Addr) (cdv ct:Value) (osl:Array (Option Value)),
  fd=W.fnOf x qual (QZ st) (QO st) (Qh st) dV kV doc pm an cdv ct/\K.lookup f=some ⟨oc,od,.func fd,osl⟩/\W.codeIn K cdv qual=true
 kp:W.keepIn K (.ref f)=true
section
variable {P:Program} {w:World} {K:W.Frag} {mg:Str->Option Value} {base:Heap}
theorem FunD.ok {k:Nat}{sp:Sp}(F:FunD K x qual st f fd) (S:Qo N ps (Qh st)) (len:∀ vs H Q E,sp vs H Q E->vs.length=ps.length)
  (hbody:∀ (cdv:Value) (A:Around) (outer:List Env) (s:Shared) (H:Hp) (vs:List V) (Q:VK) (E:XK),Room k (A.deeper (envOfC qual (Qh st) s.heap.objs.size f cdv))->sp vs H Q E ->
   ∃ t,PSs (Wh CX0 P w K mg base N qual (Qh st) f cdv A outer s H E).nox (QO st) t/\t { nx:=fun _ H'=>Q .non H',rt:=Q } (start N vs) H):FnOk P w K mg base CX0 (k+1) f fd ps sp:=by
 obtain ⟨oc,od,dV,kV,doc,pm,an,cdv,ct,osl,rfl,lk,hcd⟩:=F.ex;refine MO lk hcd S len fun A outer s H vs Q E hr hsp=>?_
 obtain ⟨t,h,q⟩:=hbody cdv A outer s H vs Q E hr hsp;exact ⟨t,h.nox,q⟩
theorem Bf {osl:Array (Option Value)}{dV kV:Value}(l:K.lookup f=some ⟨oc,od,.func (W.fnOf x qual (QZ st) (QO st) (Qh st) dV kV doc pm an cdv ct),osl⟩)
  (c:W.codeIn K cdv qual=true) (k:W.keepIn K (.ref f)=true):FunD K x qual st f (W.fnOf x qual (QZ st) (QO st) (Qh st) dV kV doc pm an cdv ct):=⟨⟨oc,od,dV,kV,doc,pm,an,cdv,ct,osl,rfl,l,c⟩,k⟩
end
abbrev V10:=V->V->V->V->V->V->V->V->V->V->Hp->VK->Prop
def PQ (φ:V10):Sp:=fun vs H Q _=>∃ a b c d e f g h i j,vs=[a,b,c,d,e,f,g,h,i,j]/\φ a b c d e f g h i j H Q
def Sp10M (φ:V10):Sp:=fun vs H Q _=>match vs with | [a,b,c,d,e,f,g,h,i,j]=>φ a b c d e f g h i j H Q | _=>False
theorem Sp10M.imp {φ:V10}(vs:List V) (H:Hp) (Q:VK) (E:XK) (h:Sp10M φ vs H Q E):PQ φ vs H Q E:=by
 unfold Sp10M at h;split at h
 ·exact ⟨_,_,_,_,_,_,_,_,_,_,rfl,h⟩
 ·exact h.elim
theorem B2 {φ:V10}{a b d e f g h i j:V}:Sp10M φ [a,b,c,d,e,f,g,h,i,j] H Q E=φ a b c d e f g h i j H Q:=rfl
theorem B8 {a b d e f g h i j:V}:start N [a,b,c,d,e,f,g,h,i,j]=some a :: some b :: some c :: some d :: some e :: some f :: some g :: some h :: some i :: some j :: List.replicate (N.length-10) none:=rfl
end L2
namespace L2
open PySem PySem.Spec PyProof.Rows
abbrev V6:=V->V->V->V->V->V->Hp->VK->Prop
def Sp6 (φ:V6):Sp:=fun vs H Q _=>∃ a b c d e f,vs=[a,b,c,d,e,f]/\φ a b c d e f H Q
def Sp6M (φ:V6):Sp:=fun vs H Q _=>match vs with | [a,b,c,d,e,f]=>φ a b c d e f H Q | _=>False
theorem Sp6M.imp {φ:V6}(vs:List V) (H:Hp) (Q:VK) (E:XK) (h:Sp6M φ vs H Q E):Sp6 φ vs H Q E:=by
 unfold Sp6M at h;split at h
 ·exact ⟨_,_,_,_,_,_,rfl,h⟩
 ·exact h.elim
theorem PV {φ:V6}{a b d e f:V}:Sp6M φ [a,b,c,d,e,f] H Q E=φ a b c d e f H Q:=rfl
theorem To {a b d e f:V}:start N [a,b,c,d,e,f]=some a :: some b :: some c :: some d :: some e :: some f :: List.replicate (N.length-6) none:=rfl
def RK:V->List V->Hp->VK->Prop:=fun x vs H Q=>∃ (l:Addr) (ns:List Int) (k:Int),x=.ref l/\vs=[.int k]/\H l=some (.lst (ns.map V.int))/\k∈ns/\ns.length<=1000/\Q (.int (List.idxOf k ns)) H
theorem Mn:MtM X "list.index" RK:=by
 intro aq s σ H x vs v us Q I rx rv h;obtain ⟨l,ns,k,rfl,rfl,hH,hk,hz,q⟩:=h;cases rx;obtain ⟨u1,rfl,⟨t,rfl⟩⟩:=Z0 rv;obtain ⟨z,its,n,r,hl,e⟩:=I.lstM hH;have hi:IntsAre its ns:=Xh r;have hlen:=hi.length;have hj:=List.idxOf_lt_length_iff.mpr hk;refine call_meets F.slot_list_index ⟨_,e,rfl⟩ F.entry_list_index (F.args_list_index_2 _ _) (SeqAt.list_indexAt l its.toArray n none #[] (Value.int k t) (isInt k) (List.idxOf k ns) (by rw [FJ,hlen];exact hj) (by omega) ?_ ?_) ⟨e,fun y hy=>MeetsSeq.EqGives.at (eq_isInt k t hi y (by simpa using hy)) _ _,?_⟩
 ·show isInt k (its.toArray[List.idxOf k ns]'_)=true;have:=isInt_at k hi (List.idxOf k ns) (by rw [hlen];exact hj) hj;rw [List.getElem_toArray,this];simp
 ·intro j hjs hlt;have hjn:j<its.length:=by rw [FJ] at hjs;exact hjs
  have:=isInt_at k hi j hjn (by omega);show isInt k (its.toArray[j]'_)=false;rw [List.getElem_toArray,this];exact ne_of_lt_idxOf hlt (by omega)
 ·exact ⟨.int _,H,I.tok _,⟨_,rfl⟩,q⟩
def RG (K:W.Frag):List V->Hp->VK->Prop:=fun xs H Q=>∃ (p:Addr) (ns:List Int),xs=[.ref p]/\SqL K H p (ns.map V.int)/\ns.length<64/\∀ (l:Addr) (ss:List Int),H l=none->ss.Perm ns->ss.Pairwise (·<=·)->Q (.ref l) (upd H l (.lst (ss.map V.int)))
theorem Vh (K:W.Frag) {X:Cx}(hK:X.K=K):Zx X (.builtin "sorted") (RG K):=by
 subst hK;intro aq s σ H xs us Q I r h;obtain ⟨p,zs,rfl,hq,h64,q⟩:=h;obtain ⟨u,rfl,r1⟩:=Z0 r;obtain rfl:=r1.ref_of;obtain ⟨its,rv,pl,hz⟩:=I.list hq;have hlen:=rv.length;rw [Fi] at hlen hz;refine sorted_ints pl.isList (Xh rv) (by omega) fun out ss h1 h2 h3=>?_
 obtain ⟨e,he⟩:=sortedAll_at s.heap its out;refine ⟨.ref _,_,I.laid (t':=s.toks) (fun b o=>sortedAll_old) (Em _) (show ObjOk X.prog X.w _ _ _ (.lst (ss.map V.int)) from ⟨by rw [Fi,h2.length_eq];exact hz,out.toList,e,Wo h1,by rw [he]⟩),rfl,q _ _ (I.hok.fresh (Em _)) h2 h3⟩
abbrev ZG (C t:Addr) (od:Option Addr):Obj:={ cls:=.ref C,dict:=od,data:=.fields #[.ref t,.none,.none,.none,.bool false,.none] }
abbrev Z9 (h:Heap) (C:Addr) (us:List Value):Heap:=(h.push { cls:=.type "tuple",data:=.seq us.toArray }).push (ZG C h.objs.size none)
section
variable {prog:Program} {w:World} {A:Around} {E:Value->Shared->Prop} {h:Heap} {g:Array GenState} {d:Drawn} {t:Nat} {os:OsState} {nm q:Str} {C N:Addr} {bs bm bmB:List Value} {hdct:Bool} {sn:List Str} {sub:List Value} {ab:Bool} {col:Option Bool} {dd:Option Addr} {k0 k1 k2 k3 k5:Option Value} {B Bn newId nid initId inN:String} {bmN:List Value} {K:W.Frag} {f:Addr} {rest:List Value}
theorem JR (Fn:ExcBaseFacts Bn newId inN bmN) (hBn:bmB.contains (.type Bn)=true) (F:ExcBaseFacts B nid initId bmB) (T:OwnTail h bmB bm) (hC:h.get? C=some (excClassObj nm q C N bs bm hdct sn sub ab col dd k0 k1 k2 k3 k5 newId)) (KX:K.In h)
  (hi:W.findIn K (.ref C) "__init__"=some (some (.ref f))) (hf:W.typeIn K (.ref f)=some (.type "function")) (hr:rest.length<=sizeLine) {Q:PySem.Fin->Shared->Prop}
  (h0:wpAny (model prog w) A (call (.ref f) (.ref (h.objs.size+1) :: rest)) (fun r s'=>r=.none/\Q (Fin.done (Flow.ret (.ref (h.objs.size+1)))) s') E { heap:=Z9 h C rest,gens:=g,drawn:=d,toks:=t,os:=os }) :
  wpAny (model prog w) A (Builtin.«type.__call__» ⟨.ref C :: rest,[]⟩) Q E { heap:=h,gens:=g,drawn:=d,toks:=t,os:=os }:=by
 have kp:∀ b o,h.get? b=some o->(Z9 h C rest).get? b=some o:=fun b o e=>FA _ (FA _ e)
 have KX2:K.In (Z9 h C rest):=KX.keeps kp;have hC2:=kp _ _ hC;have hget:(Z9 h C rest).get? (h.objs.size+1)=some (ZG C h.objs.size none):=by
  have z:(h.push { cls:=.type "tuple",data:=.seq rest.toArray }).objs.size=h.objs.size+1:=Heap.size_push _ _;exact z ▸ FY _ rfl
 unfold Builtin.«type.__call__»;dsimp only;refine wpAny_ite_false (by rfl) (Fg ?_);unfold mroOf;refine Fg ?_;refine Fg (wpAny_load' hC (Fs (Fs ?_)));refine wpAny_ite_false (by rfl) (Fg (wpAny_madeBy_exc hC (Fg (Fs (Fg (wpAny_holding (wpAny_call ?_)))))));refine codeAny_call_builtin_code (Code.quiet_builtin _ Fn.quiet) (wpAny_check_new_subU Fn hBn T hC (codeAny_exc_new_subU Fn hBn F T hC ?_ hr));dsimp only;unfold isInstance;refine Fg (Fg ?_);unfold typeOf;dsimp only;refine Fg (wpAny_loadPart_at hget (Fs (wpAny_isSubtype_exc hC2 ?_)));rw [show (Value.ref C :: bm).contains (Value.ref C)=true by simp];refine wpAny_ite_false (by rfl) (Fg (wpAny_holding ?_));unfold callSpecial? specialOf;refine Fg (Fg ?_);unfold typeOf;dsimp only;refine Fg (wpAny_loadPart_at hget (Fs ?_));refine W.Looks.here (W.looks_findIn KX2 hi) ?_;refine wpAny_holding (Fg (W.Looks.here (W.bind_fn KX2 _ hf) ?_));dsimp only;refine Fg (FV h0 (fun r s' ⟨e,q⟩=>?_) fun _ _ z=>z);subst e;refine Fs ?_;dsimp only;refine wpAny_ite_false (by rfl) ?_;exact Fs q
theorem J2 (Fn:ExcBaseFacts Bn newId inN bmN) (hBn:bmB.contains (.type Bn)=true) (F:ExcBaseFacts B nid initId bmB) (T:OwnTail h bmB bm) (hC:h.get? C=some (excClassObj nm q C N bs bm hdct sn sub ab col dd k0 k1 k2 k3 k5 newId)) (KX:K.In h)
  (hi:W.findIn K (.ref C) "__init__"=some (some (.ref f))) (hf:W.typeIn K (.ref f)=some (.type "function")) (hr:rest.length<=sizeLine) {R:Result->Shared->Prop}
  (h0:codeAny (model prog w) (A.under (.builtin "type.__call__" ⟨.ref C :: rest,[]⟩)) (.call (.ref f) ⟨.ref (h.objs.size+1) :: rest,[]⟩) (W.InitBack (h.objs.size+1) R) { heap:=Z9 h C rest,gens:=g,drawn:=d,toks:=t,os:=os }) :
  codeAny (model prog w) A (.call (.ref C) ⟨rest,[]⟩) R { heap:=h,gens:=g,drawn:=d,toks:=t,os:=os }:=by
 have f1:=tc_lookup;have f2:=tc_bind (Value.ref C);have hT:Shared.TypeIs { heap:=h,gens:=g,drawn:=d,toks:=t,os:=os } (.ref C) "type":=⟨_,hC,rfl⟩
 refine codeAny_of_tree ?_
 change wpAny _ _ (callAny (.ref C) ⟨rest,[]⟩) _ _ _
 unfold callAny;dsimp only;refine Fg (wpAny_load' hC ?_)
 change wpAny _ _ (callAny.viaDunder (.ref C) ⟨rest,[]⟩) _ _ _
 unfold callAny.viaDunder;refine Fg (wpAny_specialOf hT f1 ?_);dsimp only;refine Fg (wpAny_of_eq f2 (Fg (Fs (wpAny_ite_true (by rfl) (Fs ⟨rfl,?_⟩)))));refine codeAny_call_builtin_at (Code.quiet_builtin _ (by kernel_rfl)) entry_typeCall (wpAny_check_type_call_sub hC ?_);refine JR Fn hBn F T hC KX hi hf hr (wpAny_call (EK h0 fun r s' z=>?_));unfold W.InitBack at z;split at z
 ·exact z
 ·exact z.elim
 ·exact z
end
def KS:List Value->Bool
 | .ref _ :: r=>KS r
 | l=>l == [.type "ValueError",.type "Exception",.type "BaseException",.type "object"]
theorem GE (self:Value):refuseLoop self "__setattr__" [.type "ValueError",.type "Exception",.type "BaseException",.type "object"]=pure ():=by kernel_rfl
theorem Ww (self:Value):∀ {l:List Value},KS l=true->refuseLoop self "__setattr__" l=pure ()
 | .ref c :: r,h=>by
  rw [refuseLoop_ref];exact Ww self h
 | [],h=>by cases h
 | .type _ :: _,h=>by rw [eq_of_beq h];exact GE self
 | .none :: _,h=>by cases eq_of_beq h
 | .ellipsis :: _,h=>by cases eq_of_beq h
 | .notImplemented :: _,h=>by cases eq_of_beq h
 | .bool _ :: _,h=>by cases eq_of_beq h
 | .int .. :: _,h=>by cases eq_of_beq h
 | .float .. :: _,h=>by cases eq_of_beq h
 | .str .. :: _,h=>by cases eq_of_beq h
 | .bytes .. :: _,h=>by cases eq_of_beq h
 | .builtin _ :: _,h=>by cases eq_of_beq h
structure WU (K:W.Frag) (C:Addr):Prop where
 sa:W.findIn K (.ref C) "__setattr__"=some (some (.builtin "object.__setattr__"))
 mO:W.mroIn K C (.type "object")=some true
 cd:∃ cd,W.clsIn K C=some cd/\KS cd.mro=true/\cd.hasDict=true
section
variable {prog:Program} {w:World} {A:Around} {E:Value->Shared->Prop} {s:Shared} {K:W.Frag} {C x t:Addr} {name:Str} {v:Value}
theorem Bo {Q:Unit->Shared->Prop}(X:K.In s.heap) (Z:WU K C) (hx:s.heap.get? x=some (ZG C t none)) (ht:W.findIn K (.ref C) name=some none)
  (h:∀ h',h'.get? x=some (ZG C t (some s.heap.objs.size))->h'.Ns1 s.heap.objs.size (fun y=>if y=name then some v else none)->(∀ b o,b≠x->s.heap.get? b=some o->h'.get? b=some o)->Q () { s with heap:=h',toks:=s.toks+2 }) :
  wpAny (model prog w) A (setAttr (.ref x) name v) Q E s:=by
 have SF:=F.store_object;obtain ⟨cd,hc,ho,hd⟩:=Z.cd;have J:W.InstAt s.heap x (ZG C t none) C none:=⟨hx,rfl,rfl,trivial⟩
 refine W.set_plain X J Z.sa ?_;have L0:W.Looks (model prog w) s.heap (typeOf (.ref x)) (.ref C):=(W.Looks.ld hx).andThen .now;have sub:W.Looks (model prog w) s.heap (isInstance (.ref x) (.type "object")) true:=L0.andThen (W.looks_mroIn X Z.mO);refine codeAny_call_builtin SF.slot.plain SF.entry (W.check_slot SF.kind SF.split sub (SF.args (.ref x) (.str name s.toks) v) ?_);rw [W.osa_eq];refine Fg ?_;unfold Builtin.ObjectAttr.refuseIfOverridden;refine Fg (L0.at (Fg ?_));have hm:W.Looks (model prog w) s.heap (mroOf (.ref C)) cd.mro:=(W.looks_clsIn X hc).andThen .now;refine hm.at ?_;refine wpAny_of_eq (t:=refuseLoop (.ref x) "__setattr__" cd.mro) (Ww _ ho) ?_;refine Fg (L0.at (Fg (W.Looks.at (W.looks_findIn X ht) (Fg (Fs ?_)))));dsimp only;unfold Builtin.ObjectAttr.storeInOwnDict;refine Fg (Fs (wpAny_ite_false (by rfl) (Fg ?_)));unfold Builtin.ObjectAttr.ownDictForStores instanceDict;dsimp only;refine Fg (wpAny_loadPart_at hx ?_);dsimp only;refine Fg (W.Looks.at (W.looks_clsIn X hc) ?_);rw [hd];refine wpAny_ite_false (by rfl) (wpAny_ite_false (by rfl) (Fg (wpAny_alloc (Fg ?_))));have hx2:(s.heap.push { cls:=Value.type "dict",data:=Data.dict #[] }).get? x=some (ZG C t none):=FA _ hx;have hd2:(s.heap.push { cls:=Value.type "dict",data:=Data.dict #[] }).get? s.heap.objs.size=some { cls:=Value.type "dict",data:=Data.dict #[] }:=FY _ rfl;have ne:x≠s.heap.objs.size:=FD (Ft hx);refine wpAny_update hx2 (Fs ?_);dsimp only;unfold Builtin.ObjectAttr.storeInDict;refine Fg (Fs (Fg ?_));have hx3:=Dq (fun o:Obj=>{ cls:=o.cls,dict:=some s.heap.objs.size,data:=o.data,slots:=o.slots }) hx2 rfl;have hd3:=ER (fun o:Obj=>{ cls:=o.cls,dict:=some s.heap.objs.size,data:=o.data,slots:=o.slots }) ne hd2;have hk3:∀ b o,b≠x->s.heap.get? b=some o->((s.heap.push { cls:=Value.type "dict",data:=Data.dict #[] }).update x fun o=>{ cls:=o.cls,dict:=some s.heap.objs.size,data:=o.data,slots:=o.slots }).get? b=some o:=fun b o hb e=>
  ER _ (Ea hb) (FA _ e)
 generalize ((s.heap.push { cls:=Value.type "dict",data:=Data.dict #[] }).update x fun o=>{ cls:=o.cls,dict:=some s.heap.objs.size,data:=o.data,slots:=o.slots })=h3 at *;have n0:h3.Ns1 s.heap.objs.size (fun _=>none):=Heap.Ns1.of_empty ⟨_,_,_,hd3,rfl,(fun e he=>absurd he (by simp)),fun _=>rfl⟩;refine wpAny_nsSet1 n0 fun h' hn2 hs2=>?_
 obtain ⟨oD,esD,epD,hoD,hdD,hcD⟩:=hn2.count (ns:=[name]) (Within.cons (ns:=[]) name v (fun _ z=>absurd rfl z));refine Fg (wpAny_lookBehind hoD (by rw [hdD];exact pastItsLine_dict (FR hcD (show 1<=sizeLine+1 by decide))) ?_);refine Fs (h _ ((hs2.2 _ ne).trans hx3) hn2 fun b o h1 h2=>(hs2.2 b (FD (Ft h2))).trans (hk3 b o h1 h2))
theorem Bp {o:Obj}{expr:Bool}{Q:Value->Shared->Prop}(X:K.In s.heap) (Z:Q6 K C) (hh:W.hasDictIn K C=true) (hx:s.heap.get? a=some o) (hc:o.cls=.ref C) (hd:o.dict=some dx) (hno:W.notCls o=true)
    (hn:s.heap.Ns1 dx mA) (ha:W.findIn K (.ref C) name=some none) (hv:mA name=some v) (hv':W.handedIn v=true) (q:Q v { s with toks:=s.toks+1 }):wpAny (model prog w) A (getAttr (.ref a) name expr) Q E s:=by
  obtain ⟨od,ho,hl⟩:=WG hn;have J:W.InstAt s.heap a o C (some od):=⟨hx,hc,hno,by rw [hd];exact ho⟩
  have L0:=W.InstAt.type (M:=model prog w) J;have L1:=W.looks_findIn (M:=model prog w) X Z.ga;have L2:=W.looks_findIn (M:=model prog w) X Z.gt;have L3:=W.looks_find (M:=model prog w) X J (W.findObj_own (v:=v) hh ha rfl (by rw [hl,hv]));have f3:=F.attr_ValueError.ga.bind (.ref a);obtain ⟨h,g,d,t,os⟩:=s;unfold getAttr getAttrBy;refine Fg (wpAny_mkText (wpAny_holding (Fg (L0.at (Fg (L1.at ?_))))));dsimp only;rw [Fh (show ¬ ((onTheHeap (Value.ref C)&&Value.builtin "BaseException.__getattribute__" == Value.builtin "object.__getattribute__")=true) by
    rw [show (Value.builtin "BaseException.__getattribute__" == Value.builtin "object.__getattribute__")=false by decide +kernel,Ef];exact FS)]
  unfold getAttrByItsOwn hookBefore;rw [Fk (show onTheHeap (Value.ref C)=true from rfl)];refine Fg (L2.at ?_);refine Fg (wpAny_attempt (wpAny_holding ?_));unfold callGetattribute;rw [Fh (show ¬ ((expr&&onTheHeap (Value.builtin "BaseException.__getattribute__"))=true) by rw [show onTheHeap (Value.builtin "BaseException.__getattribute__")=false from rfl,Ef];exact FS)];unfold boundAndCalled;rw [f3];refine Fg (Fs (wpAny_call ?_));refine codeAny_call_builtin F.attr_ValueError.ga.plain F.entry_bexc_ga (Kq Z X hx hc ?_);unfold Builtin.«object.__getattribute__»;refine Fg (Fs ?_);dsimp only;refine Fg (Fs (Fg (L0.at (Fg (L3.at ?_)))));dsimp only;refine Fs ?_;dsimp only;rw [W.handedOut_of hv'];exact Fs q
end
def F3d (od:Option Addr) (e:Addr) (h:Heap):Prop:=∃ o vs T oT ts,h.get? e=some o/\o.data=.fields vs/\vs[2]?=some .none/\vs[1]?=some (.ref T)/\T≠e/\h.get? T=some oT/\oT.data=.fields ts/\3<ts.size/\o.dict=od
theorem SN {o:Obj}{vs:Array Value}{f:Array Value->Array Value}(h:o.data=.fields vs):(Obj.mapFields f o).dict=o.dict:=by
 obtain ⟨c,d,dt,sl⟩:=o;cases h;rfl
section
variable {M:Model} {A:Around} {E:Value->Shared->Prop} {s:Shared} {e:Addr} {od:Option Addr} {Q:Unit->Shared->Prop}
theorem Yq {fr:Option Addr}(x:F3d od e s.heap) (q:∀ h',F3d od e h'->Q () { s with heap:=h' }):wpAny M A (setFlight (.ref e) fr) Q E s:=by
 obtain ⟨o,vs,T,oT,ts,h1,h2,h3,h4,h5,h6,h7,h8,h9⟩:=x;unfold setFlight;refine Fg (wpAny_field h1 h2 h4 ?_);rw [Fk (by rfl)];refine wpAny_setField h6 h7 h8 (q _ ?_);obtain ⟨m1,m2⟩:=Pb (f:=fun x_1=>x_1.setIfInBounds 3 (fr.elim Value.none fun f=>rawInt ↑f)) h7;refine ⟨o,vs,T,_,_,?_,h2,h3,h4,h5,Dq _ h6 m2,m1,by simpa using h8,h9⟩;exact ER _ h5 h1
theorem U7 {hd:Value}{b:Bool}(hf:A.frames=some (env :: outer)) (ff:s.heap.FunFrames base (env :: outer)) (hL:env.frame=some L) {o:Obj}{vs:Array Value}(h1:s.heap.get? e=some o) (h2:o.data=.fields vs) (h3:vs[2]?=some .none) (h9:o.dict=od)
  (q:∀ h',F3d od e h'->Q () { s with heap:=h' }):wpAny M A (do
    let a <-PySem.frameOf env
    let pl <-entryPlaceOf L b
    let x <-EntryCells.newEntry hd a Value.none (rawInt ↑L) Value.none pl
    setField (.ref e) 1 x) Q E s:=by
 refine Fg (wpAny_frameOf_fun hf ff hL fun h' so=>?_);obtain ⟨sl,k1⟩:=so.2.2 e o h1;refine Fg (wpAny_entryPlaceOf fun pl hp=>Fg ?_);unfold EntryCells.newEntry newFields;refine wpAny_newObj_type ?_ ?_
 ·have k2:∀ ob:Obj,(h'.push ob).get? e=some { cls:=o.cls,dict:=o.dict,data:=o.data,slots:=sl }:=fun ob=>FA _ k1
  have h12:1<vs.size:=by
   have:=(Array.getElem?_eq_some_iff.mp h3).1;omega
  refine wpAny_setField (k2 _) h2 h12 (q _ ?_);obtain ⟨m1,m2⟩:=Pb (o:={ cls:=o.cls,dict:=o.dict,data:=o.data,slots:=sl }) (f:=fun x_1=>x_1.setIfInBounds 1 (Value.ref h'.objs.size)) h2;have ne:h'.objs.size≠e:=fun z=>absurd (Ft k1) (by rw [z];exact FG _)
  refine ⟨_,_,h'.objs.size,_,_,Dq _ (k2 _) m2,m1,?_,?_,ne,ER _ ne.symm (FY _ rfl),rfl,?_,?_⟩
  ·rw [Array.getElem?_setIfInBounds_ne (by decide)];exact h3
  ·rw [Array.getElem?_setIfInBounds_self_of_lt h12]
  ·rw [FJ,Fo];show 3<5+_;omega
  ·exact (SN (o:={ cls:=o.cls,dict:=o.dict,data:=o.data,slots:=sl }) h2).trans h9
 ·show ([hd,Value.ref L,Value.none,rawInt ↑L,Value.none]++_).toArray.size<=sizeLine+2;rcases hp with rfl | ⟨_,_,_,_,_,_,_,rfl⟩
  ·show 11<=sizeLine+2
   decide
  ·show 11<=sizeLine+2
   decide
theorem MQ (hf:A.frames=some (env :: outer)) (ff:s.heap.FunFrames base (env :: outer)) (hL:env.frame=some L) {o:Obj}{vs:Array Value}(h1:s.heap.get? e=some o) (h2:o.data=.fields vs) (h3:vs[2]?=some .none) (h4:vs[1]?=some .none) (h9:o.dict=od)
  (q:∀ h',F3d od e h'->Q () { s with heap:=h' }):wpAny M A (noteFrame (.ref e) env) Q E s:=by
 unfold noteFrame;rw [hL];refine Fg (wpAny_field h1 h2 h4 ?_);exact U7 hf ff hL h1 h2 h3 h9 q
theorem U8 (hf:A.frames=some (env :: outer)) (ff:s.heap.FunFrames base (env :: outer)) (hL:env.frame=some L) (x:F3d od e s.heap)
  (q:∀ h',F3d od e h'->Q () { s with heap:=h' }):wpAny M A (noteFrame (.ref e) env) Q E s:=by
 obtain ⟨o,vs,T,oT,ts,h1,h2,h3,h4,h5,h6,h7,h8,h9⟩:=id x;unfold noteFrame;rw [hL];refine Fg (wpAny_field h1 h2 h4 ?_);dsimp only;rw [Fk (by rfl)];refine Fg (wpAny_field h6 h7 (Array.getElem?_eq_getElem h8) ?_);split
 ·exact Fs (q _ x)
 ·refine Fg (wpAny_setField h6 h7 h8 ?_);have k1:(s.heap.update T (Obj.mapFields fun x_1=>x_1.setIfInBounds 3 Value.none)).get? e=some o:=ER _ h5 h1;refine U7 (s:={ s with heap:=s.heap.update T (Obj.mapFields fun x_1=>x_1.setIfInBounds 3 Value.none) }) hf (Heap.FunFrames.of_keeps (fun b ob hb nf=>?_) ff) hL k1 h2 h3 h9 q;have ne:T≠b:=fun z=>by
   subst z;rw [h6] at hb;cases hb;exact nf _ h7
  exact ⟨ob,ER _ ne hb,rfl⟩
end
section
variable {X:Cx} {aq:List (Addr×Obj)} {σ:St} {H:Hp} {s:Shared} {od:Option Addr}
theorem Ur {E:Value->Shared->Prop}{t:Addr}{Q:Unit->Shared->Prop}(I1:Inv X aq σ H s) (ow:ZQ X) (lo:Yw X aq H e) (he:s.heap.get? e=some (ZG C t od))
  (q:∀ h'',Inv X aq σ H { s with heap:=h'' }->Air X aq H h'' (.ref C) e->F3d od e h''->Q () { s with heap:=h'' }):wpAny M X.A (leaving X.env (.ref e)) Q E s:=by
 have hex:∀ b∈[e],Yw X aq H b:=fun b hb=>by
  rw [FC.mp hb];exact lo
 have fs:=Xi (ex:=[e]) I1;have fr:=I1.ok.frames;rw [ow.2.1] at fs fr;have w1:wpAny M X.A (leaving X.env (.ref e)) (fun _ s'=>∃ h'',s'={ s with heap:=h'' }/\Inv X aq σ H { s with heap:=h'' }/\Air X aq H h'' (.ref C) e) (fun _ _=>False) s:=by
  refine wpAny_leaving_firstW (base:=YE X s.heap [e]) fr fs ow.2.2 he (Yp (s:=s)) (Wc (s:=s) (by simp)) rfl rfl rfl fun h'' L=>?_
  obtain ⟨l1,l2,l3,l4⟩:=L;rw [<-ow.2.1] at l2;exact ⟨h'',rfl,Wm I1 hex (fun b hb o z=>by
   have w:=FC.mp hb;subst w;rw [he] at z;cases z;exact ⟨_,rfl⟩) l1 l4,Ji I1 ow.1 hex (by simp) l2 l3⟩
 have w2:wpAny M X.A (leaving X.env (.ref e)) (fun _ s'=>F3d od e s'.heap) (fun _ _=>False) s:=
  Fg (MQ fr fs ow.2.2 he rfl rfl rfl rfl fun h2 x=>Yq (s:={ s with heap:=h2 }) x fun h3 y=>y)
 refine FV (cj_leaving.any w1 w2) (fun _ s' ⟨⟨h'',e1,J,a⟩,f⟩=>?_) fun _ _ z=>z.1.elim
 subst e1;exact q h'' J a f
theorem GY {E:Value->Shared->Prop}{Q:Unit->Shared->Prop}(I:Inv X aq σ H s) (ow:ZQ X) (a:Air X aq H s.heap cls e) (x:F3d od e s.heap)
  (q:∀ h'',Inv X aq σ H { s with heap:=h'' }->Air X aq H h'' cls e->F3d od e h''->Q () { s with heap:=h'' }):wpAny M X.A (leaving X.env (.ref e)) Q E s:=by
 have fs:=Xi (ex:=[]) I;have fr:=I.ok.frames;rw [ow.2.1] at fs fr;have w1:=Mp (M:=M) (E:=fun _ _=>False) (Q:=fun _ s'=>∃ h'',s'={ s with heap:=h'' }/\Inv X aq σ H { s with heap:=h'' }/\Air X aq H h'' cls e) I ow a fun h'' J a=>⟨h'',rfl,J,a⟩
 have w2:wpAny M X.A (leaving X.env (.ref e)) (fun _ s'=>F3d od e s'.heap) (fun _ _=>False) s:=
  Fg (U8 fr fs ow.2.2 x fun h2 x=>Yq (s:={ s with heap:=h2 }) x fun h3 y=>y)
 refine FV (cj_leaving.any w1 w2) (fun _ s' ⟨⟨h'',e1,J,a⟩,f⟩=>?_) fun _ _ z=>z.1.elim
 subst e1;exact q h'' J a f
end
def CXd (P:Program) (w:World):CXT:=fun outer H s E e s'=>
 ∃ ea cls od H',e=.ref ea/\s'.os=s.os/\AllBare s'.gens/\Un (frs outer) [] H H' s.heap s'.heap/\HOk P w H' s'.heap/\B1 H' s'.heap s.heap cls ea/\F3d od ea s'.heap/\E cls od H'
section
variable {X:Cx} {aq:List (Addr×Obj)} {σ:St} {H:Hp} {s s':Shared} {E:XK} {e:Value}
theorem CXd.here (I:Inv X aq σ H s) (hx:X.ex=[]) (c:CXd X.prog X.w X.stack H s E e s'):∃ ea cls od H',e=.ref ea/\Inv X aq σ H' s'/\Air X aq H' s'.heap cls ea/\F3d od ea s'.heap/\E cls od H':=by
 obtain ⟨ea,cls,od,H',h1,h2,h3,h4,h5,h6,f,q⟩:=c;have c':CXr X.prog X.w X.stack H s (fun c' n' H2=>c'=cls/\H2=H'/\e=.ref ea) e s':=⟨ea,cls,H',h1,h2,h3,h4,h5,h6,rfl,rfl,h1⟩
 obtain ⟨ea',cls',H2,e1,I2,a,rfl,rfl,e2⟩:=CXr.here I hx c';rw [e1] at e2;cases e2;exact ⟨_,_,_,_,e1,I2,a,f,q⟩
end
def Gp (X:Cx) (E:XK):Prop:=∀ (aq:List (Addr×Obj)) (σ:St) (H:Hp) (s:Shared) (e C t:Addr) (od:Option Addr),Inv X aq σ H s->Yw X aq H e->s.heap.get? e=some (ZG C t od)->E (.ref C) od H->X.xe (.ref e) s
section
variable {P:Program} {w:World} {K:W.Frag} {mg:Str->Option Value} {base:Heap} {N:List Str} {qual:Str} {sc:Scope} {f:Addr} {cd:Value} {A:Around} {outer:List Env} {s0:Shared} {H0:Hp} {E:XK}
theorem MY (I:Inv (Wh (CXd P w) P w K mg base N qual sc f cd A outer s0 H0 E) aq σ H s) (a:Air (Wh (CXd P w) P w K mg base N qual sc f cd A outer s0 H0 E) aq H s.heap cls e) (x:F3d od e s.heap) (q:E cls od H):CXd P w outer H0 s0 E (.ref e) s:=by
 obtain ⟨oe,vs,T,oT,ts,a0,h1,h2,h3,h4,h6,h7,h8,h9,l1,l2⟩:=a;exact ⟨e,cls,od,H,rfl,I.os,I.bare,I.base,I.hok,⟨oe,vs,T,oT,ts,a0,h1,h2,h3,h4,h6,h7,h8,h9,⟨l1.1,l1.2.1⟩,⟨l2.1,l2.2.1⟩⟩,x,q⟩
theorem BP {E':XK}(hE:∀ cls od H,E' cls od H->E cls od H):XX (CXd P w) (Wh (CXd P w) P w K mg base N qual sc f cd A outer s0 H0 E) E':=by
 intro aq σ H s e s' I c;obtain ⟨ea,cls,od,H',rfl,I',a,x,q⟩:=CXd.here I rfl c;exact GY I' Ma a x fun h'' I2 a2 x2=>MY I2 a2 x2 (hE _ _ _ q)
theorem V3:Gp (Wh (CXd P w) P w K mg base N qual sc f cd A outer s0 H0 E) E:=fun _ _ _ _ _ _ _ _ I lo he q=>Ur I Ma lo he fun _ I2 a2 x2=>MY I2 a2 x2 q
end
def Xx (e C:Addr) (od:Option Addr) (h:Heap):Prop:=∃ t,h.get? e=some (ZG C t od)
def XD (d:Addr) (fs:List (Str×V)) (h:Heap):Prop:=∃ mA,h.Ns1 d mA/\(∀ f,RelO (fs.lookup f) (mA f))/\PySem.Within mA (fs.map (·.1))
def ExcD (e:Addr) (cls:Value) (od:Option Addr) (h:Heap):Prop:=∃ o vs,h.get? e=some o/\o.cls=cls/\o.data=.fields vs/\vs[2]?=some .none/\o.dict=od
def WJ (H:Hp) (a:Addr):Hp:=fun b=>if b=a then none else H b
theorem Kr:WJ H a a=none:=by unfold WJ;rw [Fk rfl]
theorem Xr {b:Addr}(h:b≠a):WJ H a b=H b:=by unfold WJ;rw [Fh h]
theorem Gb (x:Xx e C od h):ObjOk P w H h e (.ext (Xx e C od)):=by
 obtain ⟨t,hx⟩:=id x;exact ⟨x,⟨_,hx⟩,fun h1 h2 ⟨t,y⟩ k=>⟨t,k _ y⟩⟩
theorem BE {fs:List (Str×V)}(x:XD d fs h):ObjOk P w H h d (.ext (XD d fs)):=by
 obtain ⟨mA,⟨o,es,ep,e,r⟩,_⟩:=id x;exact ⟨x,⟨o,e⟩,fun h1 h2 ⟨m,⟨o,es,ep,e,r⟩,z⟩ k=>⟨m,⟨o,es,ep,k _ e,r⟩,z⟩⟩
theorem XU {φ:Heap->Prop}(x:HOk P w H h) (e:H a=some (.ext φ)):φ h:=(show ObjOk P w H h a (.ext φ) from x a _ e).1
section
variable {X:Cx} {aq:List (Addr×Obj)} {σ:St} {H:Hp} {s:Shared} {e C d:Addr} {od:Option Addr}
theorem Inv.untrack {φ:Heap->Prop}(I:Inv X aq σ H s) (he:H e=some (.ext φ)) (h0:X.s₀.heap.get? e=none):Inv X aq σ (WJ H e) s:=by
 have fr:∀ b,H b=none->WJ H e b=none:=fun b z=>by
  unfold WJ;split
  ·rfl
  ·exact z
 have ne:∀ b u,H b=some u->(∀ φ,u≠.ext φ)->WJ H e b=some u:=fun b u z n=>by
  rw [Xr (fun q=>by subst q;rw [he] at z;cases z;exact n _ rfl)];exact z
 refine ⟨I.ok,I.os,I.bare,⟨I.base.keep,I.base.slot,fun b o q n hx=>fr _ (I.base.free b o q n hx),I.base.there,fun b xs q=>ne _ _ (I.base.tups b xs q) (fun _ z=>nomatch z),fun b o u q=>ne _ _ (I.base.frzs b o u q) (fun _ z=>nomatch z),fun b ps q=>?_⟩,I.loc,I.cell,fr _ I.free,fun x c q=>fr _ (I.freeC x c q),fun p hp=>?_,fun b u q=>?_,I.len⟩
 ·obtain ⟨m,z⟩:=I.base.tbls b ps q;exact ⟨m,ne _ _ z (fun _ z=>nomatch z)⟩
 ·obtain ⟨a1,a2,a3⟩:=I.pin p hp;exact ⟨a1,fr _ a2,a3⟩
 ·have hb:b≠e:=fun z=>by subst z;rw [Kr] at q;cases q
  rw [Xr hb] at q;exact (I.hok b u q).stay (fun _ _ _ q=>q) (fun c q=>ne _ _ q (fun _ z=>nomatch z)) fun c xs q=>ne _ _ q (fun _ z=>nomatch z)
end
def UN (K:W.Frag) (ta tv:TE) (f:Str):TS:=fun D σ H=>tv σ H fun v H1=>ta σ H1 fun x H2=>∃ e C,x=.ref e/\H2 e=some (.ext (Xx e C none))/\WU K C/\NoAttr K C f /\
 ∀ d,H2 d=none->d≠e->D.nx σ (upd (upd H2 e (.ext (Xx e C (some d)))) d (.ext (XD d [(f,v)])))
section
variable {X:Cx} {o value:Expr} {ta tv:TE} {f:Str} {pos pos':Pos}
theorem KM (K:W.Frag) (hK:X.K=K) (ha:PE X o ta) (hv:PE X value tv) (hs:swapsWith value (some (.Attribute o f pos')) pos.line X.env=pure false:=by rfl):PS X (.Assign [.Attribute o f pos'] value pos) (UN K ta tv f):=by
 subst hK;intro aq s σ H D I h;refine Dw (thn (hv aq s σ H _ I h) fun u s1 ⟨y,H1,I1,ry,q⟩=>thn (ha aq s1 σ H1 _ I1 q) fun ov s2 ⟨x,H2,I2,rx,e,C,ex,he,Z,n,q2⟩=>?_) hs;subst ex;obtain rfl:ov=Value.ref e:=rx;obtain ⟨t,hx⟩:=XU I2.hok he;have hlt:=Ft hx;refine Bo I2.kIn Z hx n fun h' k1 k2 k3=>?_
 have hd:H2 s2.heap.objs.size=none:=I2.hok.fresh (Fl _);have ne:s2.heap.objs.size≠e:=(FD hlt).symm;have I3:Inv X aq σ (upd H2 e (.ext (Xx e C (some s2.heap.objs.size)))) { s2 with heap:=h',toks:=s2.toks+2 }:=
  I2.write (t':=s2.toks+2) (by rw [he];exact trivial) (.inl rfl) (fun b u hb e=>k3 b u hb e) ⟨_,k1⟩ (Gb ⟨t,k1⟩)
 refine ⟨σ,_,I3.track (o:=.ext (XD s2.heap.objs.size [(f,y)])) I2.sz (by rw [Qj ne];exact hd) (Dv I2.lt) (fun y c e z=>?_) (fun p hp z=>?_) (BE ⟨_,k2,fun g=>?_,fun g hg=>?_⟩),q2 _ hd ne⟩
 ·obtain ⟨v,q⟩:=I2.cell y c e;exact FG _ (z ▸ q.lt)
 ·exact FG _ (z ▸ Ft (I2.pin p hp).1)
 ·show RelO (List.lookup g [(f,y)]) (if g=f then some u else none);by_cases hg:g=f
  ·rw [Fk hg];have hb:(g == f)=true:=beq_iff_eq.mpr hg;simp only [List.lookup,hb];exact ry
  ·rw [Fh hg];have hb:(g == f)=false:=beq_eq_false_iff_ne.mpr hg;simp only [List.lookup,hb];exact trivial
 ·show g∈[f];have hg:(if g=f then some u else none)≠none:=hg;by_cases hh:g=f
  ·rw [hh];exact FC.mpr rfl
  ·rw [Fh hh] at hg;exact absurd rfl hg
end
def Sm (K:W.Frag) (ta:TE) (f:Str):TE:=fun σ H Q=>ta σ H fun x H1=>∃ a C d fs v,x=.ref a/\H1 a=some (.ext (ExcD a (.ref C) (some d)))/\H1 d=some (.ext (XD d fs))/\Q6 K C/\WU K C/\NoAttr K C f/\fs.lookup f=some v/\Q v H1
theorem Y5 (K:W.Frag) {X:Cx}{e:Expr}{ta:TE}{f:Str}{pos:Pos}(hK:X.K=K) (he:PE X e ta) (hb:attributeBase e f X.env (eval e X.env)=eval e X.env:=by rfl):PE X (.Attribute e f pos) (Sm K ta f):=by
 subst hK;intro aq s σ H Q I h;refine Gn hb (thn (he aq s σ H _ I h) fun u s1 ⟨x,H1,I1,rx,a,C,d,fs,v,ex,ea,ed,Z,Y,n,l,q⟩=>?_);subst ex;obtain rfl:u=Value.ref a:=rx;obtain ⟨o,vs,k1,k2,k3,_,k4⟩:=XU I1.hok ea;obtain ⟨mA,m1,m2,_⟩:=XU I1.hok ed;obtain ⟨u,hu,ru⟩:=RelO.some_of (show RelO (some v) (mA f) by rw [<-l];exact m2 f);obtain ⟨cd,hc,_,hd⟩:=Y.cd;refine Bp I1.kIn Z (by unfold W.hasDictIn;rw [hc];exact hd) k1 k2 k4 (by obtain ⟨c,dd,dt,sl⟩:=o;cases k3;rfl) m1 n hu (Km ru) ⟨v,H1,I1.tok _,ru,q⟩
def WI (K:W.Frag) (C:Addr):Bool:=
 match K.lookup C with
 | some ⟨.type "type",_,.cls cd,sl⟩=>
  match cd.mro,sl.toList with
  | .ref C' :: bm,[_,_,_,_,some (.builtin n),_]=>C' == C&&n == "ValueError.__new__"&&!cd.hasDel&&W.tailIn K PH bm
  | _,_=>false
 | _=>false
structure MkX (K:W.Frag) (C f:Addr):Prop where
 makes:WI K C=true
 init:W.findIn K (.ref C) "__init__"=some (some (.ref f))
 fn:W.isFn K (.ref f)=true
 kp:W.keepIn K (.ref C)=true
structure Lb (P:Program) (w:World) (K:W.Frag) (mg:Str->Option Value) (base:Heap) (k:Nat) (C:Addr) (ps:List Str) (sp:Sp):Prop where
 ex:∃ (f:Addr) (fd:FuncData),FnOk P w K mg base CX0 k f fd ps sp/\Binds K fd ps []/\MkX K C f
theorem Ue {E:Value->Shared->Prop}{q:Str}{N:Addr}{bs bm:List Value}{hdct:Bool}{sn:List Str}{sub:List Value}{ab:Bool}{col:Option Bool}{dd:Option Addr}{k0 k1 k2 k3 k5:Option Value}{newId:String}{x:Sem Value}{Q:Flow->Shared->Prop} 
  (hbase:bm.contains (.type "BaseException")=true) (hh:A.handled=none)
  (h:wpAny M A x (fun v s₁=>∃ e t od,v=.ref e/\s₁.heap.get? C=some (excClassObj nm q C N bs bm hdct sn sub ab col dd k0 k1 k2 k3 k5 newId)/\s₁.heap.get? e=some (ZG C t od)/\E (.ref e) s₁) E s):wpAny M A (raiseStmt env (some x) none) Q E s:=by
 have hcB:(Value.ref C :: bm).contains (.type "BaseException")=true:=by rw [List.contains_cons,hbase,Bool.or_true]
 unfold raiseStmt;dsimp only;refine Fg (FV h (fun v s₁ ⟨e,t,od,ev,hC,he,hE⟩=>?_) fun _ _ z=>z);subst ev;obtain ⟨hp,g,d,tk,os⟩:=s₁;refine Fg (Fs (Fg (wpAny_holding ?_)));unfold excFromValue isExcClass isType loadHead;dsimp only;refine Fg (Fg (Fg (wpAny_loadPart_at he (Fs (wpAny_ite_false (by rfl) (Fs (wpAny_ite_false (by rfl) (Fg ?_))))))));unfold isInstance typeOf;dsimp only;refine Fg (Fg (wpAny_loadPart_at he (Fs (wpAny_isSubtype_exc hC ?_))));rw [hcB];refine wpAny_ite_true (by rfl) (Fs ?_);refine Fg (Fg (wpAny_loadPart_at he (Fs (wpAny_ite_false (by rfl) (Fg ?_)))));unfold raisedInstance typeOf;dsimp only;refine Fg (Fg (wpAny_loadPart_at he (Fs (Fg (Fg (wpAny_loadPart_at hC (Fs (wpAny_ite_true (by rfl) (Fs (Fg ?_))))))))));unfold setFlight;refine Fg (wpAny_field he rfl rfl (wpAny_ite_false (by rfl) (Fs ?_)));exact wpAny_raiseNew_none hh hE
def UI (E:XK) (C:Addr) (sp:Sp) (t:TA):TS:=fun _ σ H=>t σ H fun vs H1=>vs.length<=sizeLine/\∀ x,H1 x=none->sp (.ref x :: vs) (upd H1 x (.ext (Xx x C none))) (fun v H2=>v=.non/\∃ od,H2 x=some (.ext (Xx x C od))/\E (.ref C) od (WJ H2 x)) E0
section
variable {X:Cx} {E:XK} {x:Str} {C:Addr} {k:Nat} {ps:List Str} {sp:Sp} {np cpos pos:Pos} {e₀:Expr} {rest:List Expr} {t:TA}
theorem Wy (th:Gp X E) (hx0:X.ex=[]) (hc:X.calm=true) (G:Lb X.prog X.w X.K X.mg X.base k C ps sp) (hr:Room (k+1) X.A) (hg:Gl X x) (hm:X.mg x=some (.ref C)) (ha:PA X (e₀ :: rest) t)
  (he:starEach (e₀ :: rest) X.env=(false,eval e₀ X.env) :: starEach rest X.env:=by rfl) (hpl:(backTo cpos (starEach rest X.env)).any (·.1)=false:=by rfl) (hd:(x == ("__debug__":Str))=false:=by decide) :
  PS X (.Raise (some (.Call (.Name x np) (e₀ :: rest) [] cpos)) none pos) (UI E C sp t):=by
 intro aq s σ H D I h;obtain ⟨f,fd,F,b,M⟩:=G.ex;have q:=M.makes;unfold WI at q;split at q
 ·rename_i dd cdt sl ho;split at q
  ·rename_i C' bm k0 k1 k2 k3 n k5 hmr hs;simp only [Eb,beq_iff_eq,E3] at q;obtain ⟨⟨⟨rfl,rfl⟩,hdel⟩,ht⟩:=q;obtain ⟨nm,bs,mro,ns,qn,hdd,sn,sub,ab,col,del⟩:=cdt;dsimp only at hmr hdel;subst hmr hdel;have hsl:sl=#[k0,k1,k2,k3,some (.builtin "ValueError.__new__"),k5]:=by
    obtain ⟨l⟩:=sl;simp only at hs;rw [hs]
   subst hsl;have FB:=PySem.F.excBase_ValueError;have T0:OwnTail s.heap PH bm:=W.tail_of_in I.kIn ht;rw [arm_exec_Raise];refine Fg (wpAny_standAt (Ue (nm:=nm) (q:=qn) (C:=C') (N:=ns) (bs:=bs) (bm:=bm) (hdct:=hdd) (sn:=sn) (sub:=sub) (ab:=ab) (col:=col) (dd:=dd) (k0:=k0) (k1:=k1) (k2:=k2) (k3:=k3) (k5:=k5) (newId:="ValueError.__new__") (T0.hasType FB.hasBase) (I.ok.hd hc) (Fg (FV (Q:=fun v s₁=>∃ e t od,v=.ref e/\s₁.heap.get? C'=some (excClassObj nm qn C' ns bs bm hdd sn sub ab col dd k0 k1 k2 k3 k5 "ValueError.__new__")/\s₁.heap.get? e=some (ZG C' t od)/\X.xe (.ref e) s₁) ?_ (fun v s' h=>Fg (wpAny_standAt (Fs h))) fun _ _ z=>z))));refine EY (XT I hg hm ?_ hd);refine W.callWith_K (h₀:=X.base) I.ok.mod.kin M.kp (thn (ha cpos aq s σ H _ I h) fun us s1 ⟨vs,H1,I1,r,hz,q⟩=>⟨I1.kIn,?_⟩) he hpl;have T1:OwnTail s1.heap PH bm:=W.tail_of_in I1.kIn ht;have hx1:H1 (s1.heap.objs.size+1)=none:=I1.hok.fresh (Em _);have q1:=q _ hx1;have kp:∀ b o,s1.heap.get? b=some o->(Z9 s1.heap C' us).get? b=some o:=fun b o e=>FA _ (FA _ e)
   have hget:(Z9 s1.heap C' us).get? (s1.heap.objs.size+1)=some (ZG C' s1.heap.objs.size none):=by
    have z:(s1.heap.push { cls:=.type "tuple",data:=.seq us.toArray }).objs.size=s1.heap.objs.size+1:=Heap.size_push _ _;exact z ▸ FY _ rfl
   have I2:Inv X aq σ (upd H1 (s1.heap.objs.size+1) (.ext (Xx (s1.heap.objs.size+1) C' none))) { s1 with heap:=Z9 s1.heap C' us }:=I1.laid (t':=s1.toks) kp (Em _) (Gb ⟨_,hget⟩);have r2:Vals (V.ref (s1.heap.objs.size+1) :: vs) (Value.ref (s1.heap.objs.size+1) :: us):=.cons rfl r;have hl:(Value.ref (s1.heap.objs.size+1) :: us++[]).length=ps.length:=by
    rw [Ed];have e:=r2.length;rw [F.len _ _ _ _ q1] at e;exact e.symm
   have hb1:=b { s1 with heap:=Z9 s1.heap C' us } (Value.ref (s1.heap.objs.size+1) :: us) I2.kIn hl;rw [Ed] at hb1;obtain ⟨hp1,g1,d1,t1,os1⟩:=s1;refine wpAny_call (J2 FB (by decide +kernel) FB T1 (I1.kIn _ _ ho) I1.kIn M.init (beq_iff_eq.mp M.fn) (show us.length<=sizeLine by rw [<-r.length];exact hz) ?_);refine EK (F.run _ X.stack _ _ ⟨Value.ref (hp1.objs.size+1) :: us,[]⟩ (Value.ref (hp1.objs.size+1) :: us) _ _ E0 (hr.make C' us []) (I2.env0.make C' us []) hb1 r2 q1) fun r s' hq'=>?_
   cases r with
   | error e=>exact False.elim hq'
   | ok fl=>
    cases fl with
    | ret u=>
     obtain ⟨v,H',I3,rv,ev,od,hod,q3⟩:=I2.after hq';subst ev;obtain ⟨tt,hob⟩:=XU I3.hok hod;have new:X.s₀.heap.get? (hp1.objs.size+1)=none:=by
      cases q:X.s₀.heap.get? (hp1.objs.size+1) with
      | none=>rfl
      | some o=>
       have z1:=Ft q;have z2:X.s₀.heap.objs.size<=hp1.objs.size:=I1.sz;exact absurd (FL z1 z2) (Dr.mpr (Em _))
     have I4:=I3.untrack hod new;refine ⟨rv,hp1.objs.size+1,tt,od,rfl,I3.kIn _ _ ho,hob,th aq σ _ s' _ _ tt od I4 ⟨Kr,new,fun p hp z=>?_⟩ hob q3⟩;have z3:=Ft (I1.pin p hp).1;have z4:p.1<hp1.objs.size:=z3;exact absurd z4 (Dr.mpr (by rw [z];exact Em _))
    | next=>exact False.elim hq'
    | brk=>exact False.elim hq'
    | cont=>exact False.elim hq'
  ·cases q
 ·cases q
end
end L2
namespace L2
open PySem PySem.Spec PyProof.Rows PySem.W Builtin Builtin.ObjectAttr Builtin.Getset_descriptor
structure Nn (P:Program) (w:World) (K:W.Frag) (mg:Str->Option Value) (base:Heap) (k:Nat) (name:Str) (ps:List Str) (sp:Sp):Prop where
 ex:∃ (f:Addr) (fd:FuncData),FnOk P w K mg base (CXd P w) k f fd ps sp/\Binds K fd ps []/\W.keepIn K (.ref f)=true/\mg name=some (.ref f)
def XPd (X:Cx) (aq:List (Addr×Obj)) (σ:St) (E:XK) (ev:Value) (s':Shared):Prop:=∃ ea cls od H',ev=.ref ea/\Inv X aq σ H' s'/\Air X aq H' s'.heap cls ea/\F3d od ea s'.heap/\E cls od H'
def PD (X:Cx) (e:Expr) (t:TX):Prop:=
 ∀ (aq:List (Addr×Obj)) (s:Shared) (σ:St) (H:Hp) (Q:VK) (E:XK),Inv X aq σ H s->t σ H Q E->wpAny (model X.prog X.w) X.A (eval e X.env) (EP X aq σ Q) (XPd X aq σ E) s
def PSD (X:Cx) (sts:List Stmt) (t:QU->XK->St->Hp->Prop):Prop:=
 ∀ (aq:List (Addr×Obj)) (s:Shared) (σ:St) (H:Hp) (D:QU) (E:XK),Inv X aq σ H s->t D E σ H->wpAny (model X.prog X.w) X.A (execs sts X.env) (SP X aq D) (XPd X aq σ E) s
section
variable {X:Cx} {k:Nat} {C:Addr} {m:Str} {ps:List Str} {sp:Sp} {x name:Str} {p pos apos:Pos} {o e:Expr} {es:List Expr} {t:TA} {ta:TE} {E:XK}
theorem UT (C:Nn X.prog X.w X.K X.mg X.base k name ps sp) (hr:Room k X.A) (hg:Gl X name) (hx:XX (CXd X.prog X.w) X E) (ha:PA X (e :: es) t) (hdb:(name == ("__debug__":Str))=false:=by decide)
  (he:starEach (e :: es) X.env=(false,eval e X.env) :: starEach es X.env:=by rfl) (hpl:(backTo pos (starEach es X.env)).any (·.1)=false:=by rfl) :
  PE X (.Call (.Name name p) (e :: es) [] pos) (Vw sp [] E t):=by
 obtain ⟨f,fd,F,b,kp,m⟩:=C.ex;exact US F hr hg m kp b .nil hx ha hdb he hpl
theorem LH (C:Nn X.prog X.w X.K X.mg X.base k name ps sp) (hr:Room k X.A) (hx0:X.ex=[]) (hg:Gl X name) (ha:PA X.nox (e :: es) t)
  (hdb:(name == ("__debug__":Str))=false:=by decide) (he:starEach (e :: es) X.env=(false,eval e X.env) :: starEach es X.env:=by rfl) (hpl:(backTo pos (starEach es X.env)).any (·.1)=false:=by rfl) :
  PD X (.Call (.Name name p) (e :: es) [] pos) (NA sp t):=by
 obtain ⟨f,fd,F,hb,hk,hm⟩:=C.ex;intro aq s σ H Q E I h;refine EY (XT I hg hm ?_ hdb);refine W.callWith_K (h₀:=X.base) I.ok.mod.kin hk (FV (ha pos aq s σ H _ (I.wish _) h) (fun us s1 ⟨vs,H1,I1,r,q⟩=>⟨I1.kIn,?_⟩) fun _ _ z=>False.elim z) he hpl;have I1:=I1.unwish;have hl:(us++[]).length=ps.length:=by rw [Ed,<-r.length];exact F.len _ _ _ _ q
 have hb1:=hb s1 us I1.kIn hl;rw [Ed] at hb1;refine wpAny_call (EK (F.run X.A X.stack s1 H1 ⟨us,[]⟩ us vs Q E hr I1.env0 hb1 r q) fun r s' hq=>?_);cases r with
 | error e=>exact CXd.here I1 hx0 hq
 | ok fl=>
  cases fl with
  | ret u=>exact I1.after hq
  | next=>exact False.elim hq
  | brk=>exact False.elim hq
  | cont=>exact False.elim hq
variable {tx:TX}
theorem LI {pos':Pos}(hN:X.N.Nodup) (hi:X.N[i]?=some y) (hx:Loc X.env.scope y) (he:PD X e tx) (hs:swapsWith e (some (.Name y pos')) pos.line X.env=pure false:=by rfl) (hf:X.fn y=true∨X.env.scope.names.lookup y=some .local:=by first | exact .inl rfl | exact .inr rfl | assumption) :
  PSD X [.Assign [.Name y pos'] e pos] (sxA i tx):=by
 intro aq s σ H D E I h;refine wpAny_execs_cons (wpAny_Assign_Name (thn (he aq s σ H _ E I h) fun v s1 ⟨x,H1,I1,r1,q1⟩=>?_) hs);exact Xz I1 hN hi hx r1 (fun s2 I2=>E6 ⟨_,H1,I2,q1⟩) hf
end
section
variable {P:Program} {w:World} {K:W.Frag} {mg:Str->Option Value} {base:Heap}
theorem Fun.okD {k:Nat}{sp:Sp}(F:Fun K x qual st f fd) (S:Qo N ps (Qh st)) (len:∀ vs H Q E,sp vs H Q E->vs.length=ps.length)
  (hbody:∀ (cdv:Value) (A:Around) (outer:List Env) (s:Shared) (H:Hp) (vs:List V) (Q:VK) (E:XK),Room k (A.deeper (envOfC qual (Qh st) s.heap.objs.size f cdv))->sp vs H Q E ->
   ∃ t,PSs (Wh (CXd P w) P w K mg base N qual (Qh st) f cdv A outer s H E) (QO st) t/\t { nx:=fun _ H'=>Q .non H',rt:=Q } (start N vs) H):FnOk P w K mg base (CXd P w) (k+1) f fd ps sp:=by
 obtain ⟨oc,od,kV,doc,pm,an,cdv,ct,osl,rfl,lk,hcd⟩:=F.ex;exact MO lk hcd S len fun A outer s H vs Q E hr hsp=>hbody cdv A outer s H vs Q E hr hsp
end
abbrev Kept:=Addr->Value->Option Addr->Heap->Prop
structure JO (Ψ:Kept):Prop where
 of:∀ e cls od h,ExcD e cls od h->Ψ e cls od h
 fr:∀ e cls od (h1 h2:Heap),Ψ e cls od h1->(∀ o,h1.get? e=some o->h2.get? e=some o)->Ψ e cls od h2
abbrev KD:Kept:=ExcD
theorem Us:JO KD:=⟨fun e cls od h z=>z,fun e cls od h1 h2 ⟨o,vs,y1,y⟩ k=>⟨o,vs,k o y1,y⟩⟩
section
variable {X:Cx} {body suite:List Stmt} {b₀:Stmt} {x n:Str} {C:Addr} {np hp pos:Pos} {tb:QU->XK->St->Hp->Prop} {ts:Addr->TS}
theorem K3 {E:Value->Shared->Prop}{Q:Unit->Shared->Prop}(I:Inv X aq σ H s) (ow:ZQ X) (a:Air X aq H s.heap cls ea) (f3:F3d od ea s.heap)
  (q:∀ h',Inv X aq σ H { s with heap:=h' }->Air X aq H h' cls ea->F3d od ea h'->Q () { s with heap:=h' }):wpAny M A (setFlight (.ref ea) none) Q E s:=by
 have w1:=VO (M:=M) (A:=A) (E:=fun _ _=>False) (Q:=fun _ s'=>∃ h',s'={ s with heap:=h' }/\Inv X aq σ H { s with heap:=h' }/\Air X aq H h' cls ea) I ow a fun h' J b=>⟨h',rfl,J,b⟩
 have w2:wpAny M A (setFlight (.ref ea) none) (fun _ s'=>F3d od ea s'.heap) (fun _ _=>False) s:=Yq f3 fun h2 x=>x
 refine FV (cj_setFlight.any w1 w2) (fun _ s' ⟨⟨h5,e5,J,b⟩,f5⟩=>?_) fun _ _ z=>z.1.elim
 subst e5;exact q h5 J b f5
end
theorem Jj {sp:Sp}{t:TA}{D:QU}:UI E C sp t D σ H=t σ H fun vs H1=>vs.length<=sizeLine/\∀ x,H1 x=none->sp (.ref x :: vs) (upd H1 x (.ext (Xx x C none))) (fun v H2=>v=.non/\∃ od,H2 x=some (.ext (Xx x C od))/\E (.ref C) od (WJ H2 x)) E0:=rfl
end L2
variable {Ψ:L2.Kept}
namespace L2
open PySem PySem.Spec PyProof.Rows
def Np (K:W.Frag) (C:Addr):Bool:=match W.clsIn K C with
 | some cd=>KS cd.mro&&cd.hasDict
 | none=>false
theorem xcls_of (sa:W.findIn K (.ref C) "__setattr__"=some (some (.builtin "object.__setattr__"))) (mO:W.mroIn K C (.type "object")=some true) (h:Np K C=true):WU K C:=by
 refine ⟨sa,mO,?_⟩;unfold Np at h;split at h
 ·rename_i cd e;rw [Eb] at h;exact ⟨cd,e,h.1,h.2⟩
 ·cases h
theorem Ki {S:Setting}{o:Obj}(l:K.lookup a=some o) {e k}:W.peek K S (Sem.load a e k:Sem α)=W.peek K S (k o):=by
 simp only [W.peek];rw [l]
end L2
namespace L2
open PySem PySem.Spec PyProof.Rows PySem.W Builtin Builtin.ObjectAttr Builtin.Getset_descriptor
def BC (H:Hp) (ea:Addr):Prop:=∃ φ,H ea=some (.ext φ)/\∀ h,φ h->F2 ea h
theorem MC (h:H e=some (.ext (ExcD e cls od))):BC H e:=⟨_,h,fun _ ⟨o,vs,k1,_,k2,k3,_⟩=>⟨o,vs,k1,k2,k3⟩⟩
def La (K:W.Frag) (ea a:Addr):It:=
 ⟨(Itl K a).go,(Itl K a).yld,fun i H=>(∃ xs,SqL K H a xs/\xs.length<=i)/\BC H ea⟩
structure Hh (P:Program) (w:World) (K:W.Frag) (ea:Addr) (tg:Expr) (J:It) (fp:List Addr) (it:Addr) (tn:Nat->Heap->Prop):Prop where
 mem:it∈fp
 obj:∀ i h,tn i h->∀ b∈fp,∃ o,h.get? b=some o/\∀ v,o.data≠.cell v
 keep:∀ i h h',tn i h->(∀ b∈fp,∀ o,h.get? b=some o->h'.get? b=some o)->tn i h'
 item:∀ (X:Cx),X.prog=P->X.w=w->X.K=K->X.A.handled=some (.ref ea)->∀ (i:Nat) (aq:List (Addr×Obj)) (s:Shared) (σ:St) (H:Hp) (E:Value->Shared->Prop),Inv X aq σ H s->(∀ b∈fp,Xw X aq H b)->tn i s.heap->J.go i H ->
  wpAny (model P w) X.A (pyNext (.ref it)) (fun r s1=>∃ u,r=some u /\
   wpAny (model P w) X.A (letOwnedTupleGo tg (.ref it) u) (fun _ s2=>∃ x H',Inv X aq σ H' s2/\RelV x u/\J.yld i H x H'/\tn (i+1) s2.heap/\∀ b∈fp,H' b=none) E s1) E s
 done:∀ (X:Cx),X.prog=P->X.w=w->X.K=K->X.A.handled=some (.ref ea)->∀ (i:Nat) (aq:List (Addr×Obj)) (s:Shared) (σ:St) (H:Hp) (E:Value->Shared->Prop),Inv X aq σ H s->(∀ b∈fp,Xw X aq H b)->tn i s.heap->J.stop i H ->
  wpAny (model P w) X.A (pyNext (.ref it)) (fun r s1=>r=none/\Inv X aq σ H s1) E s
 self:∀ (A:Around) (i:Nat) (s:Shared) (Q:Value->Shared->Prop) (E:Value->Shared->Prop),tn i s.heap->Q (.ref it) s->wpAny (model P w) A (pyIter (.ref it)) Q E s
theorem V2 (a it:Addr):Hh P w K ea tg (La K ea a) [it] it (fun i h=>h.IsListIter it a i) where
 mem:=by simp
 obj:=fun i h st b hb=>by
  have e:b=it:=by simpa using hb
  subst e;obtain ⟨o,e,c,d⟩:=st;exact ⟨o,e,fun v z=>by rw [d] at z;cases z⟩
 keep:=fun i h h' st k=>st.at fun o e=>k it (by simp) o e
 item:=by
  intro X hP hw hK hc i aq s σ H E I hf st hg;subst hP hw hK;obtain ⟨xs,x,hq,hx⟩:=hg;obtain ⟨its,rv,p,hz⟩:=I.list hq;obtain ⟨u,hu,ru⟩:=rv.get hx;obtain ⟨f0,f1,f2,f3,f4,f5⟩:=hf it (by simp);refine wpAny_pyNext_list_item st p.isList (x:=u) (by simpa using hu) fun h' st' sb=>?_
  have I1:Inv X aq σ H { s with heap:=h' }:=I.turned (t':=s.toks) (fun b o hb e=>(sb.2 b hb).trans e) f0 f1 f3 f4 f5;obtain ⟨o,e,c,d⟩:=id st';exact ⟨u,rfl,U0 (s:={ s with heap:=h' }) e c d (by decide) ⟨x,H,I1,ru,⟨rfl,fun ys hy=>by rw [I.list_inj hy hq];exact hx⟩,st',fun b hb=>(hf b hb).1⟩⟩
 done:=by
  intro X hP hw hK hc i aq s σ H E I hf st hg;subst hP hw hK;obtain ⟨⟨xs,hq,hx⟩,φ,he,hφ⟩:=hg;have fx:F2 ea s.heap:=hφ _ (XU I.hok he);obtain ⟨its,rv,p,hz⟩:=I.list hq;obtain ⟨f0,f1,f2,f3,f4,f5⟩:=hf it (by simp);have hl:=rv.length;exact ZI hc fx (fun z=>by rw [z,f0] at he;cases he) st p.isList (by simp;omega) fun h' eb=>⟨rfl,I.turned (t':=s.toks) (fun b o hb e=>eb b o hb e) f0 f1 f3 f4 f5⟩
 self:=fun _ _ _ _ _ st h=>wpAny_pyIter_listiter st h
def Mu (K:W.Frag) (ea:Addr) (tl:TE):TI:=fun σ H R=>tl σ H fun x H1=>∃ a,x=.ref a/\(∃ xs,SqL K H1 a xs)/\R (La K ea a) H1
theorem ExcD.o {e:Addr}{cls:Value}{od:Option Addr}{h:Heap}(x:ExcD e cls od h):BD e cls h:=by
 obtain ⟨o,vs,h1,h2,h3,_⟩:=x;exact ⟨o,vs,h1,h2,h3⟩
theorem GZ (Z:Q6 K C):W.KitX K (.ref e) (.ref C) (ExcD e (.ref C) od) where
 ty:=fun M h X p=>(X8 Z).ty M h X p.o
 it:=fun _ _ X p=>(X8 (e:=e) Z).it _ _ X p.o
 ne:=fun h tp dd its n sl X htp=>(X8 (e:=e) Z).ne h tp dd its n sl X htp
 ca:=fun X p k=>(X8 Z).ca X p.o k
def NW (K:W.Frag):List V->Hp->VK->Prop:=fun xs H Q=>∃ e c C od b u,xs=[.ref e,c]/\RelV c u/\(∀ u',RelV c u'->u'=u)/\H e=some (.ext (ExcD e (.ref C) od))/\Q6 K C/\W.kitOne K (.ref C) u=some b/\Q (.bl b) H
theorem Xq (K:W.Frag) {X:Cx}(hK:X.K=K):Zx X (.builtin "isinstance") (NW K):=by
 subst hK;intro aq s σ H xs us Q I r h;obtain ⟨e,c,C,od,b,u,rfl,rc,uq,he,Z,k,q⟩:=h;obtain ⟨u1,u2,rfl,r1,r2⟩:=Jl r;obtain rfl:=uq _ r2;obtain rfl:=r1.ref_of;exact W.kia_one (GZ Z) I.kIn (XU I.hok he) k (fun z=>nomatch z) fun tk=>⟨.bl b,H,I.tok tk,rfl,q⟩
theorem Xy {C':Addr}{b:Bool}(he:H e=some (.ext (ExcD e (.ref C) od))) (Z:Q6 K C) (k:W.kitOne K (.ref C) (.ref C')=some b) (q:Q (.bl b) H):NW K [.ref e,.ref C'] H Q:=
 ⟨e,.ref C',C,od,b,.ref C',rfl,rfl,fun _ h=>h,he,Z,k,q⟩
theorem Rl {b:Bool}(he:H e=some (.ext (ExcD e (.ref C) od))) (Z:Q6 K C) (k:W.kitOne K (.ref C) (.type T)=some b) (q:Q (.bl b) H):NW K [.ref e,.ty T] H Q:=
 ⟨e,.ty T,C,od,b,.type T,rfl,rfl,fun _ h=>h,he,Z,k,q⟩
section
variable {X:Cx} {body suite suite2:List Stmt} {b₀ c₀:Stmt} {x y n:Str} {C C2:Addr} {np hp np2 hp2 pos:Pos} {tb:QU->XK->St->Hp->Prop} {ts ts2:Addr->TS}
theorem Bu {hs:List ExceptHandler}{Q:Flow->Shared->Prop}(I:Inv X aq σ H s) (ow:ZQ X) (a:Air X aq H s.heap cls ea) (f3:F3d od ea s.heap)
  (h:∀ h6,Inv X aq σ H { s with heap:=h6 }->Air X aq H h6 cls ea->F3d od ea h6->wpAny (model X.prog X.w) X.A (handleBy (.ref ea) X.env hs) Q X.xe { s with heap:=h6 }) :
  wpAny (model X.prog X.w) X.A (noteFrame (.ref ea) X.env) (fun _ s₂=>wpAny (model X.prog X.w) X.A (setFlight (.ref ea) none) (fun _ s₃=>wpAny (model X.prog X.w) X.A (handleBy (.ref ea) X.env hs) Q X.xe s₃) X.xe s₂) X.xe s:=by
 obtain ⟨T,a0,hex,hexf,tr⟩:=a.two;have fs:=Xi (ex:=[ea,T]) I;have fr:=I.ok.frames;rw [ow.2.1] at fs fr;have w1:=wpAny_looks_onW (M:=model X.prog X.w) (A:=X.A) (E:=fun _ _=>False) (s:=s) (base:=YE X s.heap [ea,T]) (Q:=fun _ s'=>∃ h4,s'={ s with heap:=h4 }/\(YE X s.heap [ea,T]).HeldW (X.env :: X.outer) ea cls a0 X.env.locals h4/\s.heap.UpToSlots h4) fr ow.2.2 ⟨Yp,Wc (by simp),fs,tr⟩ fun h4 hh4 up4=>⟨h4,rfl,hh4,up4⟩
 have w2:wpAny (model X.prog X.w) X.A (noteFrame (.ref ea) X.env) (fun _ s'=>F3d od ea s'.heap) (fun _ _=>False) s:=U8 fr fs ow.2.2 f3 fun h2 x=>x
 refine FV (cj_noteFrame.any w1 w2) (fun _ s' ⟨⟨h4,e4,hh4,up4⟩,f4⟩=>?_) fun _ _ z=>z.1.elim
 subst e4;have v1:=wpAny_landsW (M:=model X.prog X.w) (A:=X.A) (E:=fun _ _=>False) (s:={ s with heap:=h4 }) (base:=YE X s.heap [ea,T]) (Q:=fun _ s'=>∃ h5,s'={ s with heap:=h5 }/\(YE X s.heap [ea,T]).FlyingW (X.env :: X.outer) ea cls a0 h5/\h4.UpToSlots h5) hh4 fun h5 fl5 up5=>⟨h5,rfl,fl5,up5⟩
 have v2:wpAny (model X.prog X.w) X.A (setFlight (.ref ea) none) (fun _ s'=>F3d od ea s'.heap) (fun _ _=>False) { s with heap:=h4 }:=Yq (s:={ s with heap:=h4 }) f4 fun h2 x=>x
 refine FV (cj_setFlight.any v1 v2) (fun _ s' ⟨⟨h5,e5,fl5,up5⟩,f5⟩=>?_) fun _ _ z=>z.1.elim
 subst e5;have I5:Inv X aq σ H { s with heap:=h5 }:=Wm I hex hexf fl5.1 (up4.trans up5);have l5:=fl5.2.2.1;rw [<-ow.2.1] at l5;have a5:Air X aq H h5 cls ea:=Ji I ow.1 hex (by simp) l5 fl5.2.2.2;exact h h5 I5 a5 f5
theorem MD {name:Option Str}{rest:List ExceptHandler}{b:Bool}{Q:Flow->Shared->Prop}(I5:Inv X aq σ H s) (hg:Gl X x) (hm:X.mg x=some (.ref C)) (a5:Air X aq H s.heap cls ea) (hmatch:W.exmOne X.K cls (.ref C)=some b)
  (h1:b=true->codeAny (model X.prog X.w) (X.A.mark (some (.ref ea))) (.handlers (.ref ea) [.ExceptHandler none name (b₀ :: suite) hp] X.env) (fun r s₂=>match r with
     | .ok f=>(match name with
      | none=>Q f s₂
      | some n=>wpAny (model X.prog X.w) X.A (do bindName X.env n .none;unbindBehindTheSuite X.env n hp) (fun _ s₃=>Q f s₃) X.xe s₂)
     | .error x=>cameBackBy (model X.prog X.w) X.A X.env X.xe x s₂) s)
  (h2:b=false->wpAny (model X.prog X.w) X.A (handleBy (.ref ea) X.env rest) Q X.xe s) (hd:(x == ("__debug__":Str))=false:=by decide) :
  wpAny (model X.prog X.w) X.A (handleBy (.ref ea) X.env (.ExceptHandler (some (.Name x np)) name (b₀ :: suite) hp :: rest)) Q X.xe s:=by
 refine wpAny_handleBy_cons (codeAny_handlers_test (XT (X:=X.hand ea) (I5.hand ea) hg hm ?_ hd)) (by intro q;cases q);obtain ⟨oe,vs,T5,oT,tts,a05,e1,e2,_⟩:=id a5;have LT:W.Looks (model X.prog X.w) s.heap (typeOf (.ref ea)) cls:=e2.1 ▸ (W.Looks.ld e1).andThen .now;refine W.exm_one I5.kIn LT hmatch _ _ _ _ (fun _ _ z=>z) ?_;cases b with
 | true=>exact h1 rfl
 | false=>exact h2 rfl
theorem V4 (hΨ:JO Ψ) (ow:ZQ X) (hN:X.N.Nodup) (hi:X.N[i]?=some n) (hl:X.env.kindOf n=some .local) (hs:∀ e,PSs (X.hand e) (b₀ :: suite) (ts e)) {aq:List (Addr×Obj)}{σ:St}{H:Hp}{s:Shared}{cls:Value}{od:Option Addr}{ea:Addr}{D:QU}(I:Inv X aq σ H s) (a:Air X aq H s.heap cls ea) (f3:F3d od ea s.heap)
  (q:∀ e,H e=none->ts e { nx:=fun σ' H'=>D.nx (σ'.set i none) H',rt:=D.rt,bk:=fun σ' H'=>D.bk (σ'.set i none) H',ct:=fun σ' H'=>D.ct (σ'.set i none) H' } (σ.set i (some (.ref e))) (upd H e (.ext (Ψ e cls od)))) :
  codeAny (model X.prog X.w) (X.A.mark (some (.ref ea))) (.handlers (.ref ea) [.ExceptHandler none (some n) (b₀ :: suite) hp] X.env) (fun r s₂=>match r with
     | .ok f=>wpAny (model X.prog X.w) X.A (do bindName X.env n .none;unbindBehindTheSuite X.env n hp) (fun _ s₃=>SP X aq D f s₃) X.xe s₂
     | .error x=>cameBackBy (model X.prog X.w) X.A X.env X.xe x s₂) s:=by
 refine codeAny_handlers_suite_as (K3 I ow a f3 fun h6 I6 a6 f6=>?_);obtain ⟨oe,vs,T6,oT,tts,a06,e1,e2,e3,_,_,_,_,_,l1,_⟩:=id a6;have xn:Ψ ea cls od h6:=by
  obtain ⟨o,vs',_,_,_,k1,k2,k3,_,_,_,_,_,k9⟩:=f6;rw [e1] at k1;cases k1;exact hΨ.of _ _ _ _ ⟨oe,vs',e1,e2.1,k2,k3,k9⟩
 have I7:Inv X aq σ (upd H ea (.ext (Ψ ea cls od))) { s with heap:=h6 }:=I6.trackN l1 ⟨oe,vs,e1,e3⟩ ⟨xn,⟨oe,e1⟩,hΨ.fr _ _ _⟩;refine Xz (X:=X.hand ea) (v:=.ref ea) (I7.hand ea) hN hi (.inl hl) rfl (fun s8 I8=>?_) (.inr hl);refine FV (hs ea aq s8 _ _ _ I8 (q ea l1.1)) (fun f s9 z=>?_) fun _ _ z=>False.elim z
 have hcls:(X.env.scope.kind == .class||(X.env.scope.kind == .module&&X.env.locals != X.env.globals))=false:=by rw [I.ok.kind];rfl
 have gone:∀ {σ9:St} {H9:Hp} {R:Unit->Shared->Prop},Inv (X.hand ea) aq σ9 H9 s9->(∀ s',Inv X aq (σ9.set i none) H9 s'->R () s')->wpAny (model X.prog X.w) X.A (do bindName X.env n .none;unbindBehindTheSuite X.env n hp) R X.xe s9:=fun {σ9 H9 R} I9 r=>by
  obtain ⟨m,hn,_⟩:=id I9.loc;refine wpAny_nameGoes_keeps hl hn hcls fun h' v hn' hs'=>?_
  refine r _ ((I9.unhand I.ok).forget hN hi (fun m' hm'=>⟨v,?_⟩) hs');have:m=m':=by
   obtain ⟨o,es,ep,a1,a2,a3,a4⟩:=hn;obtain ⟨o',es',ep',b1,b2,b3,b4⟩:=hm';have b1':s9.heap.get? X.env.locals=some o':=b1;have a1':s9.heap.get? X.env.locals=some o:=a1;rw [a1'] at b1';cases b1';rw [a2] at b2;cases b2
   funext y;rw [<-a4,<-b4]
  subst this;exact hn'
 cases f with
 | next=>obtain ⟨σ9,H9,I9,q9⟩:=z;exact gone I9 fun s' I'=>⟨_,H9,I',q9⟩
 | brk=>obtain ⟨σ9,H9,I9,q9⟩:=z;exact gone I9 fun s' I'=>⟨_,H9,I',q9⟩
 | cont=>obtain ⟨σ9,H9,I9,q9⟩:=z;exact gone I9 fun s' I'=>⟨_,H9,I',q9⟩
 | ret u=>obtain ⟨v,σ9,H9,I9,r9,q9⟩:=z;exact gone I9 fun s' I'=>⟨v,_,H9,I',r9,q9⟩
def Wg (D:QU) (i:Nat):QU:={ nx:=fun σ' H'=>D.nx (σ'.set i none) H',rt:=D.rt,bk:=fun σ' H'=>D.bk (σ'.set i none) H',ct:=fun σ' H'=>D.ct (σ'.set i none) H' }
end
section
variable {prog:Program} {w:World} {A:Around} {E:Value->Shared->Prop} {s:Shared} {K:W.Frag} {C x t:Addr} {name:Str} {v:Value}
theorem MT {ns:List Str}{Q:Unit->Shared->Prop}(X:K.In s.heap) (Z:WU K C) (hx:s.heap.get? x=some (ZG C t (some dx))) (hn:s.heap.Ns1 dx mA) (ne:x≠dx) (hw:PySem.Within mA ns) (hsz:ns.length<=sizeLine) (ht:W.findIn K (.ref C) name=some none)
  (h:∀ h',h'.get? x=some (ZG C t (some dx))->h'.Ns1 dx (fun y=>if y=name then some v else mA y)->Heap.SameBut dx s.heap h'->Q () { s with heap:=h',toks:=s.toks+2 }) :
  wpAny (model prog w) A (setAttr (.ref x) name v) Q E s:=by
 have SF:=F.store_object;obtain ⟨cd,hc,ho,hd⟩:=Z.cd;obtain ⟨od,hod,_⟩:=WG hn;have J:W.InstAt s.heap x (ZG C t (some dx)) C (some od):=⟨hx,rfl,rfl,hod⟩
 refine W.set_plain X J Z.sa ?_;have L0:W.Looks (model prog w) s.heap (typeOf (.ref x)) (.ref C):=(W.Looks.ld hx).andThen .now;have sub:W.Looks (model prog w) s.heap (isInstance (.ref x) (.type "object")) true:=L0.andThen (W.looks_mroIn X Z.mO);refine codeAny_call_builtin SF.slot.plain SF.entry (W.check_slot SF.kind SF.split sub (SF.args (.ref x) (.str name s.toks) v) ?_);rw [W.osa_eq];refine Fg ?_;unfold Builtin.ObjectAttr.refuseIfOverridden;refine Fg (L0.at (Fg ?_));have hm:W.Looks (model prog w) s.heap (mroOf (.ref C)) cd.mro:=(W.looks_clsIn X hc).andThen .now;refine hm.at ?_;refine wpAny_of_eq (t:=refuseLoop (.ref x) "__setattr__" cd.mro) (Ww _ ho) ?_;refine Fg (L0.at (Fg (W.Looks.at (W.looks_findIn X ht) (Fg (Fs ?_)))));dsimp only;unfold Builtin.ObjectAttr.storeInOwnDict;refine Fg (Fs (wpAny_ite_false (by rfl) (Fg ?_)));unfold Builtin.ObjectAttr.ownDictForStores instanceDict;dsimp only;refine Fg (wpAny_loadPart_at hx ?_);dsimp only;refine Fg (W.Looks.at (W.looks_clsIn X hc) ?_);rw [hd];refine wpAny_ite_false (by rfl) (Fs ?_);dsimp only;unfold Builtin.ObjectAttr.storeInDict;refine Fg (Fs (Fg ?_));refine wpAny_nsSet1 hn fun h' hn2 hs2=>?_
 obtain ⟨oD,esD,epD,hoD,hdD,hcD⟩:=hn2.count (Within.cons name v hw);refine Fg (wpAny_lookBehind hoD (by rw [hdD];exact pastItsLine_dict (FR hcD (by rw [El];omega))) ?_);exact Fs (h _ ((hs2.2 _ ne).trans hx) hn2 hs2)
end
def NL (K:W.Frag) (ta tv:TE) (f:Str):TS:=fun D σ H=>tv σ H fun v H1=>ta σ H1 fun x H2=>∃ e C d fs,x=.ref e/\H2 e=some (.ext (Xx e C (some d)))/\H2 d=some (.ext (XD d fs))/\d≠e/\fs.length<1000/\WU K C/\NoAttr K C f /\
 D.nx σ (upd H2 d (.ext (XD d (QX f v fs))))
section
variable {X:Cx} {o value:Expr} {ta tv:TE} {f:Str} {pos pos':Pos}
theorem N2 (K:W.Frag) (hK:X.K=K) (ha:PE X o ta) (hv:PE X value tv) (hs:swapsWith value (some (.Attribute o f pos')) pos.line X.env=pure false:=by rfl):PS X (.Assign [.Attribute o f pos'] value pos) (NL K ta tv f):=by
 subst hK;intro aq s σ H D I h;refine Dw (thn (hv aq s σ H _ I h) fun u s1 ⟨y,H1,I1,ry,q⟩=>thn (ha aq s1 σ H1 _ I1 q) fun ov s2 ⟨x,H2,I2,rx,e,C,d,fs,ex,he,hd,ne,hl,Z,n,q2⟩=>?_) hs;subst ex;obtain rfl:ov=Value.ref e:=rx;obtain ⟨t,hx⟩:=XU I2.hok he;obtain ⟨mA,m1,m2,m3⟩:=XU I2.hok hd;have hz:(fs.map (·.1)).length<=sizeLine:=by rw [Fi,Ew];omega
 refine MT I2.kIn Z hx m1 ne.symm m3 hz n fun h' k1 k2 sb=>?_
 have hdo:∃ o,h'.get? d=some o:=let ⟨o,_,_,e',_⟩:=k2;⟨o,e'⟩;refine ⟨σ,_,I2.write (t':=s2.toks+2) (by rw [hd];exact trivial) (.inl rfl) (fun b u hb e=>(sb.2 b hb).trans e) hdo (BE ⟨_,k2,fun g=>?_,fun g hg=>?_⟩),q2⟩
 ·show RelO ((QX f y fs).lookup g) (if g=f then some u else mA g);rw [Ql];by_cases q:g=f
  ·rw [Fk q,Fk q];exact ry
  ·rw [Fh q,Fh q];exact m2 g
 ·by_cases q:g=f
  ·rw [q];exact (XE f y fs).1
  ·refine (XE f y fs).2 g (m3 g fun z=>hg ?_);show (if g=f then some u else mA g)=none;rw [Fh q];exact z
end
def ND (K:W.Frag) (C C2 C3:Addr) (Ψ Ψ2 Ψ3:Kept) (i:Nat) (tb:QU->XK->St->Hp->Prop) (ts ts2 ts3:Addr->TS):TS:=fun D σ H=>tb D (fun cls od H1=>∃ b,W.exmOne K cls (.ref C)=some b/\if b=true then ∀ e,H1 e=none->ts e (Wg D i) (σ.set i (some (.ref e))) (upd H1 e (.ext (Ψ e cls od)))
 else ∃ b2,W.exmOne K cls (.ref C2)=some b2/\if b2=true then ∀ e,H1 e=none->ts2 e (Wg D i) (σ.set i (some (.ref e))) (upd H1 e (.ext (Ψ2 e cls od)))
 else W.exmOne K cls (.ref C3)=some true/\∀ e,H1 e=none->ts3 e (Wg D i) (σ.set i (some (.ref e))) (upd H1 e (.ext (Ψ3 e cls od)))) σ H
section
variable {X:Cx} {body suite suite2 suite3:List Stmt} {b₀ c₀ d₀:Stmt} {x y z n:Str} {C C2 C3:Addr} {np hp np2 hp2 np3 hp3 pos:Pos} {tb:QU->XK->St->Hp->Prop} {ts ts2 ts3:Addr->TS}
theorem N1 {Ψ2 Ψ3:Kept}(hΨ:JO Ψ) (hΨ2:JO Ψ2) (hΨ3:JO Ψ3) (ow:ZQ X) (hg:Gl X x) (hm:X.mg x=some (.ref C)) (hg2:Gl X y) (hm2:X.mg y=some (.ref C2)) (hg3:Gl X z) (hm3:X.mg z=some (.ref C3)) (hN:X.N.Nodup) (hi:X.N[i]?=some n) (hl:X.env.kindOf n=some .local) (hb:PSD X body tb) (hs:∀ e,PSs (X.hand e) (b₀ :: suite) (ts e)) (hs2:∀ e,PSs (X.hand e) (c₀ :: suite2) (ts2 e)) (hs3:∀ e,PSs (X.hand e) (d₀ :: suite3) (ts3 e)) (hd:(x == ("__debug__":Str))=false:=by decide) (hd2:(y == ("__debug__":Str))=false:=by decide) (hd3:(z == ("__debug__":Str))=false:=by decide) :
  PS X (.Try body [.ExceptHandler (some (.Name x np)) (some n) (b₀ :: suite) hp,.ExceptHandler (some (.Name y np2)) (some n) (c₀ :: suite2) hp2,.ExceptHandler (some (.Name z np3)) (some n) (d₀ :: suite3) hp3] [] [] pos) (ND X.K C C2 C3 Ψ Ψ2 Ψ3 i tb ts ts2 ts3):=by
 intro aq s σ H D I h;refine wpAny_Try_except (FV (hb aq s σ H D _ I h) (fun f s1 q=>?_) fun ev s1 ⟨ea,cls,od,H1,hev,I1,a1,f1,b,hmatch,q⟩=>?_)
 ·cases f with
  | next=>exact E6 q
  | ret v=>exact q
  | brk=>exact q
  | cont=>exact q
 ·subst hev;refine Bu I1 ow a1 f1 fun h6 I6 a6 f6=>?_
  refine MD I6 hg hm a6 hmatch (fun e=>?_) (fun e=>?_) hd
  ·subst e;rw [Fk rfl] at q;exact V4 hΨ ow hN hi hl hs I6 a6 f6 q
  ·subst e;rw [Fh (by decide)] at q;obtain ⟨b2,hm2',q⟩:=q;refine MD I6 hg2 hm2 a6 hm2' (fun e=>?_) (fun e=>?_) hd2
   ·subst e;rw [Fk rfl] at q;exact V4 hΨ2 ow hN hi hl hs2 I6 a6 f6 q
   ·subst e;rw [Fh (by decide)] at q;refine MD I6 hg3 hm3 a6 q.1 (fun _=>?_) (fun e=>by cases e) hd3;exact V4 hΨ3 ow hN hi hl hs3 I6 a6 f6 q.2
end
theorem Ld {C2 C3:Addr}{Ψ2 Ψ3:Kept}{tb:QU->XK->St->Hp->Prop}{ts ts2 ts3:Addr->TS}{D:QU}:ND K C C2 C3 Ψ Ψ2 Ψ3 i tb ts ts2 ts3 D σ H=tb D (fun cls od H1=>∃ b,W.exmOne K cls (.ref C)=some b/\if b=true then ∀ e,H1 e=none->ts e (Wg D i) (σ.set i (some (.ref e))) (upd H1 e (.ext (Ψ e cls od)))
 else ∃ b2,W.exmOne K cls (.ref C2)=some b2/\if b2=true then ∀ e,H1 e=none->ts2 e (Wg D i) (σ.set i (some (.ref e))) (upd H1 e (.ext (Ψ2 e cls od)))
 else W.exmOne K cls (.ref C3)=some true/\∀ e,H1 e=none->ts3 e (Wg D i) (σ.set i (some (.ref e))) (upd H1 e (.ext (Ψ3 e cls od)))) σ H:=rfl
theorem Vt (a it:Addr):B0 P w K ea tg (La K ea a) [it] it (fun i h=>h.IsListIter it a i):=
 let T:=V2 (P:=P) (w:=w) (K:=K) (ea:=ea) (tg:=tg) a it
 ⟨T.mem,T.obj,T.keep,T.item,T.done,T.self⟩
theorem SI (K:W.Frag) {X:Cx}{ea:Addr}{tg l:Expr}{tl:TE}(h:X.K=K) (hl:PE X l tl):PIH X ea tg l (Mu K ea tl):=by
 subst h;intro aq s σ H R I h;refine thn (hl aq s σ H _ I h) fun v s1 ⟨x,H1,I1,r1,q1⟩=>?_
 obtain ⟨a,e,⟨xs,hq⟩,q⟩:=q1;subst e;cases r1;obtain ⟨its,rv,p,hz⟩:=I1.list hq;refine wpAny_pyIter_list p.isList ?_;refine ⟨s1.heap.objs.size,[s1.heap.objs.size],_,_,H1,rfl,I1.kept (t':=s1.toks) fun b o e=>FA _ e,Vt a _,⟨_,FY _ rfl,rfl,rfl⟩,fun b hb=>?_,q⟩;have e:b=s1.heap.objs.size:=by simpa using hb
 subst e;exact I1.fpOk (Fl _) (I1.hok.fresh (Fl _))
theorem Nw:Mu K ea tl σ H R=tl σ H fun x H1=>∃ a,x=.ref a/\(∃ xs,SqL K H1 a xs)/\R (La K ea a) H1:=rfl
theorem PF (Pv:Nat->List V->St->Hp->Prop) (h0:Pv 0 [] σ0 H) (hl:∀ i acc σ H,i<=xs.length->Pv i acc σ H->SqL K H a xs) (he:∀ i acc σ H,Pv i acc σ H->BC H ea) (hn:xs.length<=1000)
  (hs:∀ i x acc σ H,xs[i]?=some x->acc.length<=i->Pv i acc σ H->g x σ H fun σ2 H2=>tt σ2 H2 fun b H3=>if b=true then te σ2 H3 fun v H4=>CN Pv xs.length i (acc++[v]) σ2 H4 else CN Pv xs.length i acc σ2 H3)
  (hd:∀ acc σ H,Pv xs.length acc σ H->∀ p,H p=none->Q (.ref p) (upd H p (.lst acc))):JP (La K ea a) g tt te σ0 H Q:=by
 refine ⟨fun i m acc σ H=>m=xs.length-i/\i<=xs.length/\acc.length<=i/\Pv i acc σ H,⟨xs.length,by simp,F1 _,Fl _,h0⟩,?_⟩;rintro i m acc σ H ⟨rfl,hi,ha,p⟩;have q:=hl i acc σ H hi p;by_cases hlt:i<xs.length
 ·refine .inr ⟨⟨xs,xs[i],q,by simp [hlt]⟩,QN (by omega),fun x H' y=>?_⟩;obtain ⟨e,y⟩:=y;subst e;exact hs i x acc σ _ (y xs q) ha p
 ·have e:i=xs.length:=by omega
  subst e;exact .inl ⟨⟨⟨xs,q,Fl _⟩,he _ _ _ _ p⟩,hd acc σ H p⟩
def Sw (K:W.Frag) (ea:Addr):List V->Hp->VK->Prop:=fun xs H Q=>∃ (p:Addr) (ns:List Int),xs=[.ref p]/\SqL K H p (ns.map V.int)/\BC H ea/\Q (.int ns.sum) H
theorem Nd (K:W.Frag) {X:Cx}{ea:Addr}(hK:X.K=K) (hh:X.A.handled=some (.ref ea)):Zx X (.builtin "sum") (Sw K ea):=by
 subst hK;intro aq s σ H xs us Q I r h;obtain ⟨p,ns,rfl,hq,⟨φ,he,hφ⟩,q⟩:=h;obtain ⟨u,rfl,r1⟩:=Z0 r;obtain rfl:=r1.ref_of;obtain ⟨its,rv,pl,hz⟩:=I.list hq;have hi:=Xh rv;obtain ⟨xs,ex⟩:=hi.allInts.items;have hl:=pl.isList;rw [ex] at hl;obtain ⟨o,vs,k1,k2,k3⟩:=hφ _ (XU I.hok he);have e:preSum (numAt xs) xs.size=ns.sum:=by
  rw [preSum_eq,EF (by simp),<-nums_intItems,<-ex,<-hi.numsOf]
 refine call_sum_walkG (iter_intList hl fun s₂ e2 st hfp hlI=>?_);subst e2;have k1':(s.heap.push { cls:=Value.type "list_iterator",data:=Data.fields #[Value.ref p,Value.int 0 0] }).get? ea=some o:=FA _ k1;have hlt:=Ft k1;refine ⟨s.heap.objs.size,[s.heap.objs.size,p,ea],[s.heap.objs.size],(intItems xs).size,_,_,numAt xs,rfl,Vo (A:=X.A.in1) hh _ p hlI (FD hlt) (intItems xs),⟨st.1,st.2,o,vs,k1',k2,k3⟩,fun b hb=>?_,fun _ _=>intItems_at,fun h' tk t' hk=>?_⟩
 ·rcases FF.mp hb with rfl | hb
  ·exact hfp _ (by simp)
  ·rcases FF.mp hb with rfl | hb
   ·exact hfp _ (by simp)
   ·rw [FC.mp hb];exact Ft k1'
 ·have hs:(intItems xs).size=xs.size:=by simp [intItems]
  rw [hs,e];exact ⟨.int ns.sum,H,I.kept (t':=tk) (old_kept hk),⟨_,rfl⟩,q⟩
end L2
namespace L2
open PySem PySem.Spec PyProof.Rows
def Sy (K:W.Frag):List V->Hp->VK->Prop:=fun xs H Q=>∃ (p:Addr) (ns:List Int),xs=[.ref p]/\SqL K H p (ns.map V.int)/\0<ns.length/\∀ M∈ns,(∀ a∈ns,a<=M)->Q (.int M) H
theorem Ng (K:W.Frag) {X:Cx}(hK:X.K=K) (hc:X.calm=true):Zx X (.builtin "max") (Sy K):=by
 subst hK;intro aq s σ H xs us Q I r h;obtain ⟨p,ns,rfl,hq,hn,q⟩:=h;obtain ⟨u,rfl,r1⟩:=Z0 r;obtain rfl:=r1.ref_of;obtain ⟨its,rv,pl,hz⟩:=I.list hq;have hi:=Xh rv;obtain ⟨xs,ex⟩:=hi.allInts.items;have hl:=pl.isList;rw [ex] at hl;have en:ns=xs.toList.map (·.1):=by rw [<-nums_intItems,<-ex,<-hi.numsOf]
 have hs:0<xs.size:=by
  have e:ns.length=xs.size:=by rw [en,Fi,Array.length_toList]
  rw [<-e];exact hn
 refine max_intList (I.ok.hd hc) hl hs fun v h' tk hv kp=>?_
 obtain ⟨b1,b2⟩:=argBest_gt (numAt xs) (xs.size-1);generalize argBest (fun i j=>decide (numAt xs i > numAt xs j)) (xs.size-1)=k at *;have hk:k<xs.size:=by omega
 have ev:v=.int xs[k].1 xs[k].2:=by
  unfold intItems at hv;rw [Array.getElem?_map,Array.getElem?_eq_getElem hk] at hv;exact (Fy hv).symm
 have nk:∀ j (hj:j<xs.size),numAt xs j=xs[j].1:=fun j hj=>by
  unfold numAt;rw [Array.getElem?_eq_getElem hj];rfl
 rw [ev];refine ⟨.int xs[k].1,H,I.kept (t':=tk) kp,⟨_,rfl⟩,q _ ?_ fun a ha=>?_⟩
 ·rw [en];exact Fw.mpr ⟨xs[k],Array.getElem_mem_toList hk,rfl⟩
 ·rw [en] at ha;obtain ⟨e,he,rfl⟩:=Fw.mp ha;obtain ⟨j,hj,rfl⟩:=List.mem_iff_getElem.mp he;have hj':j<xs.size:=by simpa using hj
  have:=b2 j (by omega);rw [nk j hj',nk k hk] at this;simpa using this
def Sx (K:W.Frag):List V->Hp->VK->Prop:=fun xs H Q=>∃ (p:Addr) (ns:List Int),xs=[.ref p]/\SqL K H p (ns.map V.int)/\0<ns.length/\∀ M∈ns,(∀ a∈ns,M<=a)->Q (.int M) H
theorem Nf (K:W.Frag) {X:Cx}(hK:X.K=K) (hc:X.calm=true):Zx X (.builtin "min") (Sx K):=by
 subst hK;intro aq s σ H xs us Q I r h;obtain ⟨p,ns,rfl,hq,hn,q⟩:=h;obtain ⟨u,rfl,r1⟩:=Z0 r;obtain rfl:=r1.ref_of;obtain ⟨its,rv,pl,hz⟩:=I.list hq;have hi:=Xh rv;obtain ⟨xs,ex⟩:=hi.allInts.items;have hl:=pl.isList;rw [ex] at hl;have en:ns=xs.toList.map (·.1):=by rw [<-nums_intItems,<-ex,<-hi.numsOf]
 have hs:0<xs.size:=by
  have e:ns.length=xs.size:=by rw [en,Fi,Array.length_toList]
  rw [<-e];exact hn
 refine min_intList (I.ok.hd hc) hl hs fun v h' tk hv kp=>?_
 obtain ⟨b1,b2⟩:=argBest_lt (numAt xs) (xs.size-1);generalize argBest (fun i j=>decide (numAt xs i<numAt xs j)) (xs.size-1)=k at *;have hk:k<xs.size:=by omega
 have ev:v=.int xs[k].1 xs[k].2:=by
  unfold intItems at hv;rw [Array.getElem?_map,Array.getElem?_eq_getElem hk] at hv;exact (Fy hv).symm
 have nk:∀ j (hj:j<xs.size),numAt xs j=xs[j].1:=fun j hj=>by
  unfold numAt;rw [Array.getElem?_eq_getElem hj];rfl
 rw [ev];refine ⟨.int xs[k].1,H,I.kept (t':=tk) kp,⟨_,rfl⟩,q _ ?_ fun a ha=>?_⟩
 ·rw [en];exact Fw.mpr ⟨xs[k],Array.getElem_mem_toList hk,rfl⟩
 ·rw [en] at ha;obtain ⟨e,he,rfl⟩:=Fw.mp ha;obtain ⟨j,hj,rfl⟩:=List.mem_iff_getElem.mp he;have hj':j<xs.size:=by simpa using hj
  have:=b2 j (by omega);rw [nk j hj',nk k hk] at this;simpa using this
end L2
namespace L2
open PySem PyProof.Rows
def Mw (tl:TE):TI:=fun σ H R=>tl σ H fun x H1=>∃ d o kvs,x=.ref d/\H1 d=some (.frz o (.dK kvs))/\R (ItD d o kvs) H1
theorem N4 {l:Expr}(hl:PE X l tl):PI X tg l (Mw tl):=by
 intro aq s σ H R I h;refine thn (hl aq s σ H _ I h) fun v s1 ⟨x,H1,I1,r1,q1⟩=>?_
 obtain ⟨d,o,kvs,e,hd,q⟩:=q1;subst e;cases r1;obtain ⟨go,z,hs,vs,rel,dd⟩:=(show ObjOk X.prog X.w H1 s1.heap d (.frz o (.dK kvs)) from I1.hok d _ hd)
 obtain ⟨ep,hm⟩:=dd.dictAt;obtain ⟨o',es,gd,o1,o2,o3,o4,o5⟩:=id hm;rw [go] at gd;cases gd;refine wpAny_pyIter_dict hs hm ?_;have hn:H1 s1.heap.objs.size=none:=I1.hok.fresh (Fl _);refine ⟨s1.heap.objs.size,[s1.heap.objs.size],_,_,_,rfl,I1.kept (t':=s1.toks) fun b o e=>FA _ e,Ke ⟨es,o1,o2,o3,o4,o5⟩ rel,⟨_,FY _ rfl,rfl,rfl⟩,fun b hb=>?_,q⟩;have e:b=s1.heap.objs.size:=by simpa using hb
 subst e;exact I1.fpOk (Fl _) hn
theorem T2:Mw tl σ H R=tl σ H fun x H1=>∃ d o kvs,x=.ref d/\H1 d=some (.frz o (.dK kvs))/\R (ItD d o kvs) H1:=rfl
theorem S9 {o:Obj}(Pv:Nat->List V->St->Hp->Prop) (h0:Pv 0 [] σ0 H) (hl:∀ i acc σ H,i<=kvs.length->Pv i acc σ H->H d=some (.frz o (.dK kvs))) (hn:kvs.length<=1000)
  (hs:∀ i kv acc σ H,kvs[i]?=some kv->acc.length<=i->Pv i acc σ H->g (kV kv.1) σ H fun σ2 H2=>tt σ2 H2 fun b H3=>if b=true then te σ2 H3 fun v H4=>CN Pv kvs.length i (acc++[v]) σ2 H4 else CN Pv kvs.length i acc σ2 H3)
  (hd:∀ acc σ H,Pv kvs.length acc σ H->∀ p,H p=none->Q (.ref p) (upd H p (.lst acc))):JP (ItD d o kvs) g tt te σ0 H Q:=by
 refine ⟨fun i m acc σ H=>m=kvs.length-i/\i<=kvs.length/\acc.length<=i/\Pv i acc σ H,⟨kvs.length,by simp,F1 _,Fl _,h0⟩,?_⟩;rintro i m acc σ H ⟨rfl,hi,ha,p⟩;have q:=hl i acc σ H hi p;rcases EZ i kvs.length with hlt | hge
 ·refine .inr ⟨⟨q,hlt⟩,QN (by omega),?_⟩;rintro x H' ⟨rfl,kv,hk,rfl⟩;exact hs i kv acc σ _ hk ha p
 ·have e:i=kvs.length:=by omega
  subst e;exact .inl ⟨⟨q,hge⟩,hd acc σ H p⟩
end L2
namespace L2
open PySem PySem.Spec PyProof.Rows
end L2
namespace My
open PySem PyProof.Rows L2
local macro_rules | `(tactic| walk_at "r1") => `(tactic| first | dsimp only [Tt, Ts, Tr, Tq, Tp, To, B8, List.length_cons, List.length_nil, List.replicate, Nat.reduceSub, Nat.reduceAdd, PU, B3, Hr, Hm, Tf, Hq, P5, Ho, P1, Hn, B6, B5, Td, Ta, Te, Tc, P8, P6, P9, P7, B4, Lc, P0, PZ, PY, PX, PV, B2, P4, P3, x_c, Hv, Hs, T9, Ht, TC, Rb, Li, Tj, B7, Rn, Lj, Sb, Hu, TB, TZ, V0, Tu, Tw, Rt, TY, Lg, Sa, Ri, Tz, TF, Ru, Rv, Hx, Ti, TQ, Tn, Tg, List.getElem?_cons_zero, List.getElem?_cons_succ, List.set_cons_zero, List.set_cons_succ, List.nil_append, List.cons_append, List.append_nil, if_true, if_false, reduceCtorEq, Int.reduceEq, Int.cast_ofNat_Int, Int.reduceLT, Int.reduceLE, not_true, Bool.not_true, Bool.not_false, Bool.not_eq_true'] | simp only [Hw, Le, Hy, B9, Th, TV, Rm, Bool.false_eq_true, Bool.true_eq_false, not_false_eq_true, decide_eq_true_eq, decide_eq_false_iff_not, Bool.not_eq_true', if_true, if_false, not_true, reduceCtorEq, Int.reduceEq, Int.reduceLT, Int.reduceLE, Bool.not_true, Bool.not_false])
local macro_rules | `(tactic| walk_at "rd") => `(tactic| (walk_at "r1"; repeat walk_at "r1"))
local macro_rules | `(tactic| walk_at "go") => `(tactic| repeat (first | refine Xc (by assumption) rfl ?_ | refine YL (by assumption) rfl ?_ | refine Q7 (by assumption) rfl ?_ | refine Rj (by assumption) ?_ | refine Q3 (by assumption) ?_ | refine YM (TyOf.int _) (by rfl) ?_ | refine TU (by assumption) ?_ | refine YM (TyOf.bl _) (by rfl) ?_ | walk_at "rd"))
theorem nwH {o:HO}(h:H p=none) (e:upd H p o=H1):Same H H1/\H1 p=some o:=by subst e;exact ⟨Qi h o,Qe⟩
structure Adr where
 dummy:Unit:=()
 bQ:Addr
 bR:Addr
 bS:Addr
 bT:Addr
 bU:Addr
 bV:Addr
 bW:Addr
 bX:Addr
 aD:Addr
 aB:Addr
 aA:Addr
 bY:Addr
 bZ:Addr
 aE:Addr
 aQ:Addr
 aM:Addr
 bK:Addr
 aY:Addr
 bH:Addr
 aZ:Addr
 bA:Addr
 bB:Addr
 bC:Addr
abbrev yK (K:W.Frag) (a b:Addr) (c:Bool):Prop:=W.kitOne K (.ref a) (.ref b)=some c
structure Tx (K:W.Frag) (mg:Str->Option Value) (t:Adr):Prop where
 gH:mg "ValueError"=none
 cQ:mg "abs"=none
 cR:mg "all"=none
 gI:mg "any"=none
 cS:mg "bool"=none
 gJ:mg "enumerate"=none
 cT:mg "int"=none
 aJ:mg "isinstance"=none
 aK:mg "len"=none
 aP:mg "list"=none
 dM:mg "max"=none
 gK:mg "min"=none
 aS:mg "range"=none
 cU:mg "sorted"=none
 dN:mg "str"=none
 gL:mg "sum"=none
 dO:mg "tuple"=none
 gM:mg "zip"=none
 gN:mg "HelpError"=some (.ref t.bQ)
 gO:mg "NoAmount"=some (.ref t.bR)
 gP:mg "NoBend"=some (.ref t.bS)
 gQ:mg "NoPerson"=some (.ref t.bT)
 gR:mg "Unknown"=some (.ref t.bU)
 gS:mg "Twice"=some (.ref t.bV)
 gT:mg "NoWord"=some (.ref t.bW)
 gU:mg "NoRow"=some (.ref t.bX)
 cV:mg "Tangled"=some (.ref t.aD)
 cW:mg "Jumps"=some (.ref t.aB)
 cX:mg "Widens"=some (.ref t.aA)
 gV:mg "TooMany"=some (.ref t.bY)
 gW:mg "NoNews"=some (.ref t.bZ)
 gX:mg "Kind"=some (.ref t.aE)
 dP:mg "Cap"=some (.ref t.aQ)
 gY:mg "Office"=some (.ref t.aM)
 gZ:mg "Base"=some (.ref t.bK)
 hJ:mg "Each"=some (.ref t.aY)
 hU:mg "Rent"=some (.ref t.bH)
 hV:mg "From"=some (.ref t.aZ)
 hX:mg "Upto"=some (.ref t.bA)
 bB:KTup K mg "NOUGHT" t.bB [.int 0,.int 1]
 bC:KTup K mg "ONE" t.bC [.int 1,.int 1]
 hZ:W.exmOne K (.ref t.aD) (.ref t.aD)=some true
 i7:W.exmOne K (.ref t.aB) (.ref t.aD)=some false
 i8:W.exmOne K (.ref t.aB) (.ref t.aB)=some true
 i9:W.exmOne K (.ref t.aA) (.ref t.aD)=some false
 iA:W.exmOne K (.ref t.aA) (.ref t.aB)=some false
 iB:W.exmOne K (.ref t.aA) (.ref t.aA)=some true
 iC:yK K t.aD t.bR false
 iD:yK K t.aD t.bS false
 iE:yK K t.aD t.bT false
 iF:yK K t.aD t.bU false
 iG:yK K t.aD t.bV false
 iH:yK K t.aD t.bW false
 iI:yK K t.aD t.bX false
 iJ:yK K t.aD t.aD true
 iK:yK K t.aD t.aB false
 iL:yK K t.aD t.aA false
 iM:yK K t.aD t.bY false
 iN:yK K t.aD t.bZ false
 iO:yK K t.aD t.bQ true
 iP:yK K t.aB t.bR false
 iQ:yK K t.aB t.bS false
 iR:yK K t.aB t.bT false
 iS:yK K t.aB t.bU false
 iT:yK K t.aB t.bV false
 iV:yK K t.aB t.bW false
 iW:yK K t.aB t.bX false
 iX:yK K t.aB t.aD false
 iY:yK K t.aB t.aB true
 iZ:yK K t.aB t.aA false
 j6:yK K t.aB t.bY false
 j7:yK K t.aB t.bZ false
 j8:yK K t.aB t.bQ true
 j9:yK K t.aA t.bR false
 jA:yK K t.aA t.bS false
 jB:yK K t.aA t.bT false
 jC:yK K t.aA t.bU false
 jD:yK K t.aA t.bV false
 jE:yK K t.aA t.bW false
 jF:yK K t.aA t.bX false
 jG:yK K t.aA t.aD false
 jH:yK K t.aA t.aB false
 jI:yK K t.aA t.aA true
 jJ:yK K t.aA t.bY false
 jK:yK K t.aA t.bZ false
 jL:yK K t.aA t.bQ true
 jM:W.kitOne K (.ref t.aD) (.type "ValueError")=some true
 jN:W.kitOne K (.ref t.aB) (.type "ValueError")=some true
 jO:W.kitOne K (.ref t.aA) (.type "ValueError")=some true
 dQ:Q6 K t.aD
 dR:Q6 K t.aB
 cY:Q6 K t.aA
 aL:Cls K t.aE
 kM:IsC K t.aE
 cA:NoAttr K t.aE "title"
 jP:NoAttr K t.aE "parts"
 jQ:NoAttr K t.aE "terms"
 jR:NoAttr K t.aE "pays"
 cZ:NoAttr K t.aE "counts"
 cB:NoAttr K t.aE "offs"
 dS:NoAttr K t.aE "limit"
 dU:NoAttr K t.aE "unit"
 jS:NoAttr K t.aE "way"
 d0:Cls K t.aQ
 kN:IsC K t.aQ
 jT:NoAttr K t.aQ "limit"
 jU:NoAttr K t.aQ "each"
 jV:NoAttr K t.aQ "titles"
 bD:Cls K t.aM
 kO:IsC K t.aM
 cD:NoAttr K t.aM "kinds"
 jW:NoAttr K t.aM "caps"
 jX:Cls K t.bK
 kP:IsC K t.bK
 jY:NoAttr K t.bK "amount"
 d6:Cls K t.aY
 kQ:IsC K t.aY
 jZ:NoAttr K t.aY "amount"
 kA:NoAttr K t.aY "low"
 kC:NoAttr K t.aY "high"
 dW:Cls K t.bH
 kR:IsC K t.bH
 kD:NoAttr K t.bH "rate"
 kE:NoAttr K t.bH "most"
 d9:Cls K t.aZ
 kS:IsC K t.aZ
 kG:NoAttr K t.aZ "many"
 kH:NoAttr K t.aZ "low"
 kI:NoAttr K t.aZ "high"
 dA:Cls K t.bA
 kT:IsC K t.bA
 kJ:NoAttr K t.bA "many"
 kK:NoAttr K t.bA "low"
 kL:NoAttr K t.bA "high"
 dB:WU K t.aD
 dC:NoAttr K t.aD "titles"
 dD:WU K t.aB
 dE:NoAttr K t.aB "titles"
 bM:WU K t.aA
 dF:NoAttr K t.aA "titles"
 dX:NoAttr K t.aA "pull"
local macro_rules | `(tactic| walk_at "sc") => `(tactic| exact ⟨rfl, rfl, rfl, by decide +kernel, rfl, by decide +kernel, by decide +kernel⟩)
theorem Hz {φ}(vs:List V) (H:Hp) (Q:VK) (E:XK) (h:Rp1 φ vs H Q E):vs.length=1:=by
 obtain ⟨_,rfl,_⟩:=h;rfl
theorem Sv {φ}(vs:List V) (H:Hp) (Q:VK) (E:XK) (h:Rp3 φ vs H Q E):vs.length=3:=by
 obtain ⟨_,_,_,rfl,_⟩:=h;rfl
theorem Wp {φ}(vs:List V) (H:Hp) (Q:VK) (E:XK) (h:Sp1 φ vs H Q E):vs.length=1:=by
 obtain ⟨_,rfl,_⟩:=h;rfl
theorem Sr {φ}(vs:List V) (H:Hp) (Q:VK) (E:XK) (h:PQ φ vs H Q E):vs.length=10:=by
 obtain ⟨_,_,_,_,_,_,_,_,_,_,rfl,_⟩:=h;rfl
theorem Z3 {φ}(vs:List V) (H:Hp) (Q:VK) (E:XK) (h:Sp2 φ vs H Q E):vs.length=2:=by
 obtain ⟨_,_,rfl,_⟩:=h;rfl
theorem GA {φ}(vs:List V) (H:Hp) (Q:VK) (E:XK) (h:Sp3 φ vs H Q E):vs.length=3:=by
 obtain ⟨_,_,_,rfl,_⟩:=h;rfl
theorem Gz {φ}(vs:List V) (H:Hp) (Q:VK) (E:XK) (h:Sp4 φ vs H Q E):vs.length=4:=by
 obtain ⟨_,_,_,_,rfl,_⟩:=h;rfl
theorem Sq {φ}(vs:List V) (H:Hp) (Q:VK) (E:XK) (h:Sp6 φ vs H Q E):vs.length=6:=by
 obtain ⟨_,_,_,_,_,_,rfl,_⟩:=h;rfl
theorem Ys:Qo ["self","titles"] ["self","titles"] (Qh Q9):=by walk_at"sc"
theorem YQ:Qo ["self","titles"] ["self","titles"] (Qh Zs):=by walk_at"sc"
theorem Yy:Qo ["self","titles","pull"] ["self","titles","pull"] (Qh Zh):=by walk_at"sc"
theorem sc_common_divisor:Qo ["one","other","rest"] ["one","other"] (Qh Zr):=by walk_at"sc"
theorem sc_fraction:Qo ["top","bottom","divisor"] ["top","bottom"] (Qh XN):=by walk_at"sc"
theorem Lw:Qo ["one","other"] ["one","other"] (Qh KE):=by walk_at"sc"
theorem sc_total_of:Qo ["ones","total","one"] ["ones"] (Qh XH):=by walk_at"sc"
theorem NJ:Qo ["one","other"] ["one","other"] (Qh W6):=by walk_at"sc"
theorem NK:Qo ["one","other"] ["one","other"] (Qh Jc):=by walk_at"sc"
theorem Ua:Qo ["one","other"] ["one","other"] (Qh Yn):=by walk_at"sc"
theorem sc_steps_from:Qo ["neighbours","starts","steps","start","waiting","name","neighbour"] ["neighbours","starts"] (Qh Z4):=by walk_at"sc"
theorem JT:Qo ["kind","title"] ["kind","title"] (Qh Z7):=by walk_at"sc"
theorem sc_leans:Qo ["office","leaning","kind"] ["office"] (Qh W8):=by walk_at"sc"
theorem sc_leads_to:Qo ["office","title","leaning"] ["office","title"] (Qh XI):=by walk_at"sc"
theorem sc_knots:Qo ["office","leads","title","found","knot"] ["office"] (Qh Jb):=by walk_at"sc"
theorem YO:Qo ["leaning","title","knot"] ["leaning","title","knot"] (Qh Zq):=by walk_at"sc"
theorem sc_is_free:Qo ["knot","leaning","placed","reckoned"] ["knot","leaning","placed"] (Qh Ym):=by walk_at"sc"
theorem sc_ring_from:Qo ["first","leaning","knot","titles","title"] ["first","leaning","knot"] (Qh Xl):=by walk_at"sc"
theorem sc_pull_of:Qo ["office","titles","pull","at","title","kind","counted"] ["office","titles"] (Qh Yh):=by walk_at"sc"
theorem sc_check_ring:Qo ["office","titles","pull","ring"] ["office","titles","pull"] (Qh Z8):=by walk_at"sc"
theorem sc_block_of:Qo ["office","knot","leaning","most","titles","pull"] ["office","knot","leaning"] (Qh XO):=by walk_at"sc"
theorem sc_order:Qo ["office","leaning","waiting","placed","blocks","knot"] ["office"] (Qh W7):=by walk_at"sc"
theorem V8:Qo ["block"] ["block"] (Qh Yi):=by walk_at"sc"
theorem Ws:Qo ["self","title","parts","terms","pays","counts","offs","limit","unit","way"] ["self","title","parts","terms","pays","counts","offs","limit","unit","way"] (Qh QE):=by walk_at"sc"
theorem sc_Kind_greatest_rate:Qo ["self","most","off"] ["self"] (Qh QY):=by walk_at"sc"
theorem W0:Qo ["self","limit","each","titles"] ["self","limit","each","titles"] (Qh ZK):=by walk_at"sc"
theorem Yz:Qo ["self","kinds","caps"] ["self","kinds","caps"] (Qh Zi):=by walk_at"sc"
theorem sc_Office_kind:Qo ["self","title","one"] ["self","title"] (Qh ZV):=by walk_at"sc"
theorem WZ:Qo ["self"] ["self"] (Qh ZJ):=by walk_at"sc"
theorem Wv:Qo ["self","amount"] ["self","amount"] (Qh ZE):=by walk_at"sc"
theorem Wu:Qo ["self","amount","low","high"] ["self","amount","low","high"] (Qh ZD):=by walk_at"sc"
theorem Wr:Qo ["self","rate","most"] ["self","rate","most"] (Qh ZA):=by walk_at"sc"
theorem Wt:Qo ["self","many","low","high"] ["self","many","low","high"] (Qh ZC):=by walk_at"sc"
theorem Wq:Qo ["self","many","low","high"] ["self","many","low","high"] (Qh Zz):=by walk_at"sc"
theorem KC:Qo ["_law_script","_law_k"] ["_law_script","_law_k"] (Qh Xo):=by walk_at"sc"
theorem sc_l_divisor:Qo ["_law_one","_law_other"] ["_law_one","_law_other"] (Qh Xn):=by walk_at"sc"
theorem sc_l_low:Qo ["_law_top","_law_bottom","_law_by"] ["_law_top","_law_bottom"] (Qh W9):=by walk_at"sc"
theorem sc_l_names:Qo ["_law_cell","_law_letters","_law_size","_law_at","_law_word","_law_names_here","_law_k","_law_name","_law_j","_law_step"] ["_law_cell"] (Qh Yl):=by walk_at"sc"
theorem GC:Qo ["_law_cell","_law_calm"] ["_law_cell","_law_calm"] (Qh YU):=by walk_at"sc"
theorem sc_l_offs:Qo ["_law_cell","_law_calm","_law_offs_here","_law_limit","_law_k"] ["_law_cell","_law_calm"] (Qh YW):=by walk_at"sc"
theorem sc_l_segments:Qo ["_law_script","_law_many","_law_ranked","_law_found","_law_cell","_law_size","_law_at"] ["_law_script","_law_many"] (Qh Z5):=by walk_at"sc"
theorem sc_l_earlier:Qo ["_law_script","_law_k","_law_earlier_here","_law_names_here","_law_counts","_law_j","_law_number"] ["_law_script","_law_k","_law_earlier_here","_law_names_here"] (Qh Xm):=by walk_at"sc"
theorem GD:Qo ["_law_cell"] ["_law_cell"] (Qh YZ):=by walk_at"sc"
theorem GB:Qo ["_law_cell"] ["_law_cell"] (Qh YR):=by walk_at"sc"
theorem sc_l_spoilt:Qo ["_law_script","_law_row","_law_part","_law_at","_law_names_here","_law_way","_law_title","_law_counts","_law_offs_here","_law_limit","_law_unit","_law_cell","_law_here","_law_wide_here","_law_bad","_law_more","_law_place"] ["_law_script","_law_row","_law_part","_law_at","_law_names_here","_law_way"] (Qh XJ):=by walk_at"sc"
theorem sc_l_rows:Qo ["_law_script","_law_many","_law_names_here","_law_segments_here","_law_bad","_law_way","_law_rows_here","_law_earlier_here","_law_ring","_law_part","_law_at","_law_k","_law_counts","_law_limit","_law_unit","_law_beyond","_law_place","_law_row"] ["_law_script","_law_many","_law_names_here","_law_segments_here","_law_bad","_law_way"] (Qh YT):=by walk_at"sc"
theorem sc_l_kind:Qo ["_law_row","_law_number","_law_parts","_law_terms","_law_pays","_law_way"] ["_law_row","_law_number"] (Qh YX):=by walk_at"sc"
theorem sc_l_office:Qo ["_law_rows_here","_law_cell","_law_by","_law_kinds","_law_k","_law_titles","_law_caps"] ["_law_rows_here","_law_cell"] (Qh XM):=by walk_at"sc"
theorem V9:Qo ["_law_one","_law_other"] ["_law_one","_law_other"] (Qh Yj):=by walk_at"sc"
theorem sc_l_greatest:Qo ["_law_offs_here","_law_most","_law_limit","_law_rate_here"] ["_law_offs_here"] (Qh Z6):=by walk_at"sc"
theorem sc_l_pull:Qo ["_law_table","_law_ring","_law_pull_here","_law_title","_law_beyond","_law_row","_law_share"] ["_law_table","_law_ring"] (Qh YV):=by walk_at"sc"
theorem sc_l_shape:Qo ["_law_block","_law_pull_here"] ["_law_block"] (Qh Yk):=by walk_at"sc"
theorem sc_l_just:Qo ["_law_e","_law_flags"] ["_law_e"] (Qh YY):=by walk_at"sc"
theorem sc_l_told:Qo ["_law_office_here","_law_found","_law_e"] ["_law_office_here"] (Qh YS):=by walk_at"sc"
theorem sc_l_due:Qo ["_law_table","_law_bad","_law_names_here","_law_way","_law_turn","_law_ring","_law_pull_here"] ["_law_table","_law_bad","_law_names_here","_law_way"] (Qh Ja):=by walk_at"sc"
theorem sc_law:Qo ["_law_script","_law_many","_law_way","_law_names_here","_law_segments_here","_law_bad","_law_rows_here","_law_table","_law_row","_law_told_here","_law_due_here","_law_block","_law_here","_law_tight"] ["_law_script"] (Qh Jo):=by walk_at"sc"
section
variable {P:Program} {w:World} {K:W.Frag} {mg:Str->Option Value} {base:Heap} {t:Adr}
seal PSs PS PE PA PI
local macro_rules | `(tactic| walk_at "dg") => `(tactic| ((try simp only [Px, d_ni', Pz, Pw, Py, PB, Pu]); walk_at "go"))
theorem Q4 (f:Str) (v:V):∀ fs:List (Str×V),(QX f v fs).length<=fs.length+1
 | []=>Fl _
 | (g,x) :: r=>by
  unfold QX;split
  ·simp
  ·have:=Q4 f v r;simp;omega
structure Rw where
 nm:Str
 cs:List (Str×Rat)
 os:List (Int×Rat)
 lm:Option Int
 un:Option Int
variable {rs:List Rw}
def oV:Option Int->V
 | none=>.non
 | some i=>.int i
def Cp (K:W.Frag) (H:Hp) (c:Str×Rat) (v:V):Prop:=∃ p z,v=.ref p/\SqT K H p [.str c.1,z]/\Fq K H c.2 z
theorem Cp.same {c:Str×Rat}(h:Cp K H c v) (g:Same H H'):Cp K H' c v:=by
 obtain ⟨p,z,e,h1,h2⟩:=h;exact ⟨p,z,e,g.sqT h1,h2.same g⟩
def Cl (K:W.Frag) (H:Hp) (cs:List (Str×Rat)) (l:Addr):Prop:=∃ vs,H l=some (.lst vs)/\All2 (Cp K H) cs vs
theorem Cl.same (h:Cl K H cs l) (g:Same H H'):Cl K H' cs l:=by
 obtain ⟨vs,h1,h2⟩:=h;exact ⟨vs,g _ _ h1,h2.imp fun _ _ z=>z.same g⟩
def Ol (K:W.Frag) (H:Hp) (os:List (Int×Rat)) (l:Addr):Prop:=∃ vs,H l=some (.lst vs)/\All2 (Fp K H) os vs
theorem Ol.same (h:Ol K H os l) (g:Same H H'):Ol K H' os l:=by
 obtain ⟨vs,h1,h2⟩:=h;exact ⟨vs,g _ _ h1,h2.imp fun _ _ z=>z.same g⟩
def Rr (K:W.Frag) (H:Hp) (r:Rw) (v:V):Prop:=∃ p lc lo,v=.ref p/\SqT K H p [.str r.nm,.ref lc,.ref lo,oV r.lm,oV r.un]/\Cl K H r.cs lc/\Ol K H r.os lo
theorem Rr.same {r:Rw}(h:Rr K H r v) (g:Same H H'):Rr K H' r v:=by
 obtain ⟨p,lc,lo,e,h1,h2,h3⟩:=h;exact ⟨p,lc,lo,e,g.sqT h1,h2.same g,h3.same g⟩
def Kn (K:W.Frag) (C:Addr) (H:Hp) (r:Rw) (v:V):Prop:=∃ p dx fs lc lo,v=.ref p/\H p=some (.ins C dx fs)/\fs.lookup (Str.ofString "title")=some (.str r.nm)/\fs.lookup (Str.ofString "counts")=some (.ref lc)/\fs.lookup (Str.ofString "offs")=some (.ref lo)/\fs.lookup (Str.ofString "limit")=some (oV r.lm)/\(fs.lookup (Str.ofString "unit")=some (oV r.un)/\fs.lookup (Str.ofString "greatest_rate")=none)/\Cl K H r.cs lc/\Ol K H r.os lo
theorem Kn.same {r:Rw}(h:Kn K C H r v) (g:Same H H'):Kn K C H' r v:=by
 obtain ⟨p,dx,fs,lc,lo,e,h1,h2,h3,h4,h5,h6,h7,h8⟩:=h;exact ⟨p,dx,fs,lc,lo,e,g _ _ h1,h2,h3,h4,h5,h6,h7.same g,h8.same g⟩
def Of (K:W.Frag) (t:Adr) (H:Hp) (rs:List Rw) (p:Addr):Prop:=∃ dx fs lk vs,H p=some (.ins t.aM dx fs)/\fs.lookup (Str.ofString "kinds")=some (.ref lk)/\H lk=some (.lst vs)/\All2 (Kn K t.aE H) rs vs/\(fs.lookup (Str.ofString "named")=none/\fs.lookup (Str.ofString "kind")=none)
theorem Of.same {t:Adr}(h:Of K t H rs p) (g:Same H H'):Of K t H' rs p:=by
 obtain ⟨dx,fs,lk,vs,h1,h2,h3,h4,h5⟩:=h;exact ⟨dx,fs,lk,vs,g _ _ h1,h2,g _ _ h3,h4.imp fun _ _ z=>z.same g,h5⟩
def Oth (p:Addr) (H H':Hp):Prop:=∀ c u,c≠p->H c=some u->H' c=some u
theorem Oth.refl (p:Addr) (H:Hp):Oth p H H:=fun _ _ _ h=>h
theorem Oth.put {o:HO}(h:Oth p H H'):Oth p H (upd H' p o):=fun c u e k=>by rw [Qj e];exact h c u e k
theorem Oth.new {o:HO}(h:Oth p H H') (hl:H' l=none):Oth p H (upd H' l o):=fun c u e k=>(Qi hl o) _ _ (h c u e k)
inductive φone (C:Addr) (x y:V) (H:Hp) (Q:VK):Prop
 | mk (p dx:Addr) (h1:x=.ref p) (h2:H p=some (.ins C dx [])) (h3:∀ H',Oth p H H'->Q .non H'):φone C x y H Q
inductive φtwo (C:Addr) (x y z:V) (H:Hp) (Q:VK):Prop
 | mk (p dx:Addr) (h1:x=.ref p) (h2:H p=some (.ins C dx [])) (h3:∀ H',Oth p H H'->Q .non H'):φtwo C x y z H Q
inductive φthree (C:Addr) (x y z u:V) (H:Hp) (Q:VK):Prop
 | mk (p dx:Addr) (h1:x=.ref p) (h2:H p=some (.ins C dx [])) (h3:∀ H',Oth p H H'->Q .non H'):φthree C x y z u H Q
inductive φcapI (K:W.Frag) (C:Addr) (x y z u:V) (H:Hp) (Q:VK):Prop
 | mk (p dx l:Addr) (vs:List V) (h1:x=.ref p) (h2:H p=some (.ins C dx [])) (h4:u=.ref l) (h5:H l=some (.lst vs)) (h3:∀ H',Oth p H H'->Q .non H'):φcapI K C x y z u H Q
inductive φoffI (K:W.Frag) (C:Addr) (x y z:V) (H:Hp) (Q:VK):Prop
 | mk (p dx l l2:Addr) (vs us:List V) (h1:x=.ref p) (h2:H p=some (.ins C dx [])) (h4:y=.ref l) (h5:H l=some (.lst vs)) (h6:z=.ref l2) (h7:H l2=some (.lst us))
   (h3:∀ H' fs lk,Oth p H H'->H' p=some (.ins C dx fs)->fs.lookup (Str.ofString "kinds")=some (.ref lk)->H' lk=some (.lst vs)->lk≠p->(fs.lookup (Str.ofString "named")=none/\fs.lookup (Str.ofString "kind")=none)->Q .non H'):φoffI K C x y z H Q
inductive φkindI (K:W.Frag) (C:Addr) (x nm pa te py co of li un wa:V) (H:Hp) (Q:VK):Prop
 | mk (p dx l1 l2 l3 l4 l5:Addr) (v1 v2 v3 v4 v5:List V) (h1:x=.ref p) (h2:H p=some (.ins C dx [])) (e1:pa=.ref l1) (k1:H l1=some (.lst v1)) (e2:te=.ref l2) (k2:H l2=some (.lst v2)) (e3:py=.ref l3) (k3:H l3=some (.lst v3)) (e4:co=.ref l4) (k4:H l4=some (.lst v4)) (e5:of=.ref l5) (k5:H l5=some (.lst v5))
   (h3:∀ H' fs lc lo,Oth p H H'->H' p=some (.ins C dx fs)->fs.lookup (Str.ofString "title")=some nm->fs.lookup (Str.ofString "counts")=some (.ref lc)->fs.lookup (Str.ofString "offs")=some (.ref lo)->fs.lookup (Str.ofString "limit")=some li->(fs.lookup (Str.ofString "unit")=some un/\fs.lookup (Str.ofString "greatest_rate")=none)->H' lc=some (.lst v4)->lc≠p->H' lo=some (.lst v5)->lo≠p->H lc=none->H lo=none->Q .non H'):φkindI K C x nm pa te py co of li un wa H Q
inductive φnamed (K:W.Frag) (t:Adr) (x:V) (H:Hp) (Q:VK):Prop
 | mk (p:Addr) (rs:List Rw) (h1:x=.ref p) (h2:Of K t H rs p) (h3:rs.length<=60) (h4:∀ q H',Same H H'->H q=none->H' q=some (.lst ((rs.map (·.nm)).map V.str))->Q (.ref q) H'):φnamed K t x H Q
def Vn (H':Hp) (rs:List Rw) (kvs:List (Key×V)):Prop:=kvs.length=rs.length/\∀ (i:Nat) r,rs[i]?=some r->∃ l,kvs[i]?=some (Sum.inr r.nm,.ref l)/\H' l=some (.lst (r.cs.map fun c=>V.str c.1))
inductive φleans (K:W.Frag) (t:Adr) (x:V) (H:Hp) (Q:VK):Prop
 | mk (p:Addr) (rs:List Rw) (h1:x=.ref p) (h2:Of K t H rs p) (h3:(rs.map (·.nm)).Nodup) (h4:rs.length<=60) (h5:∀ r∈rs,r.cs.length<=60)
   (h6:∀ d kvs H',H d=none->Same H H'->H' d=some (.dK kvs)->Vn H' rs kvs->(∀ kv∈kvs,∃ l,kv.2=.ref l/\H l=none)->Q (.ref d) H'):φleans K t x H Q
theorem Xj {fs:List (Str×V)}{f:Str}(h:fs.length<=n):(QX f v fs).length<=n+1:=FR (Q4 _ _ _) (Nat.succ_le_succ h)
theorem WE (T:Tx K mg t) (F:Fun K "__init__" "Base.__init__" ZE f fd):FnOk P w K mg base CX0 1 f fd ["self","amount"] (Sp2 (φone t.bK)):=by
 refine F.ok Wv Z3 (fun cdv A outer s H vs Q E hr h=>?_);obtain ⟨_,_,rfl,p,dx,rfl,hp,q⟩:=h;refine ⟨_,((Qg (QF K rfl (pu 0) (pu 1)))),?_⟩;nofun;exact XZ hp T.jX T.jY (by decide) (q _ (Oth.refl p H).put)
theorem WA (T:Tx K mg t) (F:Fun K "__init__" "Rent.__init__" ZA f fd):FnOk P w K mg base CX0 1 f fd ["self","rate","most"] (Sp3 (φtwo t.bH)):=by
 refine F.ok Wr GA (fun cdv A outer s H vs Q E hr h=>?_);obtain ⟨_,_,_,rfl,p,dx,rfl,hp,q⟩:=h;refine ⟨_,((Qd (QF K rfl (pu 0) (pu 1))
   (Qg (QF K rfl (pu 0) (pu 2))))),?_⟩
 nofun;refine XZ hp T.dW T.kD (by decide) ?_;nofun;exact XZ Qe T.dW T.kE (En (Q4 _ _ _) (by decide)) (q _ (Oth.refl p H).put.put)
theorem WD (T:Tx K mg t) (F:Fun K "__init__" "Each.__init__" ZD f fd):FnOk P w K mg base CX0 1 f fd ["self","amount","low","high"] (Sp4 (φthree t.aY)):=by
 refine F.ok Wu Gz (fun cdv A outer s H vs Q E hr h=>?_);obtain ⟨_,_,_,_,rfl,p,dx,rfl,hp,q⟩:=h;refine ⟨_,((Qd (QF K rfl (pu 0) (pu 1))
   (Qd (QF K rfl (pu 0) (pu 2))
   (Qg (QF K rfl (pu 0) (pu 3)))))),?_⟩
 nofun;refine XZ hp T.d6 T.jZ (by decide) ?_;nofun;refine XZ Qe T.d6 T.kA (En (Q4 _ _ _) (by decide)) ?_;nofun;exact XZ Qe T.d6 T.kC (En (Xj (Q4 _ _ _)) (by decide)) (q _ (Oth.refl p H).put.put.put)
theorem WC (T:Tx K mg t) (F:Fun K "__init__" "From.__init__" ZC f fd):FnOk P w K mg base CX0 1 f fd ["self","many","low","high"] (Sp4 (φthree t.aZ)):=by
 refine F.ok Wt Gz (fun cdv A outer s H vs Q E hr h=>?_);obtain ⟨_,_,_,_,rfl,p,dx,rfl,hp,q⟩:=h;refine ⟨_,((Qd (QF K rfl (pu 0) (pu 1))
   (Qd (QF K rfl (pu 0) (pu 2))
   (Qg (QF K rfl (pu 0) (pu 3)))))),?_⟩
 nofun;refine XZ hp T.d9 T.kG (by decide) ?_;nofun;refine XZ Qe T.d9 T.kH (En (Q4 _ _ _) (by decide)) ?_;nofun;exact XZ Qe T.d9 T.kI (En (Xj (Q4 _ _ _)) (by decide)) (q _ (Oth.refl p H).put.put.put)
theorem Wz (T:Tx K mg t) (F:Fun K "__init__" "Upto.__init__" Zz f fd):FnOk P w K mg base CX0 1 f fd ["self","many","low","high"] (Sp4 (φthree t.bA)):=by
 refine F.ok Wq Gz (fun cdv A outer s H vs Q E hr h=>?_);obtain ⟨_,_,_,_,rfl,p,dx,rfl,hp,q⟩:=h;refine ⟨_,((Qd (QF K rfl (pu 0) (pu 1))
   (Qd (QF K rfl (pu 0) (pu 2))
   (Qg (QF K rfl (pu 0) (pu 3)))))),?_⟩
 nofun;refine XZ hp T.dA T.kJ (by decide) ?_;nofun;refine XZ Qe T.dA T.kK (En (Q4 _ _ _) (by decide)) ?_;nofun;exact XZ Qe T.dA T.kL (En (Xj (Q4 _ _ _)) (by decide)) (q _ (Oth.refl p H).put.put.put)
theorem Xs (h:H p=some (.lst ys)) (q:∀ l,H l=none->Q (.ref l) (upd H l (.lst ys))):KJ K [.ref p] H Q:=⟨p,ys,rfl,.inl (SqL.of h),q⟩
theorem K1 {fs:List (Str×V)}(h:H p=some (.ins C dx fs)) (k:H l=some (.lst vs)):l≠p:=fun e=>by rw [e,h] at k;cases k
theorem QJ {o:HO}(h:H p=some o) (k:H l=none):l≠p:=fun e=>by rw [e,h] at k;cases k
theorem W2 (T:Tx K mg t) (F:Fun K "__init__" "Cap.__init__" ZK f fd):FnOk P w K mg base CX0 1 f fd ["self","limit","each","titles"] (Sp4 (φcapI K t.aQ)):=by
 refine F.ok W0 Gz (fun cdv A outer s H vs Q E hr h=>?_);obtain ⟨_,_,_,_,rfl,p,dx,l,vs,rfl,hp,rfl,kl,q⟩:=h;refine ⟨_,((Qd (QF K rfl (pu 0) (pu 1))
   (Qd (QF K rfl (pu 0) (pu 2))
   (Qg (QF K rfl (pu 0) (QK (Zk K rfl) (by rfl) T.aP Ei (Qa (pu 3) Qc))))))),?_⟩
 have lp:=K1 hp kl;nofun;refine XZ hp T.d0 T.jT (by decide) ?_;nofun;refine XZ Qe T.d0 T.jU (En (Q4 _ _ _) (by decide)) ?_;nofun;walk_at"dg";refine Xs (by rw [Qj lp,Qj lp];exact kl) fun l' hl'=>?_
 have h1:=(Oth.refl p H).put (o:=.ins t.aQ dx (QX (Str.ofString "limit") _ [])) |>.put (o:=.ins t.aQ dx _) |>.new (o:=.lst vs) hl'
 have np:=QJ Qe hl';refine ⟨p,t.aQ,dx,_,rfl,by rw [Qj np.symm];exact Qe,T.d0,T.jV,En (Xj (Q4 _ _ _)) (by decide),q _ h1.put⟩
theorem YD (T:Tx K mg t) (F:Fun K "__init__" "Office.__init__" Zi f fd):FnOk P w K mg base CX0 1 f fd ["self","kinds","caps"] (Sp3 (φoffI K t.aM)):=by
 refine F.ok Yz GA (fun cdv A outer s H vs Q E hr h=>?_);obtain ⟨_,_,_,rfl,p,dx,l,l2,vs,us,rfl,hp,rfl,kl,rfl,kl2,q⟩:=h;refine ⟨_,((Qd (QF K rfl (pu 0) (QK (Zk K rfl) (by rfl) T.aP Ei (Qa (pu 1) Qc)))
   (Qg (QF K rfl (pu 0) (QK (Zk K rfl) (by rfl) T.aP Ei (Qa (pu 2) Qc)))))),?_⟩
 have lp:=K1 hp kl;have lp2:=K1 hp kl2;nofun;walk_at"dg";refine Xs kl fun l' hl'=>?_
 have h1:=(Oth.refl p H).new (o:=.lst vs) hl';have np:=QJ hp hl';refine ⟨p,t.aM,dx,_,rfl,by rw [Qj np.symm];exact hp,T.bD,T.cD,by decide,?_⟩;have h2:=h1.put (o:=.ins t.aM dx (QX (Str.ofString "kinds") (.ref l') []));have k2:(upd (upd H l' (.lst vs)) p (.ins t.aM dx (QX (Str.ofString "kinds") (.ref l') []))) p=some (.ins t.aM dx (QX (Str.ofString "kinds") (.ref l') [])):=Qe;have k3:(upd (upd H l' (.lst vs)) p (.ins t.aM dx (QX (Str.ofString "kinds") (.ref l') []))) l'=some (.lst vs):=by rw [Qj np];exact Qe
 generalize upd (upd H l' (.lst vs)) p (.ins t.aM dx (QX (Str.ofString "kinds") (.ref l') []))=H2 at *;walk_at"dg";refine Xs (h2 _ _ lp2 kl2) fun l3 hl3=>?_
 have np3:=QJ k2 hl3;have np4:=QJ k3 hl3;refine ⟨p,t.aM,dx,_,rfl,by rw [Qj np3.symm];exact k2,T.bD,T.jW,En (Q4 _ _ _) (by decide),?_⟩;refine q _ _ l' (h2.new (o:=.lst us) hl3).put Qe ?_ (by rw [Qj np,Qj np4.symm];exact k3) np ?_
 ·rw [Ql,Fh (by decide +kernel),Ql,Fk rfl]
 ·exact ⟨by rw [Ql,Fh (by decide +kernel),Ql,Fh (by decide +kernel)];rfl,by rw [Ql,Fh (by decide +kernel),Ql,Fh (by decide +kernel)];rfl⟩
theorem Yg (hk:kvs.map (·.1)=ak.map Sum.inr) {z:Str}(hz:z ∉ ak):Q8 kvs (Sum.inr z:Key)=none:=by
 cases q:Q8 kvs (Sum.inr z:Key) with
 | none=>rfl
 | some v=>
  have:=UH q;rw [hk] at this;obtain ⟨y,hy,e⟩:=Fw.mp this;cases e;exact absurd hy hz
theorem Je {f:α->β}{l:List α}(nd:(l.map f).Nodup) {i:Nat}{x:α}(h:l[i]?=some x):f x ∉ (l.take i).map f:=by
 intro hm;obtain ⟨y,hy,e⟩:=Fw.mp hm;obtain ⟨j,hj,ey⟩:=List.mem_iff_getElem.mp hy;rw [FN] at hj;have hi:=Qx h;have ex:l[i]'hi=x:=Fy ((Fj hi).symm.trans h);rw [List.getElem_take] at ey;have:j=i:=(List.getElem_inj (h₀:=by rw [Fi];omega) (h₁:=by rw [Fi];exact hi) nd).mp (by rw [Da,Da,ey,ex,e]);omega
theorem VU {H0:Hp}{f:Str}{fs:List (Str×V)}(ot:Oth p H0 H) (hp:H p=some (.ins C dx fs)) (hp0:H0 p=some (.ins C dx [])) (kl:H0 l=some (.lst vs)) {Q:Hp->Prop}(c:Cls K C) (n:NoAttr K C f) (hl:fs.length<1000)
  (q:∀ l' H',H0 l'=none->Oth p H0 H'->Oth p H H'->H' p=some (.ins C dx (QX f (.ref l') fs))->H' l'=some (.lst vs)->l'≠p->Q H') :
  KJ K [.ref l] H fun x H1=>∃ a C' dx' fs',V.ref p=.ref a/\H1 a=some (.ins C' dx' fs')/\Cls K C'/\NoAttr K C' f/\fs'.length<1000/\Q (upd H1 a (.ins C' dx' (QX f x fs'))):=by
 refine Xs (ot _ _ (K1 hp0 kl) kl) fun l' hl'=>?_
 have np:=QJ hp hl';exact ⟨p,C,dx,fs,rfl,by rw [Qj np.symm];exact hp,c,n,hl,q l' _ (by cases e:H0 l' with | none=>rfl | some u=>rw [ot _ _ np e] at hl';cases hl') (ot.new hl').put ((Oth.refl p H).new hl').put Qe (by rw [Qj np];exact Qe) np⟩
def kF (xtitle xparts xterms xpays xcounts xoffs xlimit xunit xway:V):List (Str×V):=QX (Str.ofString "way") xway (QX (Str.ofString "unit") xunit (QX (Str.ofString "limit") xlimit (QX (Str.ofString "offs") xoffs (QX (Str.ofString "counts") xcounts (QX (Str.ofString "pays") xpays (QX (Str.ofString "terms") xterms (QX (Str.ofString "parts") xparts (QX (Str.ofString "title") xtitle []))))))))
theorem HL (xtitle xparts xterms xpays xcounts xoffs xlimit xunit xway:V):(kF xtitle xparts xterms xpays xcounts xoffs xlimit xunit xway).lookup (Str.ofString "title")=some xtitle/\(kF xtitle xparts xterms xpays xcounts xoffs xlimit xunit xway).lookup (Str.ofString "counts")=some xcounts/\(kF xtitle xparts xterms xpays xcounts xoffs xlimit xunit xway).lookup (Str.ofString "offs")=some xoffs/\(kF xtitle xparts xterms xpays xcounts xoffs xlimit xunit xway).lookup (Str.ofString "limit")=some xlimit/\((kF xtitle xparts xterms xpays xcounts xoffs xlimit xunit xway).lookup (Str.ofString "unit")=some xunit/\(kF xtitle xparts xterms xpays xcounts xoffs xlimit xunit xway).lookup (Str.ofString "greatest_rate")=none):=by
 unfold kF;refine ⟨?_,?_,?_,?_,?_⟩
 ·rw [Ql,Fh (by decide +kernel),Ql,Fh (by decide +kernel),Ql,Fh (by decide +kernel),Ql,Fh (by decide +kernel),Ql,Fh (by decide +kernel),Ql,Fh (by decide +kernel),Ql,Fh (by decide +kernel),Ql,Fh (by decide +kernel),Ql,Fk rfl]
 ·rw [Ql,Fh (by decide +kernel),Ql,Fh (by decide +kernel),Ql,Fh (by decide +kernel),Ql,Fh (by decide +kernel),Ql,Fk rfl]
 ·rw [Ql,Fh (by decide +kernel),Ql,Fh (by decide +kernel),Ql,Fh (by decide +kernel),Ql,Fk rfl]
 ·rw [Ql,Fh (by decide +kernel),Ql,Fh (by decide +kernel),Ql,Fk rfl]
 ·exact ⟨by rw [Ql,Fh (by decide +kernel),Ql,Fk rfl],by rw [Ql,Fh (by decide +kernel),Ql,Fh (by decide +kernel),Ql,Fh (by decide +kernel),Ql,Fh (by decide +kernel),Ql,Fh (by decide +kernel),Ql,Fh (by decide +kernel),Ql,Fh (by decide +kernel),Ql,Fh (by decide +kernel),Ql,Fh (by decide +kernel)];rfl⟩
theorem WB (T:Tx K mg t) (F:FunD K "__init__" "Kind.__init__" QE f fd):FnOk P w K mg base CX0 1 f fd ["self","title","parts","terms","pays","counts","offs","limit","unit","way"] (PQ (φkindI K t.aE)):=by
 refine F.ok Ws Sr (fun cdv A outer s H vs Q E hr h=>?_);obtain ⟨_,nm,_,_,_,_,_,li,un,wa,rfl,p,dx,l1,l2,l3,l4,l5,v1,v2,v3,v4,v5,rfl,hp,rfl,k1,rfl,k2,rfl,k3,rfl,k4,rfl,k5,q⟩:=h;refine ⟨_,((Qd (QF K rfl (pu 0) (pu 1))
   (Qd (QF K rfl (pu 0) (QK (Zk K rfl) (by rfl) T.aP Ei (Qa (pu 2) Qc)))
   (Qd (QF K rfl (pu 0) (QK (Zk K rfl) (by rfl) T.aP Ei (Qa (pu 3) Qc)))
   (Qd (QF K rfl (pu 0) (QK (Zk K rfl) (by rfl) T.aP Ei (Qa (pu 4) Qc)))
   (Qd (QF K rfl (pu 0) (QK (Zk K rfl) (by rfl) T.aP Ei (Qa (pu 5) Qc)))
   (Qd (QF K rfl (pu 0) (QK (Zk K rfl) (by rfl) T.aP Ei (Qa (pu 6) Qc)))
   (Qd (QF K rfl (pu 0) (pu 7))
   (Qd (QF K rfl (pu 0) (pu 8))
   (Qg (QF K rfl (pu 0) (pu 9)))))))))))),?_⟩
 nofun;refine XZ hp T.aL T.cA (by decide) ?_;have o1:=(Oth.refl p H).put (o:=.ins t.aE dx (QX (Str.ofString "title") nm []));have i1:(upd H p (.ins t.aE dx (QX (Str.ofString "title") nm []))) p=some (.ins t.aE dx (QX (Str.ofString "title") nm [])):=Qe;have z1:(QX (Str.ofString "title") nm []).length<=1:=Q4 _ _ _;generalize upd H p (.ins t.aE dx (QX (Str.ofString "title") nm []))=H1 at *;nofun;walk_at"dg";refine VU o1 i1 hp k1 T.aL T.jP (by omega) fun m1 H2 fr1 o2 t2 i2 j1 np1=>?_
 have z2:=Xj (f:=Str.ofString "parts") (v:=.ref m1) z1;nofun;walk_at"dg";refine VU o2 i2 hp k2 T.aL T.jQ (by omega) fun m2 H3 fr2 o3 t3 i3 j2 np2=>?_
 have z3:=Xj (f:=Str.ofString "terms") (v:=.ref m2) z2;nofun;walk_at"dg";refine VU o3 i3 hp k3 T.aL T.jR (by omega) fun m3 H4 fr3 o4 t4 i4 j3 np3=>?_
 have z4:=Xj (f:=Str.ofString "pays") (v:=.ref m3) z3;nofun;walk_at"dg";refine VU o4 i4 hp k4 T.aL T.cZ (by omega) fun m4 H5 fr4 o5 t5 i5 j4 np4=>?_
 have z5:=Xj (f:=Str.ofString "counts") (v:=.ref m4) z4;nofun;walk_at"dg";refine VU o5 i5 hp k5 T.aL T.cB (by omega) fun m5 H6 fr5 o6 t6 i6 j5 np5=>?_
 have z6:=Xj (f:=Str.ofString "offs") (v:=.ref m5) z5;nofun;refine XZ i6 T.aL T.dS (by omega) ?_;have z7:=Xj (f:=Str.ofString "limit") (v:=li) z6;nofun;refine XZ Qe T.aL T.dU (by omega) ?_;have z8:=Xj (f:=Str.ofString "unit") (v:=un) z7;nofun;refine XZ Qe T.aL T.jS (by omega) ?_;obtain ⟨e1,e2,e3,e4,e5⟩:=HL nm (.ref m1) (.ref m2) (.ref m3) (.ref m4) (.ref m5) li un wa;exact q _ _ m4 m5 o6.put.put.put Qe e1 e2 e3 e4 e5 (by rw [Qj np4,Qj np4,Qj np4];exact t6 _ _ np4 j4) np4 (by rw [Qj np5,Qj np5,Qj np5];exact j5) np5 fr4 fr5
theorem Me (T:Tx K mg t) (F:Fun K "leans" "leans" W8 f fd):FnOk P w K mg base CX0 1 f fd ["office"] (Sp1 (φleans K t)):=by
 refine F.ok sc_leans Wp (fun cdv A outer s H vs Q E hr h=>?_);obtain ⟨_,rfl,p,rs,rfl,⟨dx,fs,lk,vs,hp,hf,hk,hA,_⟩,nd,rl,cl,q⟩:=h;have hvl:=hA.1;refine ⟨_,((Qd (Qk (i:=1) sc_leans.nd rfl (Or.inl rfl) X4)
   (Qd (Za FX rfl (piK K rfl (Zv K rfl (pu 0))) (Qp (i:=2) sc_leans.nd rfl (Or.inl rfl))
   (Qg (Yo (Z2 hr) (pu 1) (Zv K rfl (pu 2)) (Y6 (N:=["title","rate"]) (caps:=[none,none]) rfl ZY (piK K rfl (Zv K rfl (pu 2))) (fun _ _ _ _=>pgK (n:=2) K rfl rfl (Qz (Qp (i:=0) (show (["title","rate"]:List Str).Nodup by decide +kernel) rfl (Or.inl rfl) (.inr rfl)) (Qz (Qp (i:=1) (show (["title","rate"]:List Str).Nodup by decide +kernel) rfl (Or.inl rfl) (.inr rfl)) Zp))) (fun _ _ _ _=>QT) (fun _ _ _ _=>(pu 0))) rfl)))
   (Qg (Qu (pu 1)))))),?_⟩
 nofun;walk_at"dg";intro d hd;generalize e_g1:upd H d _=H1 at *;obtain ⟨g1,k1⟩:=nwH hd e_g1;refine ⟨p,_,dx,fs,_,rfl,g1 _ _ hp,T.bD,T.cD,hf,lk,rfl,⟨_,SqL.of (g1 _ _ hk)⟩,?_⟩;refine JE (xs:=vs) (fun i σ' H'=>∃ (kvs:List (Key×V)) (x2:Option V),σ'=[some (.ref p),some (.ref d),x2]/\Same H H'/\H' d=some (.dK kvs)/\Vn H' (rs.take i) kvs/\∀ kv∈kvs,∃ l,kv.2=.ref l/\H l=none) ⟨[],none,rfl,g1,k1,⟨rfl,fun i r h=>by simp at h⟩,fun kv h=>nomatch h⟩ (fun i σ' H' _ h=>by obtain ⟨_,_,_,g,_⟩:=h;exact SqL.of (g _ _ hk)) ?_ ?_
 ·rintro i v _ H2 hv ⟨kvs,x2,rfl,g2,k2,⟨kl,ko⟩,kn⟩;obtain ⟨r,hr,kp,kdx,kfs,lc,lo,rfl,h1,h2,h3,h4,h5,h6,⟨cv,kc,hC⟩,h8⟩:=hA.getV hv;have hi:=Qx hv;have g2':=g2;nofun;walk_at"dg";simp only [QS];walk_at"dg";have hcl:cv.length<=60:=by rw [<-hC.1];exact cl r (Fu hr)
  refine Jk (g2 _ _ h1) T.aL T.cZ h3 ?_;refine ⟨lc,rfl,⟨_,SqL.of (g2 _ _ kc)⟩,ZS (xs:=cv) (fun j acc σ' H'=>∃ x0 x1:Option V,σ'=[x0,x1]/\H'=H2/\acc=(r.cs.take j).map fun c=>V.str c.1) ⟨none,none,rfl,rfl,rfl⟩ (fun j acc σ' H' _ h=>by obtain ⟨_,_,_,rfl,_⟩:=h;exact SqL.of (g2 _ _ kc)) (by omega) ?_ ?_⟩
  ·rintro j u acc _ H3 hu hacc ⟨x0,x1,rfl,e3,rfl⟩;rw [e3];obtain ⟨c,hc,pc,z,rfl,hT,hz⟩:=hC.getV hu;refine Xc (g2.sqT hT) rfl ?_;nofun;simp only [ZR];nofun;refine CN.mk (Qx hu) (by simp;omega) ⟨_,_,rfl,rfl,?_⟩;rw [FH,hc,Fx];rfl
  ·rintro acc _ H3 ⟨x0,x1,rfl,e3,rfl⟩ l hl;rw [e3] at hl ⊢;rw [<-hC.1,FI];generalize e_g3:upd H2 l _=H4 at *;obtain ⟨g3,k3⟩:=nwH hl e_g3;have keys:kvs.map (·.1)=((rs.take i).map (·.nm)).map Sum.inr:=by
    apply Eu;intro n;rw [Fv,Fv,Fv];cases e:(rs.take i)[n]? with
    | some r'=>obtain ⟨l',h',_⟩:=ko n r' e;rw [h'];rfl
    | none=>
     have:kvs[n]?=none:=by rw [Dx] at e ⊢;omega
     rw [this];rfl
   have nin:r.nm ∉ (rs.take i).map (·.nm):=Je nd hr;refine ⟨kp,_,kdx,kfs,_,rfl,g3 _ _ (g2 _ _ h1),T.aL,T.cA,h2,d,_,rfl,DPut.k (k:=Sum.inr r.nm) (g3 _ _ k2) (by rw [kl];unfold sizeLine;have:=List.length_take_le i rs;omega),?_⟩;rw [Y2 _ (Yg keys nin)];have ld:l≠d:=fun e=>by rw [e,k2] at hl;cases hl
   refine ⟨_,_,rfl,QI (g2.trans g3) hd,Qe,⟨?_,?_⟩,?_⟩
   ·rw [Fo,kl,FH,hr,Fo];rfl
   ·intro n r' hn;rw [FH,hr] at hn;rcases EZ n (rs.take i).length with c | c
    ·rw [Eh c] at hn;obtain ⟨l',h',h''⟩:=ko n r' hn;refine ⟨l',by rw [Eh (by omega)];exact h',?_⟩;have:l'≠d:=fun e=>by rw [e,k2] at h'';cases h''
     rw [Qj this];exact g3 _ _ h''
    ·have hn':n=(rs.take i).length:=by
      have:=Qx hn;rw [Fo] at this;simp at this;simp at c;simp;omega
     subst hn';rw [Ee (Fl _),EN] at hn;cases hn;refine ⟨l,by rw [<-kl,Ee (Fl _),EN];rfl,by rw [Qj ld];exact k3⟩
   ·intro kv hkv;rcases FK.mp hkv with h | h
    ·exact kn kv h
    ·rw [FC.mp h];exact ⟨l,rfl,g2.free hl⟩
 ·rintro _ H2 ⟨kvs,x2,rfl,g2,k2,ko,kn⟩;nofun;rw [<-hvl,FI] at ko;exact q d kvs H2 hd g2 k2 ko kn
theorem W1 (T:Tx K mg t) (F:Fun K "named" "Office.named" ZJ f fd):FnOk P w K mg base CX0 1 f fd ["self"] (Sp1 (φnamed K t)):=by
 refine F.ok WZ Wp (fun cdv A outer s H vs Q E hr h=>?_);obtain ⟨_,rfl,p,rs,rfl,⟨dx,fs,lk,vs,hp,hf,hk,hA,_⟩,hn,q⟩:=h;have hvl:=hA.1;refine ⟨_,((Qg (Qu (Zd (N:=["one"]) (caps:=[none]) rfl ZY (piK K rfl (Zv K rfl (pu 0))) (fun _ _ _ _=>Qp (i:=0) (show (["one"]:List Str).Nodup by decide +kernel) rfl (Or.inl rfl) (.inr rfl)) (fun _ _ _ _=>QT) (fun _ _ _ _=>(Zv K rfl (pu 0))))))),?_⟩;nofun;simp only [QS];nofun;refine Jk hp T.bD T.cD hf ⟨lk,rfl,⟨_,SqL.of hk⟩,?_⟩;refine ZS (xs:=vs) (fun i acc σ' H'=>∃ x0:Option V,σ'=[x0]/\H'=H/\acc=(rs.take i).map fun r=>V.str r.nm) ⟨none,rfl,rfl,rfl⟩ (fun i acc σ' H' _ h=>by obtain ⟨_,_,rfl,_⟩:=h;exact SqL.of hk) (by omega) ?_ ?_
 ·rintro i v acc _ H2 hv hacc ⟨x0,rfl,e2,rfl⟩;rw [e2];obtain ⟨r,hr',kp,kdx,kfs,lc,lo,rfl,h1,h2,_⟩:=hA.getV hv;simp only [ZR];nofun;refine Jk h1 T.aL T.cA h2 ?_;refine CN.mk (Qx hv) (by rw [Fo,Fz];omega) ⟨_,rfl,rfl,?_⟩;rw [FH,hr',Fx];rfl
 ·rintro acc _ H2 ⟨x0,rfl,e2,rfl⟩ l hl;rw [e2] at hl ⊢;rw [<-hvl,FI];exact q _ _ (Qi hl _) hl (by rw [Eg];exact Qe)
inductive Rc (nb:Str->List Str) (S:List Str):Str->Prop
 | start {x:Str} (h:x∈S):Rc nb S x
 | step {x y:Str} (h:Rc nb S x) (a:y∈nb x):Rc nb S y
theorem Xf:∀ {l m:List Str},l.Nodup->(∀ z∈l,z∈m)->l.length<=m.length
 | [],_,_,_=>F1 _
 | x :: l,m,nd,h=>by
  have hx:=h x FU;have nd':=Ex.mp nd;have:=Xf (m:=m.erase x) nd'.2 fun z hz=>(List.mem_erase_of_ne (fun e=>nd'.1 (by rw [<-e];exact hz))).mpr (h z (FZ _ hz))
  rw [List.length_erase_of_mem hx] at this;have:=List.length_pos_of_mem hx;simp only [El];omega
structure SfC (nb:Str->List Str) (S ak:List Str) (st:List (Str×Option Str)) (ws:List Str):Prop where
 nd:(st.map (·.1)).Nodup
 rc:∀ x∈st.map (·.1),Rc nb S x
 ks:∀ x∈st.map (·.1),x∈ak
 wk:∀ x∈ws,x∈st.map (·.1)
 ss:∀ x∈S,x∈st.map (·.1)
theorem SfC.le {nb:Str->List Str}{st:List (Str×Option Str)}{ws:List Str}(h:SfC nb S ak st ws):st.length<=ak.length:=by
 have:=Xf h.nd h.ks;rwa [Fi] at this
inductive φsf (K:W.Frag) (x y:V) (H:Hp) (Q:VK):Prop
 | mk (n b:Addr) (S ak:List Str) (nb:Str->List Str) (h1:x=.ref n) (h2:y=.ref b) (h3:H b=some (.lst (S.map V.str))) (h4:Nb H n ak nb) (h5:∀ s∈S,s∈ak) (h6:ak.length<=60) (h7:S.length<=60) (h8:∀ z∈ak,(∀ y∈nb z,y∈ak)/\(nb z).length<=60)
   (h9:∀ p (st:List (Str×Option Str)) H',H p=none->Same H H'->H' p=some (.dK (st.map stE))->(st.map (·.1)).Nodup->(∀ x,x∈st.map (·.1)↔Rc nb S x)->st.length<=ak.length->Q (.ref p) H'):φsf K x y H Q
def SfA (H:Hp) (n b p:Addr) (S:List Str) (i:Nat) (σ':L2.St) (H':Hp):Prop:=∃ (x3:Option V) (ks:List Str),σ'=[some (.ref n),some (.ref b),some (.ref p),x3,none,none,none]/\Same H H'/\H' p=some (.dK ((ks.map fun k=>(k,(none:Option Str))).map stE))/\ks.Nodup/\(∀ x∈ks,x∈S)/\∀ x∈S.take i,x∈ks
theorem GJ {ks:List Str}{s:Str}(h:s∈ks):X0 ((ks.map fun k=>(k,(none:Option Str))).map stE) (Sum.inr s) (vO none)=(ks.map fun k=>(k,(none:Option Str))).map stE:=by
 unfold X0;rw [Fk (List.any_eq_true.mpr ⟨stE (s,none),List.mem_map_of_mem (Fw.mpr ⟨s,h,rfl⟩),by simp [stE]⟩)];rw [Eg,Eg,Eg];refine List.map_congr_left fun k _=>?_
 show (if (stE (k,none)).1=Sum.inr s then ((stE (k,none)).1,vO none) else stE (k,none))=stE (k,none);split <;> rfl
def SfW (H:Hp) (n b p q:Addr) (S ak:List Str) (nb:Str->List Str) (m:Nat) (σ':L2.St) (H':Hp):Prop:=∃ (st:List (Str×Option Str)) (ws:List Str) (x3 x5 x6:Option V),σ'=[some (.ref n),some (.ref b),some (.ref p),x3,some (.ref q),x5,x6]/\Same H H'/\H' p=some (.dK (st.map stE))/\H' q=some (.lst (ws.map V.str)) /\
 SfC nb S ak st ws/\(∀ x∈st.map (·.1),x ∉ ws->∀ y,y∈nb x->y∈st.map (·.1))/\m=2*(ak.length-st.length)+ws.length/\m<=2*ak.length+S.length
def SfF (H:Hp) (n b p q:Addr) (S ak:List Str) (nb:Str->List Str) (m:Nat) (x:Str) (i:Nat) (σ':L2.St) (H':Hp):Prop:=∃ (st:List (Str×Option Str)) (ws:List Str) (x3 x6:Option V),σ'=[some (.ref n),some (.ref b),some (.ref p),x3,some (.ref q),some (.str x),x6]/\Same H H'/\H' p=some (.dK (st.map stE))/\H' q=some (.lst (ws.map V.str)) /\
 SfC nb S ak st ws/\(∀ z∈st.map (·.1),z≠x->z ∉ ws->∀ y,y∈nb z->y∈st.map (·.1))/\x∈st.map (·.1)/\(∀ y∈(nb x).take i,y∈st.map (·.1))/\2*(ak.length-st.length)+ws.length+1<=m
theorem JV (T:Tx K mg t) (F:Fun K "steps_from" "steps_from" Z4 f fd):FnOk P w K mg base CX0 1 f fd ["neighbours","starts"] (Sp2 (φsf K)):=by
 refine F.ok sc_steps_from Z3 (fun cdv A outer s H vs Q E hr h=>?_);obtain ⟨_,_,rfl,n,b,S,ak,nb,rfl,rfl,hb,hN,hS,hn,hsl,hin,q⟩:=h;refine ⟨_,((Qd (Qk (i:=2) sc_steps_from.nd rfl (Or.inl rfl) X4)
   (Qd (Za FX rfl (piK K rfl (pu 1)) (Qp (i:=3) sc_steps_from.nd rfl (Or.inl rfl))
   (Qg (Yo (Z2 hr) (pu 2) (pu 3) ZF rfl)))
   (Qd (Qk (i:=4) sc_steps_from.nd rfl (Or.inl rfl) (QK (Zk K rfl) (by rfl) T.aP Ei (Qa (pu 1) Qc)))
   (Qd (XA FX (ZN (pu 4) (fun _=>rfl)) (Qd (Qk (i:=5) sc_steps_from.nd rfl (Or.inl rfl) (LP K rfl Ej PySem.F.slot_list_pop PySem.F.type_list_pop R9 (pu 4)))
   (Qg (Za FX rfl (piK K rfl (Xp (Z2 hr) (pu 0) (pu 5) (fun _ _=>rfl))) (Qp (i:=6) sc_steps_from.nd rfl (Or.inl rfl))
   (Qg (QM (N0 (Kj (Z2 hr) (pu 6) (pu 2))) (Qd (Yo (Z2 hr) (pu 2) (pu 6) (pu 5) rfl)
   (Qg (Zu (ZO K rfl Ej EA EB Zg (pu 4) (Qa (pu 6) Qc))))) Qy))))))
   (Qg (Qu (pu 2)))))))),?_⟩
 generalize hR:ZX (Xe _ (Ze 4)) _=R;nofun;walk_at"dg";intro p hp0;refine ⟨b,rfl,⟨_,SqL.of ((Qi hp0 _) _ _ hb)⟩,JE (xs:=S.map V.str) (SfA H n b p S) ⟨none,[],rfl,Qi hp0 _,Qe,List.nodup_nil,(fun x h=>nomatch h),fun x h=>by simp at h⟩ (fun i σ' H' _ h=>by obtain ⟨_,_,_,g,_⟩:=h;exact SqL.of (g _ _ hb)) ?_ ?_⟩
 ·rintro i v _ H' hv ⟨x3,ks,rfl,g,hk,knd,kin,kal⟩;rw [Fv] at hv;obtain ⟨s,hs,rfl⟩:=FW.mp hv;have sS:=Fu hs;have kl:=Xf knd kin;nofun;walk_at"dg";refine ⟨p,_,rfl,DPut.k (k:=Sum.inr s) hk (by rw [Fi,Fi];unfold sizeLine;omega),?_⟩;by_cases c:s∈ks
  ·refine ⟨_,ks,rfl,QI g hp0,?_,knd,kin,fun x hx=>?_⟩
   ·rw [show (V.non)=vO none from rfl,GJ c];exact Qe
   ·rw [FH,hs] at hx;rcases FK.mp hx with h | h
    ·exact kal x h
    ·rw [show x=s by simpa using h];exact c
  ·refine ⟨_,ks++[s],rfl,QI g hp0,?_,?_,fun x hx=>?_,fun x hx=>?_⟩
   ·rw [show (V.non)=vO none from rfl,NI (by rw [Eg];simpa using c)];rw [Fx (f:=fun k=>(k,(none:Option Str)))];exact Qe
   ·refine Ds.mpr ⟨knd,DC _ _,fun a ha b hb e=>?_⟩;rw [show b=s from FC.mp hb] at e;exact c (e ▸ ha)
   ·rcases FK.mp hx with h | h
    ·exact kin x h
    ·rw [FC.mp h];exact sS
   ·rw [FH,hs] at hx;rcases FK.mp hx with h | h
    ·exact EI _ (kal x h)
    ·rw [show x=s by simpa using h];exact F8 _ (FC.mpr rfl)
 ·rintro _ H1 ⟨x3,ks,rfl,g1,hk1,knd,kin,kal⟩;rw [Fi,FI] at kal;subst hR;nofun;refine Xs (g1 _ _ hb) fun w0 hw0=>?_
  have w0n:H w0=none:=g1.free hw0;have km0:(ks.map fun k=>(k,(none:Option Str))).map (·.1)=ks:=by rw [Eg];exact E4 _
  have hk2:(upd H1 w0 (.lst (S.map V.str))) p=some (.dK ((ks.map fun k=>(k,(none:Option Str))).map stE)):=by rw [Qj (Q0 hk1 hw0)];exact hk1
  have hw2:(upd H1 w0 (.lst (S.map V.str))) w0=some (.lst (S.map V.str)):=Qe;have g2:=g1.trans (Qi hw0 (.lst (S.map V.str)));generalize upd H1 w0 (.lst (S.map V.str))=H2 at *;have C2:SfC nb S ak (ks.map fun k=>(k,(none:Option Str))) S:=by
   refine ⟨?_,?_,?_,?_,?_⟩
   ·rw [km0];exact knd
   ·rw [km0];exact fun x hx=>.start (kin x hx)
   ·rw [km0];exact fun x hx=>hS x (kin x hx)
   ·rw [km0];exact kal
   ·rw [km0];exact kal
  refine ⟨SfW H n b p w0 S ak nb,⟨_,_,S,x3,none,none,rfl,g2,hk2,hw2,C2,fun x hx hw=>?_,rfl,by omega⟩,?_⟩
  ·rw [km0] at hx;exact absurd (kin x hx) hw
  rintro m _ H3 ⟨st,ws,x3,x5,x6,rfl,g3,k3,w3,C3,cl3,rfl,hm⟩;nofun;walk_at"dg";refine ⟨!(ws.map V.str).isEmpty,.inl ⟨_,SqL.of w3,rfl⟩,?_⟩;rcases List.eq_nil_or_concat ws with rfl | ⟨ws0,x,rfl⟩
  ·rw [Fh (by simp)];nofun;refine q p st H3 hp0 g3 k3 C3.nd (fun x=>⟨C3.rc x,fun h=>?_⟩) C3.le
   induction h with
   | start h=>exact C3.ss _ h
   | step _ a ih=>exact cl3 _ ih (fun z=>nomatch z) _ a
  ·rw [Fk (by simp)];refine ⟨_,fun _ _ z=>z,?_⟩;nofun;have dl:((ws0.concat x).map V.str).dropLast=ws0.map V.str:=by simp
   refine ⟨.inl ⟨rfl,_,SqL.of w3⟩,w0,_,.str x,rfl,rfl,w3,by simp,?_⟩;rw [dl];have g4:Same H (upd H3 w0 (.lst (ws0.map V.str))):=QI g3 w0n;have k4:(upd H3 w0 (.lst (ws0.map V.str))) p=some (.dK (st.map stE)):=by rw [Qj (VH k3 w3 (fun z=>nomatch z))];exact k3
   have w4:(upd H3 w0 (.lst (ws0.map V.str))) w0=some (.lst (ws0.map V.str)):=Qe;generalize upd H3 w0 (.lst (ws0.map V.str))=H4 at *;have xk:x∈st.map (·.1):=C3.wk x (by simp);obtain ⟨kvN,hn0,vN⟩:=id hN;obtain ⟨an,en,kn⟩:=vN x (C3.ks x xk);have ln:=(hin x (C3.ks x xk)).2;refine ⟨n,.ref an,rfl,by have:=DGet.k (k:=Sum.inr x) (g4 _ _ hn0);rw [en] at this;exact this,an,rfl,⟨_,SqL.of (g4 _ _ kn)⟩,JE (xs:=(nb x).map V.str) (SfF H n b p w0 S ak nb (2*(ak.length-st.length)+(ws0.concat x).length) x) ⟨st,ws0,x3,x6,rfl,g4,k4,w4,⟨C3.nd,C3.rc,C3.ks,fun y hy=>C3.wk y (by simp [hy]),C3.ss⟩,fun z hz hzx hzw=>cl3 z hz (by simp [hzw,hzx]),xk,fun y hy=>by simp at hy,by simp;omega⟩ ?_ ?_ ?_⟩
   ·rintro i σ' H' _ ⟨_,_,_,_,_,g,_⟩;exact SqL.of (g _ _ kn)
   ·rintro i v _ H5 hv ⟨st',ws',x3',x6',rfl,g5,k5,w5,C5,cl5,xk5,nb5,hm5⟩;rw [Fv] at hv;obtain ⟨y,hy,rfl⟩:=FW.mp hv;have ya:y∈nb x:=Fu hy;have tk:(nb x).take (i+1)=(nb x).take i++[y]:=by rw [FH,hy];rfl
    have hle:=C5.le;nofun;walk_at"dg";refine ⟨p,_,rfl,DGet.k (k:=Sum.inr y) k5,?_⟩;rw [Gy];by_cases c:y∈st'.map (·.1)
    ·rw [FT c,Fh (by decide)];refine ⟨st',ws',_,_,rfl,g5,k5,w5,C5,cl5,xk5,fun z hz=>?_,hm5⟩;rw [tk] at hz;rcases FK.mp hz with h | h
     ·exact nb5 z h
     ·rw [FC.mp h];exact c
    ·rw [FQ c,Fk (by decide)];walk_at"dg";have wl:ws'.length<=500:=by
      have:(ws0.concat x).length=ws0.length+1:=by simp
      omega
     refine ⟨p,_,rfl,DPut.k (k:=Sum.inr y) k5 (by rw [Fi];unfold sizeLine;omega),?_⟩;rw [show (V.str x)=vO (some x) from rfl,NI c];have km:∀ z,z∈(st'++[(y,some x)]).map (·.1)↔z∈st'.map (·.1)∨z=y:=fun z=>by simp
     have g6:Same H (upd H5 p (.dK ((st'++[(y,some x)]).map stE))):=QI g5 hp0;have w6:(upd H5 p (.dK ((st'++[(y,some x)]).map stE))) w0=some (.lst (ws'.map V.str)):=by rw [Qj (VH w5 k5 (fun z=>nomatch z))];exact w5
     have k6:(upd H5 p (.dK ((st'++[(y,some x)]).map stE))) p=some (.dK ((st'++[(y,some x)]).map stE)):=Qe;generalize upd H5 p (.dK ((st'++[(y,some x)]).map stE))=H6 at *;refine ⟨.inl ⟨rfl,_,SqL.of w6⟩,Zy w6 (QN (by rw [Fi];omega)) ?_⟩;have C6:SfC nb S ak (st'++[(y,some x)]) (ws'++[y]):=by
      refine ⟨?_,fun z hz=>?_,fun z hz=>?_,fun z hz=>?_,fun z hz=>(km z).mpr (.inl (C5.ss z hz))⟩
      ·rw [Fx];refine Ds.mpr ⟨C5.nd,DC _ _,fun a ha b hb e=>?_⟩;rw [show b=y from FC.mp hb] at e;exact c (e ▸ ha)
      ·rcases (km z).mp hz with h | h
       ·exact C5.rc z h
       ·rw [h];exact .step (C5.rc x xk5) ya
      ·rcases (km z).mp hz with h | h
       ·exact C5.ks z h
       ·rw [h];exact (hin x (C5.ks x xk5)).1 y ya
      ·rcases FK.mp hz with h | h
       ·exact (km z).mpr (.inl (C5.wk z h))
       ·exact (km z).mpr (.inr (FC.mp h))
     have hle6:=C6.le;rw [Fo,Fz] at hle6;refine ⟨st'++[(y,some x)],ws'++[y],_,_,rfl,QI g6 w0n,by rw [Qj (VH k6 w6 (fun z=>nomatch z))];exact k6,by rw [Qe,Fx];rfl,C6,fun z hz hzx hzw u hu=>?_,(km x).mpr (.inl xk5),fun z hz=>?_,by rw [Fo,Fo,Fz,Fz];omega⟩
     ·have hzw':z ∉ ws':=fun h=>hzw (EI _ h)
      have hzy:z≠y:=fun h=>hzw (by rw [h];simp)
      rcases (km z).mp hz with h | h
      ·exact (km u).mpr (.inl (cl5 z h hzx hzw' u hu))
      ·exact absurd h hzy
     ·rw [tk] at hz;rcases FK.mp hz with h | h
      ·exact (km z).mpr (.inl (nb5 z h))
      ·exact (km z).mpr (.inr (FC.mp h))
   ·rintro _ H5 ⟨st',ws',x3',x6',rfl,g5,k5,w5,C5,cl5,xk5,nb5,hm5⟩;rw [Fi,FI] at nb5;refine ⟨2*(ak.length-st'.length)+ws'.length,by omega,st',ws',_,_,_,rfl,g5,k5,w5,C5,fun z hz hzw u hu=>?_,rfl,by omega⟩;by_cases c:z=x
    ·subst c;exact nb5 u hu
    ·exact cl5 z hz c hzw u hu
theorem Ky (hk:kvs.map (·.1)=ak.map Sum.inr) (nd:ak.Nodup) {i:Nat}{z:Str}{v:V}(h:kvs[i]?=some (Sum.inr z,v)):Q8 kvs (Sum.inr z:Key)=some v:=by
 induction kvs generalizing ak i with
 | nil=>simp at h
 | cons kv rest ih=>
  cases ak with
  | nil=>simp at hk
  | cons n ns=>
   rw [F3,F3] at hk;injection hk with e1 e2
   rw [Ex] at nd;obtain ⟨k0,v0⟩:=kv;have e1:k0=Sum.inr n:=e1;cases i with
   | zero=>rw [DA] at h;cases h;unfold Q8;simp
   | succ j=>
    rw [EW] at h;have hz:z∈ns:=by
     have hm:(Sum.inr z:Key)∈rest.map (·.1):=Fw.mpr ⟨_,Fu h,rfl⟩;rw [e2] at hm;obtain ⟨y,hy,e⟩:=Fw.mp hm;cases e;exact hy
    have ne:¬ k0=(Sum.inr z:Key):=fun e=>by
     rw [e1] at e;cases e;exact nd.1 hz
    have:=ih e2 nd.2 h;unfold Q8 at this ⊢;rw [List.find?_cons_of_neg (by simpa using ne)];exact this
def nbR (rs:List Rw) (x:Str):List Str:=((rs.find? fun r=>decide (r.nm=x)).map fun r=>r.cs.map (·.1)).getD []
theorem Jx:∀ {rs:List Rw}{i:Nat}{r:Rw},(rs.map (·.nm)).Nodup->rs[i]?=some r->nbR rs r.nm=r.cs.map (·.1)
 | [],_,_,_,h=>by simp at h
 | r0 :: rs,0,r,_,h=>by
  cases h;unfold nbR;rw [List.find?_cons_of_pos (by simp)];rfl
 | r0 :: rs,i+1,r,nd,h=>by
  rw [F3,Ex] at nd;rw [EW] at h;have ne:¬ r0.nm=r.nm:=fun e=>nd.1 (by rw [e];exact List.mem_map_of_mem (Fu h))
  have ih:=Jx nd.2 h;unfold nbR at *;rw [List.find?_cons_of_neg (by simpa using ne)];exact ih
theorem Kk (h:Vn H rs kvs):kvs.map (·.1)=(rs.map (·.nm)).map Sum.inr:=by
 obtain ⟨kl,ko⟩:=h;apply Eu;intro n;rw [Fv,Fv,Fv];cases e:rs[n]? with
 | some r'=>obtain ⟨l',h',_⟩:=ko n r' e;rw [h'];rfl
 | none=>
  have:kvs[n]?=none:=by rw [Dx] at e ⊢;omega
  rw [this];rfl
theorem K2 (hd:H d=some (.dK kvs)) (h:Vn H rs kvs) (nd:(rs.map (·.nm)).Nodup):Nb H d (rs.map (·.nm)) (nbR rs):=⟨kvs,hd,fun z hz=>by
 obtain ⟨r,hr,e⟩:=Fw.mp hz;obtain ⟨i,hi⟩:=F4 hr;obtain ⟨l,h1,h2⟩:=h.2 i r hi;subst e;refine ⟨l,Ky (Kk h) nd h1,?_⟩;rw [Jx nd hi,Eg];exact h2⟩
structure Rows (rs:List Rw):Prop where
 nd:(rs.map (·.nm)).Nodup
 le:rs.length<=8
 cl:∀ r∈rs,r.cs.length<=60
 cn:∀ r∈rs,(r.cs.map (·.1)).Nodup
 ci:∀ r∈rs,∀ c∈r.cs,c.1∈rs.map (·.nm)
theorem Rows.nb (h:Rows rs):∀ z∈rs.map (·.nm),(∀ y∈nbR rs z,y∈rs.map (·.nm))/\(nbR rs z).length<=60/\(nbR rs z).Nodup:=fun z hz=>by
 obtain ⟨r,hr,e⟩:=Fw.mp hz;obtain ⟨i,hi⟩:=F4 hr;subst e;rw [Jx h.nd hi];refine ⟨fun y hy=>?_,by rw [Fi];exact h.cl r hr,h.cn r hr⟩;obtain ⟨c,hc,e⟩:=Fw.mp hy;rw [<-e];exact h.ci r hr c hc
inductive φlead (K:W.Frag) (t:Adr) (x y:V) (H:Hp) (Q:VK):Prop
 | mk (p:Addr) (rs:List Rw) (z:Str) (h1:x=.ref p) (h2:Of K t H rs p) (h3:Rows rs) (h4:y=.str z)
   (h7:z∈rs.map (·.nm)) (h8:∀ l (ss:List Str) H',H l=none->Same H H'->H' l=some (.lst (ss.map V.str))->ss.Nodup->sortedS ss=true->(∀ x,x∈ss↔Rc (nbR rs) (nbR rs z) x)->Q (.ref l) H'):φlead K t x y H Q
theorem VC (T:Tx K mg t) (F:Fun K "leads_to" "leads_to" XI f fd) (dY:Cal P w K mg base 1 "steps_from" ["neighbours","starts"] (Sp2M (φsf K))) (bN:Cal P w K mg base 1 "leans" ["office"] (Sp1M (φleans K t))):FnOk P w K mg base CX0 2 f fd ["office","title"] (Sp2 (φlead K t)):=by
 refine F.ok sc_leads_to Z3 (fun cdv A outer s H vs Q E hr h=>?_);obtain ⟨_,_,rfl,p,rs,z,rfl,hO,hRs,rfl,hz,q⟩:=h;have hle:=hRs.le;refine ⟨_,((Qd (Qk (i:=2) sc_leads_to.nd rfl (Or.inl rfl) (Qs bN (hrm hr) rfl (Qa (pu 0) Qc)))
   (Qd (QM (N0 (Kj (Z2 hr) (pu 1) (pu 2))) (Qg Js) Qy)
   (Qg (Qu (Qm (Vj rfl) (by rfl) T.cU boot_sorted (Qa (Qs dY (hrm hr) rfl (Qa (pu 2) (Qa (Xp (Z2 hr) (pu 2) (pu 1) (fun _ _=>rfl)) Qc))) Qc))))))),?_⟩
 nofun;refine ⟨p,rs,rfl,hO,hRs.nd,by omega,hRs.cl,fun d kvs H1 hd g1 kd lo _=>?_⟩;have keys:=Kk lo;have hNb:=K2 kd lo hRs.nd;walk_at"dg";refine ⟨d,_,rfl,DGet.k (k:=Sum.inr z) kd,?_⟩;obtain ⟨kv0,e0,hv⟩:=hNb;rw [kd] at e0;cases e0;obtain ⟨l,hl,kl⟩:=hv z hz;rw [Fh (by rw [hl];exact fun e=>Bool.noConfusion e)];obtain ⟨n1,n2,n3⟩:=hRs.nb z hz;refine ⟨d,.ref l,rfl,by have:=DGet.k (k:=Sum.inr z) kd;rw [hl] at this;exact this,?_⟩;refine ⟨d,l,nbR rs z,rs.map (·.nm),nbR rs,rfl,rfl,kl,K2 kd lo hRs.nd,n1,by rw [Fi];omega,n2,fun y hy=>⟨(hRs.nb y hy).1,(hRs.nb y hy).2.1⟩,fun p2 st H2 f2 g2 k2 snd srec sle=>?_⟩;rw [Fi] at sle;refine ⟨p2,_,st.map (·.1),rfl,.inl k2,W5 st,by rw [Fi];omega,fun l3 ss hl3 pm sr=>?_⟩;exact q l3 ss _ ((g1.trans g2).free hl3) ((g1.trans g2).trans (Qi hl3 _)) Qe (pm.nodup_iff.mpr snd) sr fun x=>by rw [pm.mem_iff];exact srec x
def cl (ns:List Int) (k:Int):Int:=ns.getD k.toNat 0
def φcell (K:W.Frag):V->V->Hp->VK->Prop:=fun x y H Q=>∃ (a:Addr) (ns:List Int) (k:Int),x=.ref a/\y=.int k/\SqL K H a (ns.map V.int)/\0<=k/\Q (.int (cl ns k)) H
inductive φgcdA (x:V) (y:V) (H:Hp) (Q:VK):Prop
 | mk (a b:Int) (h1:x=.int a) (h2:y=.int b) (h3:Q (.int (Int.gcd a b)) H):φgcdA x y H Q
inductive φlow (x:V) (y:V) (H:Hp) (Q:VK):Prop
 | mk (t b:Int) (h1:x=.int t) (h2:y=.int b) (h3:0<b) (h4:Bd 9000 b) (h5:∀ p,H p=none->Q (.ref p) (upd H p (.tup [.int (fnum t b),.int (fden t b)]))):φlow x y H Q
inductive φrate (K:W.Frag) (x:V) (y:V) (H:Hp) (Q:VK):Prop
 | mk (c:Int) (b:Bool) (h1:x=.int c) (h2:y=.bl b) (hc:Bd 1100000 c) (h3:∀ z q H',Same H H'->Fq K H' q z->0<=q->RB 14 q->(b=true->q<1)->Q z H'):φrate K x y H Q
inductive φoffs (K:W.Frag) (x:V) (y:V) (H:Hp) (Q:VK):Prop
 | mk (c:Int) (b:Bool) (h1:x=.int c) (h2:y=.bl b) (hc:Bd 1099000 c) (h3:∀ l os H',H l=none->Same H H'->Ol K H' os l->WW (-1) os=true->(∀ p∈os,Bd 36 p.1/\0<=p.2/\RB 14 p.2/\(b=true->p.2<1))->os.length<=6->Q (.ref l) H'):φoffs K x y H Q
inductive φjump (K:W.Frag) (x:V) (H:Hp) (Q:VK):Prop
 | mk (c:Int) (h1:x=.int c) (hc:Bd 1099000 c) (h3:∀ p lm un H',Same H H'->SqT K H' p [oV lm,oV un]->(∀ i,lm=some i->0<=i/\i<=10 ^ 9)->(∀ i,un=some i->1<=i/\i<=10 ^ 9)->Q (.ref p) H'):φjump K x H Q
theorem bdU {i:Int}(h:Bd 1100000 i):Bd 4000000 i:=h.mono (by decide)
theorem kU {i:Int}(h:i.natAbs<2 ^ 40):Bd 4000000 i:=(show Bd 40 i from h).mono (by decide)
theorem KZ (T:Tx K mg t) (F:Fun K "_law_cell_at" "_law_cell_at" Xo f fd):FnOk P w K mg base CX0 1 f fd ["_law_script","_law_k"] (Sp2 (φcell K)):=by
 refine F.ok KC Z3 (fun cdv A outer s H vs Q E hr h=>?_);obtain ⟨_,_,rfl,a,ns,k,rfl,rfl,hS,hk,q⟩:=h;refine ⟨_,((Qd (QM (Qt Ju (pu 1) (Qm (Xk K rfl) (by rfl) T.aK F0 (Qa (pu 0) Qc)) (Qw _)) (Qg (Qu (Qr (ixK K rfl) (pu 0) (pu 1) (fun _ _=>rfl)))) Qy)
   (Qg (Qu Qb)))),?_⟩
 nofun;rw [Fi];refine QH (fun c=>?_) (fun c=>?_)
 ·obtain ⟨n,rfl⟩:=Ep hk;have hn:n<ns.length:=by omega
  refine Q7 hS (v:=.int (ns.getD n 0)) ?_ ?_
  ·refine QL ?_;rw [Fv,Fj hn,FO,Fj hn];rfl
  ·exact q
 ·have e:ns.getD k.toNat 0=0:=by
   rw [FO,Ec (by omega)];rfl
  unfold cl at q;rw [e] at q;exact q
theorem KY (T:Tx K mg t) (F:Fun K "_law_divisor" "_law_divisor" Xn f fd):FnOk P w K mg base CX0 1 f fd ["_law_one","_law_other"] (Sp2 φgcdA):=by
 refine F.ok sc_l_divisor Z3 (fun cdv A outer s H vs Q E hr h=>?_);obtain ⟨_,_,rfl,a,b,rfl,rfl,q⟩:=h;refine ⟨_,((Qd (XA FX (Qt (neM K rfl hr.units) (pu 1) Qb (Qw _)) (Qg (RL (i:=0) (j:=1) rfl sc_l_divisor.nd rfl rfl (by decide) rfl rfl (Qa (pu 1) (Qa (Qf Mb (pu 0) (pu 1)) Qc)) rfl)))
   (Qg (Qu (Qm JK (by rfl) T.cQ boot_abs (Qa (pu 0) Qc)))))),?_⟩
 walk_at"rd";refine ⟨fun m σ' H'=>∃ (a' b':Int),σ'=[some (.int a'),some (.int b')]/\H'=H/\b'.natAbs=m/\Int.gcd a' b'=Int.gcd a b,⟨_,a,b,rfl,rfl,rfl,rfl⟩,?_⟩;rintro m _ _ ⟨a',b',rfl,rfl,rfl,hg⟩;walk_at"rd";by_cases hz:b'=0
 ·subst hz;rw [Fh (by simp)];nofun;have e:(if a'<0 then -a' else a')=(Int.gcd a b:Int):=by
   rw [<-hg,Int.gcd_zero_right];split <;> omega
  rw [e];exact q
 ·rw [Fk (by simp [hz])];refine ⟨fun σ' H'=>∃ m',m'<b'.natAbs/\∃ (a'' b'':Int),σ'=[some (.int a''),some (.int b'')]/\H'=_/\b''.natAbs=m'/\Int.gcd a'' b''=Int.gcd a b,fun _ _ h=>h,?_⟩;refine ⟨hz,(a'.fmod b').natAbs,Bi hz,b',a'.fmod b',rfl,rfl,rfl,by rw [MJ];exact hg⟩
theorem Mf (T:Tx K mg t) (F:Fun K "_law_low" "_law_low" W9 f fd) (dZ:Cal P w K mg base 1 "_law_divisor" ["_law_one","_law_other"] (Sp2M φgcdA)):FnOk P w K mg base CX0 2 f fd ["_law_top","_law_bottom"] (Sp2 φlow):=by
 refine F.ok sc_l_low Z3 (fun cdv A outer s H vs Q E hr h=>?_);obtain ⟨_,_,rfl,t,b,rfl,rfl,hb,hs,q⟩:=h;refine ⟨_,((Qd (Qk (i:=2) sc_l_low.nd rfl (Or.inl rfl) (Qs dZ (hrm hr) rfl (Qa (pu 0) (Qa (pu 1) Qc))))
   (Qg (Qu (QA (Qa (Qf Qv (pu 0) (pu 2)) (Qa (Qf Qv (pu 1) (pu 2)) Qc))))))),?_⟩
 nofun;refine ⟨_,_,rfl,rfl,?_⟩;nofun;have hg:=K9 (t:=t) (b:=b) (by omega);have hl:=MK (t:=t) (b:=b) (by omega);have key:CDivB (fsg t b):=⟨hg,hs.le hl⟩
 have e:(Int.gcd t b:Int)=fsg t b:=by unfold fsg;rw [Fh (by omega)]
 rw [e];exact ⟨key,key,by decide,q⟩
theorem Bg {z:Addr}{t:Int}(hb:b≠0):Fq K (upd H z (.tup [.int (fnum t b),.int (fden t b)])) (Rat.divInt t b) (.ref z):=by
 obtain ⟨e1,e2⟩:=Uc (t:=t) hb;refine ⟨z,rfl,?_⟩;rw [e1,e2];exact SqT.of Qe
theorem Pc {t:Int}(hb:0<b) (h:t<b):Rat.divInt t b<1:=by
 have e:Rat.divInt t b=(t:Rat) / (b:Rat):=Rat.divInt_eq_div t b;rw [e];have hb':(0:Rat)<(b:Rat):=by exact_mod_cast hb
 rw [Rat.div_lt_iff hb',Rat.one_mul]
 exact_mod_cast h
theorem GP (T:Tx K mg t) (F:Fun K "_law_rate" "_law_rate" YU f fd) (bL:Cal P w K mg base 2 "_law_low" ["_law_top","_law_bottom"] (Sp2M φlow)):FnOk P w K mg base CX0 3 f fd ["_law_cell","_law_calm"] (Sp2 (φrate K)):=by
 refine F.ok GC Z3 (fun cdv A outer s H vs Q E hr h=>?_);obtain ⟨_,_,rfl,c,b,rfl,rfl,hc,q⟩:=h;refine ⟨_,((Qd (QM (PW.pt (ZM (Qt (eqM K rfl hr.units) (Qf Qn (pu 0) Qb) Qb (Qw _)) (ZL (ZT (ZN (pu 1) (fun _=>rfl)))))) (Qg (Qu (QA (Qa Qb (Qa Qb Qc))))) Qy)
   (Qd (QM (PW.pt (ZM (Qt (eqM K rfl hr.units) (Qf Qn (pu 0) Qb) Qb (Qw _)) (ZL (ZT (ZN (pu 1) (fun _=>rfl)))))) (Qg (Qu (Qs bL (hrm hr) rfl (Qa (Qf Qn (Qf QC (pu 0) Qb) Qb) (Qa (Qf Qq Qb (Qf Qn (Qf QC (pu 0) Qb) Qb)) Qc))))) Qy)
   (Qg (Qu (Qs bL (hrm hr) rfl (Qa (Qf Qn (Qf Qn (Qf QC (pu 0) Qb) Qb) Qb) (Qa Qb Qc)))))))),?_⟩
 have low:∀ (tp bt:Int),0<=tp->tp<10000->0<bt->bt<10000->(b=true->tp<bt)->φlow (.int tp) (.int bt) H Q:=fun tp bt a1 a2 a3 a4 a5=>by
  have b1:Bd 14 tp:=by unfold Bd;omega
  have b2:Bd 14 bt:=by unfold Bd;omega
  refine ⟨tp,bt,rfl,rfl,a3,b2.mono (by decide),fun p hp=>q _ _ _ (Qi hp _) (Bg (by omega)) ?_ (RB.of (by omega) b1 b2) fun e=>?_⟩
  ·exact Rat.divInt_nonneg a1 (by omega)
  ·exact Pc a3 (a5 e)
 have m1:CMulU c 48271:=⟨bdU hc,kU (by decide)⟩
 have m2:CMulU c 16807:=⟨bdU hc,kU (by decide)⟩
 have a1:=FM (c*48271) (show (10000:Int)≠0 by decide);have a2:=FP (c*48271) (show 0<(10000:Int) by decide);have a3:=FM (c*16807) (show (9999:Int)≠0 by decide);have a4:=FP (c*16807) (show 0<(9999:Int) by decide);have a5:=FM (c*48271 % 1000003) (show (100:Int)≠0 by decide);have a6:=FP (c*48271 % 1000003) (show 0<(100:Int) by decide);have last:CMulU c 48271/\True/\True/\φlow (V.int (c*48271 % 1000003 % 100)) (V.int 100) H Q:=⟨m1,trivial,trivial,low _ _ a5 (by omega) (by decide) (by decide) (fun _=>a6)⟩
 have mid:True/\if c % 4=1 then ∃ k,PP K (V.bl b) H k/\if k=false then CMulU c 48271/\True/\CMulU c 16807/\True/\φlow (V.int (c*48271 % 10000)) (V.int (1+c*16807 % 9999)) H Q else CMulU c 48271/\True/\True/\φlow (V.int (c*48271 % 1000003 % 100)) (V.int 100) H Q
   else CMulU c 48271/\True/\True/\φlow (V.int (c*48271 % 1000003 % 100)) (V.int 100) H Q:=
  ⟨trivial,QH (fun _=>⟨b,rfl,QH (fun eb=>⟨m1,trivial,m2,trivial,low _ _ a1 a2 (by omega) (by omega) (fun e=>by rw [eb] at e;cases e)⟩) (fun _=>last)⟩) (fun _=>last)⟩
 nofun;refine ⟨trivial,QH (fun _=>⟨b,rfl,QH (fun eb=>⟨by decide,fun p hp=>?_⟩) (fun _=>mid)⟩) (fun _=>mid)⟩;exact q _ _ _ (Qi hp _) (Fq.int (i:=1) (SqT.of Qe)) (by decide) (RB.int (show Bd 14 1 by unfold Bd;decide) (by decide)) (fun e=>by rw [eb] at e;cases e)
theorem GU (T:Tx K mg t) (F:Fun K "_law_jump" "_law_jump" YZ f fd):FnOk P w K mg base CX0 1 f fd ["_law_cell"] (Sp1 (φjump K)):=by
 refine F.ok GD Wp (fun cdv A outer s H vs Q E hr h=>?_);obtain ⟨_,rfl,c,rfl,hc,q⟩:=h;refine ⟨_,((Qd (QM (Qt (eqM K rfl hr.units) (Qf Qn (pu 0) Qb) Qb (Qw _)) (Qg (Qu (QA (Qa (Qf Qn (Qf Qv (pu 0) Qb) (Qf Qq (Qf Y7 Qb Qb) Qb)) (Qa ZF Qc))))) Qy)
   (Qd (QM (Qt (eqM K rfl hr.units) (Qf Qn (pu 0) Qb) Qb (Qw _)) (Qg (Qu (QA (Qa ZF (Qa (Qf Qq Qb (Qf Qn (Qf QC (Qf Qv (pu 0) Qb) Qb) (Qf Y7 Qb Qb))) Qc))))) Qy)
   (Qg (Qu (QA (Qa ZF (Qa ZF Qc)))))))),?_⟩
 have d8:CDivB 8:=CDivB.small (by decide) (by decide);have f8:Bd 1099000 (c.fdiv 8):=hc.fdiv;have a1:=FM (c.fdiv 8) (show (1000000001:Int)≠0 by decide);have a2:=FP (c.fdiv 8) (show 0<(1000000001:Int) by decide);have a3:=FM (c.fdiv 8*48271) (show (1000000000:Int)≠0 by decide);have a4:=FP (c.fdiv 8*48271) (show 0<(1000000000:Int) by decide);have nn:∀ i:Int,(none:Option Int)=some i->False:=fun i h=>nomatch h
 nofun;have e9:(10:Int) ^ Int.toNat 9=1000000000:=by decide
 rw [e9];have cp:UE 10 9:=by unfold UE;decide
 have mu:CMulU (c.fdiv 8) 48271:=⟨f8.mono (by decide),kU (by decide)⟩
 have one:∀ (i:Int) (P:Prop),(0<=i/\i<=10 ^ 9)->∀ j,some i=some j->0<=j/\j<=10 ^ 9:=fun i _ h j e=>by cases e;exact h
 have un1:∀ (i:Int),(1<=i/\i<=10 ^ 9)->∀ j,some i=some j->1<=j/\j<=10 ^ 9:=fun i h j e=>by cases e;exact h
 refine ⟨trivial,QH (fun _=>⟨d8,cp,by decide,by decide,fun p hp=>?_⟩) (fun _=>⟨trivial,QH (fun _=>⟨d8,mu,cp,by decide,by decide,fun p hp=>?_⟩) (fun _=>⟨by decide,fun p hp=>?_⟩)⟩)⟩
 ·exact q p (some _) none _ (Qi hp _) (SqT.of Qe) (one _ True ⟨a1,by omega⟩) (fun i h=>(nn i h).elim)
 ·exact q p none (some _) _ (Qi hp _) (SqT.of Qe) (fun i h=>(nn i h).elim) (un1 _ ⟨by omega,by omega⟩)
 ·exact q p none none _ (Qi hp _) (SqT.of Qe) (fun i h=>(nn i h).elim) (fun i h=>(nn i h).elim)
def OfI (K:W.Frag) (c:Int) (b:Bool) (p:Addr) (H:Hp) (i:Nat) (σ':L2.St) (H':Hp):Prop:=∃ (os:List (Int×Rat)) (ws:List V) (lm:Int) (x4:Option V),σ'=[some (.int c),some (.bl b),some (.ref p),some (.int lm),x4]/\Same H H'/\H' p=some (.lst ws)/\All2 (Fp K H') os ws/\WW (-1) os=true/\(∀ q∈os,Bd 36 q.1/\0<=q.2/\RB 14 q.2/\(b=true->q.2<1))/\os.length=i/\(∀ q,os[os.length-1]?=some q->q.1<lm)/\0<=lm/\lm<=2+(i:Int)*10 ^ 8
theorem GR (T:Tx K mg t) (F:Fun K "_law_offs" "_law_offs" YW f fd) (aR:Cal P w K mg base 3 "_law_rate" ["_law_cell","_law_calm"] (Sp2M (φrate K))):FnOk P w K mg base CX0 4 f fd ["_law_cell","_law_calm"] (Sp2 (φoffs K)):=by
 refine F.ok sc_l_offs Z3 (fun cdv A outer s H vs Q E hr h=>?_);obtain ⟨_,_,rfl,c,b,rfl,rfl,hc,q⟩:=h;refine ⟨_,((Qd (Qk (i:=2) sc_l_offs.nd rfl (Or.inl rfl) (QB Qc))
   (Qd (Qk (i:=3) sc_l_offs.nd rfl (Or.inl rfl) (Qf Qn (Qf Qv (pu 0) Qb) Qb))
   (Qd (Za FX rfl (Zf rfl T.aS (Qa (Qf Qn (pu 0) Qb) Qc)) (Qp (i:=4) sc_l_offs.nd rfl (Or.inl rfl))
   (Qd (Zu (ZO K rfl Ej EA EB Zg (pu 2) (Qa (QA (Qa (pu 3) (Qa (Qs aR (hrm hr) rfl (Qa (Qf Qq (Qf Qv (pu 0) Qb) (Qf QC (Qf QC (pu 4) (pu 4)) Qb)) (Qa (pu 1) Qc))) Qc))) Qc)))
   (Qg (Qk (i:=3) sc_l_offs.nd rfl (Or.inl rfl) (Qf Qq (Qf Qq (pu 3) Qb) (Qf Qn (Qf QC (Qf Qq (Qf Qv (pu 0) Qb) (Qf QC (pu 4) (pu 4))) Qb) (Qf Y7 Qb Qb)))))))
   (Qg (Qu (pu 2))))))),?_⟩
 have d7:CDivB 7:=CDivB.small (by decide) (by decide);have d21:CDivB 21:=CDivB.small (by decide) (by decide);have f21:Bd 1099000 (c.fdiv 21):=hc.fdiv;have a1:=FM (c.fdiv 7) (show (3:Int)≠0 by decide);have a2:=FP (c.fdiv 7) (show 0<(3:Int) by decide);have a3:=FM c (show (7:Int)≠0 by decide);have a4:=FP c (show 0<(7:Int) by decide);nofun;refine ⟨by decide,fun p hp=>?_⟩;generalize e_g1:upd H p _=H1 at *;obtain ⟨g1,k1⟩:=nwH hp e_g1;generalize c % 7=mm at *;refine ⟨d7,trivial,trivial,by omega,by omega,MN (OfI K c b p H) ⟨[],[],_,none,rfl,g1,k1,All2.nil,rfl,(fun q h=>nomatch h),rfl,(fun q h=>by simp at h),a1,by omega⟩ ?_ ?_⟩
 ·rintro i _ H2 hi ⟨os,ws,lm,x4,rfl,g2,k2,hA,hlim,hsz,hl,hlast,l0,l1⟩;rw [EC];nofun;have hi6:i<7:=by omega
  have ii:((i:Int)*i).natAbs<64:=by
   have e:((i:Int)*i).natAbs=i*i:=by rw [Ez];rfl
   have:i*i<=7*7:=Nat.mul_le_mul (by omega) (by omega);omega
  have iU:CMulU (i:Int) i:=⟨kU (by omega),kU (by omega)⟩
  have i5:CMulU ((i:Int)*i) 5:=⟨kU (by omega),kU (by decide)⟩
  generalize (i:Int)*i=sq at *;have c1:Bd 1100000 (c.fdiv 21+sq*5):=(f21.add (show Bd 20 (sq*5) by unfold Bd;omega)).mono (by decide);have c2:CMulU (c.fdiv 21+sq) 69621:=⟨(f21.add (show Bd 20 sq by unfold Bd;omega)).mono (by decide),kU (by decide)⟩
  have b1:=FM ((c.fdiv 21+sq)*69621) (show (100000000:Int)≠0 by decide);have b2:=FP ((c.fdiv 21+sq)*69621) (show 0<(100000000:Int) by decide);have e8:(10:Int) ^ Int.toNat 8=100000000:=by decide
  rw [e8];refine ⟨.inl ⟨rfl,_,SqL.of k2⟩,d21,iU,i5,_,b,rfl,rfl,c1,fun z r H3 g3 f3 r0 rb rl1=>⟨by decide,fun p4 hp4=>?_⟩⟩;generalize e_g4:upd H3 p4 _=H4 at *;obtain ⟨g4,k_g4⟩:=nwH hp4 e_g4;have k4:=g4 _ _ (g3 _ _ k2);have w4:Fp K H4 (lm,r) (.ref p4):=⟨p4,_,rfl,SqT.of k_g4,f3.same g4⟩
  have a4':All2 (Fp K H4) os ws:=hA.imp fun _ _ y=>(y.same g3).same g4
  refine Zy k4 (QN (by rw [<-hA.1];omega)) ?_;refine ⟨d21,iU,c2,by unfold UE;decide,by decide,os++[(lm,r)],_,_,_,rfl,QI (g2.trans (g3.trans g4)) hp,Qe,(a4'.imp fun _ _ y=>y.grow (XF k4)).snoc (w4.grow (XF k4)),Jz hlim (fun _=>by show -1<lm;omega) hlast,(fun q hq=>?_),by rw [Fo,Fz,hl],(fun q hq=>?_),by omega,by omega⟩
  ·rcases FK.mp hq with hq | hq
   ·exact hsz q hq
   ·rw [FC.mp hq];exact ⟨by show Bd 36 lm;unfold Bd;omega,r0,rb,rl1⟩
  ·rw [Fo,Fz,Nat.add_sub_cancel,Ee (Fl _),EN] at hq;cases hq;show lm<_;omega
 ·rintro _ H2 ⟨os,ws,lm,x4,rfl,g2,k2,hA,hlim,hsz,hl,hlast,l0,l1⟩;nofun;exact q p os H2 hp g2 ⟨ws,k2,hA⟩ hlim hsz (by omega)
def abc:Str:=Str.ofString "abcdefghijklmnopqrstuvwxyz"
theorem By:abc.length=26:=by decide
theorem PM:abc.length<=1000:=by rw [By];decide
theorem PN:∀ n<26,abc.cps.toList[n]?=some (97+n):=by decide +kernel
theorem Tv {i:Int}(h0:0<=i) (h1:i<26) (q:∀ y:Str,y.length=1->y.cps[0]?=some (97+i.toNat)->Q (.str y) H):rIx K (.str abc) (.int i) H Q:=by
 obtain ⟨n,rfl⟩:=Ep h0;exact .inr (.inr ⟨abc,n,97+n,rfl,rfl,Kx PM,QL (PN n (by omega)),q _ rfl rfl⟩)
theorem Ls (a b:Str):(a++b).length=a.length+b.length:=by
 show (a.cps++b.cps).size=_;rw [Array.size_append];rfl
theorem Hg {a b:Str}(h:n<a.length):(a++b).cps[n]?=a.cps[n]?:=by
 show (a.cps++b.cps)[n]?=_;rw [Array.getElem?_append_left h]
theorem Hf {a b:Str}:(a++b).cps[a.length]?=b.cps[0]?:=by
 show (a.cps++b.cps)[a.cps.size]?=_;rw [Array.getElem?_append_right (Fl _),EN]
def NmAt (pre:Bool) (sz at':Nat) (w:Int) (n:Nat) (z:Str):Prop:=z.length<=8/\1<=z.length/\if pre=true then z.length=n+1 else z.cps[at']?=some (97+((w+n) % 26).toNat)
theorem NmAt.ne {pre:Bool}{sz at' n m:Nat}{w:Int}{y z:Str}(h:NmAt pre sz at' w n y) (h':NmAt pre sz at' w m z) (hn:n<8) (hm:m<8) (ne:n≠m):y≠z:=fun e=>by
 subst e;obtain ⟨_,_,h⟩:=h;obtain ⟨_,_,h'⟩:=h';cases pre with
 | true=>rw [Fk rfl] at h h';omega
 | false=>
  rw [Fh (by decide)] at h h';rw [h] at h';have:=Fy h';omega
inductive φnames (K:W.Frag) (x:V) (H:Hp) (Q:VK):Prop
 | mk (c:Int) (h1:x=.int c) (hc:Bd 1048576 c) (h2:∀ l (ak:List Str) H',H l=none->Same H H'->H' l=some (.lst (ak.map V.str))->ak.length=8->ak.Nodup->(∀ z∈ak,z.length<=8/\1<=z.length)->Q (.ref l) H'):φnames K x H Q
theorem Mm {zs:List Str}{pre:Bool}{sz at':Nat}{w:Int}(h:∀ (n:Nat) z,zs[n]?=some z->NmAt pre sz at' w n z) (hl:zs.length=8) {f:Nat->Nat}(hf:∀ i,f i<8) (inj:∀ i j,i<8->j<8->f i=f j->i=j) {ak:List Str}(hn:ak.length=8) (e:∀ (i:Nat) z,ak[i]?=some z->zs[f i]?=some z):ak.Nodup:=by
 refine List.pairwise_iff_getElem.mpr fun i j hi hj hij he=>?_
 exact (h _ _ (e i _ (Fj hi))).ne (h _ _ (e j _ (Fj hj))) (hf i) (hf j) (fun z=>by have:=inj i j (by omega) (by omega) z;omega) he
def WdI (c:Int) (H:Hp) (i:Nat) (acc:List V) (σ':L2.St) (H':Hp):Prop:=∃ (x0:Option V) (wd:List Int),σ'=[x0,some (.int c)]/\H'=H/\acc=wd.map V.int/\wd.length=i/\∀ d∈wd,0<=d/\d<26
def NaI (c sz at':Int) (wd:List Int) (pw p:Addr) (pre:Bool) (H:Hp) (i:Nat) (σ':L2.St) (H':Hp):Prop:=∃ (zs:List Str) (x6 x7 x8:Option V),σ'=[some (.int c),some (.str abc),some (.int sz),some (.int at'),some (.ref pw),some (.ref p),x6,x7,x8,none]/\Same H H'/\H' p=some (.lst (zs.map V.str))/\H' pw=some (.lst (wd.map V.int))/\zs.length=i/\∀ (n:Nat) z,zs[n]?=some z->NmAt pre sz.toNat at'.toNat (wd.getD at'.toNat 0) n z
theorem Uk (T:Tx K mg t) (F:Fun K "_law_names" "_law_names" Yl f fd):FnOk P w K mg base CX0 1 f fd ["_law_cell"] (Sp1 (φnames K)):=by
 refine F.ok sc_l_names Wp (fun cdv A outer s H vs Q E hr h=>?_);obtain ⟨_,rfl,c,rfl,hc,q⟩:=h;refine ⟨_,((Qd (Qk (i:=1) sc_l_names.nd rfl (Or.inr rfl) Q5)
   (Qd (Qk (i:=2) sc_l_names.nd rfl (Or.inl rfl) (Qf Qq Qb (Qf Qn (pu 0) Qb)))
   (Qd (Qk (i:=3) sc_l_names.nd rfl (Or.inl rfl) (Qf Qn (Qf Qv (pu 0) Qb) (pu 2)))
   (Qd (Qk (i:=4) sc_l_names.nd rfl (Or.inr rfl) (Zd (N:=["_law_j","_law_cell"]) (caps:=[none,some 0]) rfl ZY (Zf rfl T.aS (Qa Qb Qc)) (fun _ _ _ _=>Qp (i:=0) (show (["_law_j","_law_cell"]:List Str).Nodup by decide +kernel) rfl (Or.inl rfl) (.inr rfl)) (fun _ _ _ _=>QT) (fun _ _ _ _=>(Qf Qn (Qf Qq (Qf Qn (Qf QC (Qf QC (Qf Qv (pu 1) Qb) (Qf Qq (pu 0) Qb)) Qb) Qb) (Qf QC (pu 0) (pu 0))) Qb))))
   (Qd (Qk (i:=5) sc_l_names.nd rfl (Or.inr rfl) (QB Qc))
   (Qd (Za FX rfl (Zf rfl T.aS (Qa Qb Qc)) (Qp (i:=6) sc_l_names.nd rfl (Or.inl rfl))
   (Qd (Qk (i:=7) sc_l_names.nd rfl (Or.inl rfl) Q5)
   (Qd (Za FX rfl (Zf rfl T.aS (Qa (pu 2) Qc)) (Qp (i:=8) sc_l_names.nd rfl (Or.inl rfl))
   (Qg (Qk (i:=7) sc_l_names.nd rfl (Or.inl rfl) (Qf Qq (pu 7) (Qr (ixK K rfl) (pu 1) (Qf Qn (Qf Qq (Qr (ixK K rfl) (pu 4) (pu 8) (fun _ _=>rfl)) (Qf QC (pu 6) (QK WL (by rfl) T.cT boot_int (Qa (Zw (eqM K rfl hr.units) (pu 8) (pu 3) (Qw _)) Qc)))) Qb) (fun _ _=>rfl))))))
   (Qd (QM (Qt (eqM K rfl hr.units) (Qf Qn (Qf Qv (pu 0) Qb) Qb) Qb (Qw _)) (Qg (Qk (i:=7) sc_l_names.nd rfl (Or.inl rfl) (ZO K rfl PySem.F.plainAttrs_str PySem.F.slot_str_join PySem.F.type_str_join (LY K rfl) Q5 (Qa (Zd (N:=["_law_j","_law_letters","_law_word"]) (caps:=[none,some 1,some 4]) rfl ZY (Zf rfl T.aS (Qa (Qf Qq (pu 6) Qb) Qc)) (fun _ _ _ _=>Qp (i:=0) (show (["_law_j","_law_letters","_law_word"]:List Str).Nodup by decide +kernel) rfl (Or.inl rfl) (.inr rfl)) (fun _ _ _ _=>QT) (fun _ _ _ _=>(Qr (ixK K rfl) (pu 1) (Qr (ixK K rfl) (pu 2) (pu 0) (fun _ _=>rfl)) (fun _ _=>rfl)))) Qc)))) Qy)
   (Qg (Zu (ZO K rfl Ej EA EB Zg (pu 5) (Qa (pu 7) Qc))))))))
   (Qd (Qk (i:=9) sc_l_names.nd rfl (Or.inr rfl) (Qr (ixK K rfl) (QB (Qa Qb (Qa Qb (Qa Qb (Qa Qb Qc))))) (Qf Qn (Qf Qv (pu 0) Qb) Qb) (fun _ _=>rfl)))
   (Qg (Qu (Zd (N:=["_law_k","_law_names_here","_law_step","_law_cell"]) (caps:=[none,some 5,some 9,some 0]) rfl ZY (Zf rfl T.aS (Qa Qb Qc)) (fun _ _ _ _=>Qp (i:=0) (show (["_law_k","_law_names_here","_law_step","_law_cell"]:List Str).Nodup by decide +kernel) rfl (Or.inl rfl) (.inr rfl)) (fun _ _ _ _=>QT) (fun _ _ _ _=>(Qr (ixK K rfl) (pu 1) (Qf Qn (Qf Qq (Qf QC (pu 0) (pu 2)) (Qf Qv (pu 3) Qb)) Qb) (fun _ _=>rfl)))))))))))))),?_⟩
 have d8:CDivB 8:=CDivB.small (by decide) (by decide);have d64:CDivB 64:=CDivB.small (by decide) (by decide);have f64:Bd 1048576 (c.fdiv 64):=hc.fdiv;have s0:=FM c (show (8:Int)≠0 by decide);have s1:=FP c (show 0<(8:Int) by decide);generalize hR:ZX (Xe _ (Ze 5)) _=R;nofun;refine ⟨trivial,d8,by omega,?_⟩;obtain ⟨sz,hsz,sz0,sz1⟩:∃ sz,1+c % 8=sz/\1<=sz/\sz<=8:=⟨_,rfl,by omega,by omega⟩
 rw [hsz];have t0:=FM (c.fdiv 8) (show sz≠0 by omega);have t1:=FP (c.fdiv 8) (show 0<sz by omega);generalize c.fdiv 8 % sz=at' at *;clear hsz s0 s1;simp only [QS];nofun;refine ⟨by decide,by decide,VV (WdI c H) ⟨none,[],rfl,rfl,rfl,rfl,fun d h=>nomatch h⟩ (by decide) ?_ ?_⟩
 ·rintro i acc _ H1 hi hacc ⟨x0,wd,rfl,e1,rfl,wl,wb⟩;rw [e1];have hi8:i<8:=hi;simp only [ZR];nofun;have e0:(0:Int)+i=i:=EC _;rw [e0];refine ⟨d64,⟨f64.mono (by decide),kU (by omega)⟩,⟨(f64.mul (show Bd 20 ((i:Int)+1) by unfold Bd;omega)).mono (by decide),kU (by decide)⟩,trivial,⟨kU (by omega),kU (by omega)⟩,trivial,?_⟩;generalize c.fdiv 64*((i:Int)+1)*48271 % 1009+(i:Int)*i=u;refine CN.mk hi (by rw [Fo,Fz,Fi];omega) ⟨_,wd++[u % 26],rfl,rfl,by rw [Fx];rfl,by rw [Fo,wl];rfl,fun d hd=>?_⟩;rcases FK.mp hd with h | h
  ·exact wb d h
  ·rw [FC.mp h];exact ⟨FM u (by decide),FP u (by decide)⟩
 rintro acc _ H1 ⟨x0,wd,rfl,e1,rfl,wl,wb⟩ pw hpw;rw [e1] at hpw ⊢;have wl8:wd.length=8:=wl;generalize e_g2:upd H pw _=H2 at *;obtain ⟨g2,k2⟩:=nwH hpw e_g2;have wat:∀ j:Nat,j<8->(wd.map V.int)[j]?=some (.int (wd.getD j 0))/\0<=wd.getD j 0/\wd.getD j 0<26:=fun j hj=>by
  have e:wd[j]?=some (wd.getD j 0):=by rw [FO,Fj (by omega)];rfl
  exact ⟨by rw [Fv,e];rfl,wb _ (Fu e)⟩
 subst hR;generalize hR2:ZX (Xe _ (Ze 9)) _=R2;nofun;refine ⟨by decide,fun p hp=>?_⟩;generalize e_g3:upd H2 p _=H3 at *;obtain ⟨g3,k3⟩:=nwH hp e_g3;have g03:=g2.trans g3;obtain ⟨pre,hpre⟩:∃ b:Bool,(c.fdiv 64 % 3=1↔b=true):=⟨decide (c.fdiv 64 % 3=1),by simp⟩
 refine ⟨by decide,by decide,MN (NaI c sz at' wd pw p pre H) ⟨[],none,none,none,rfl,g03,k3,g3 _ _ k2,rfl,fun n z h=>by simp at h⟩ ?_ ?_⟩
 ·rintro i _ H4 hi ⟨zs,x6,x7,x8,rfl,g4,k4,w4,zl,za⟩;have hi8:i<8:=hi;generalize hR3:ZX (Vv _ _ _) _=R3;nofun;have e0:(0:Int)+i=i:=EC _;rw [e0];refine ⟨by omega,by omega,MN (fun j σ' H'=>∃ (z:Str) (y8:Option V),σ'=[some (.int c),some (.str abc),some (.int sz),some (.int at'),some (.ref pw),some (.ref p),some (.int i),some (.str z),y8,none]/\H'=H4/\z.length=j/\(at'.toNat<j->z.cps[at'.toNat]?=some (97+((wd.getD at'.toNat 0+i) % 26).toNat))) ⟨Str.ofString "",x8,rfl,rfl,rfl,fun h=>absurd h (by omega)⟩ ?_ ?_⟩
  ·rintro j _ H5 hj ⟨z,y8,rfl,e5,zlen,zat⟩;rw [e5];have hj8:j<8:=by omega
   have e0:(0:Int)+j=j:=EC _;rw [e0];obtain ⟨wv,w0,w1⟩:=wat j hj8;nofun;refine Q7 (SqL.of w4) (QL wv) (.inr ⟨_,rfl,?_⟩);have fin:∀ u:Int,((j:Int)=at'->u=wd.getD j 0+i)->sAdd (V.int (wd.getD j 0)) (V.int (u-wd.getD j 0)) H4 fun x H1=>
       sI (fun x j=>0<j) (fun i j=>V.int (i % j)) x (V.int 26) H1 fun y H2=>
        rIx K (V.str abc) y H2 fun y H2=>
         sAdd (V.str z) y H2 fun x H1=>
          ∃ (z:Str) (y8:Option V),
           [some (V.int c),some (V.str abc),some (V.int sz),some (V.int at'),some (V.ref pw),some (V.ref p),some (V.int i),some x,some (V.int j),none] =
             [some (V.int c),some (V.str abc),some (V.int sz),some (V.int at'),some (V.ref pw),some (V.ref p),some (V.int i),some (V.str z),y8,none] /\
            H1=H4/\z.length=j+1/\(at'.toNat<j+1->z.cps[at'.toNat]?=some (97+((wd.getD at'.toNat 0+i) % 26).toNat)):=fun u hu=>by
    nofun;rw [show wd.getD j 0+(u-wd.getD j 0)=u by omega];refine ⟨by decide,Tv (FM u (by decide)) (FP u (by decide)) fun y hy yc=>?_⟩;nofun;refine ⟨Kx (by omega),z++y,_,rfl,(by first | rfl | trivial),by rw [Ls];omega,fun hlt=>?_⟩;by_cases c1:(j:Int)=at'
    ·have e:at'.toNat=z.length:=by omega
     rw [e,Hf,yc,hu c1];have:z.length=j:=zlen;rw [this]
    ·rw [Hg (by omega)];exact zat (by omega)
   by_cases c1:(j:Int)=at'
   ·rw [Fk (FT c1)];refine ⟨⟨kU (by omega),kU (by decide)⟩,?_⟩;have:=fin (wd.getD j 0+i) (fun _=>rfl);rw [show wd.getD j 0+(i:Int)-wd.getD j 0=(i:Int)*1 by omega] at this;exact this
   ·rw [Fh (by simpa using c1)];refine ⟨⟨kU (by omega),kU (by decide)⟩,?_⟩;have:=fin (wd.getD j 0) (fun h=>absurd h c1);rw [show wd.getD j 0-wd.getD j 0=(i:Int)*0 by omega] at this;exact this
  ·rintro _ H5 ⟨z,y8,rfl,e5,zlen,zat⟩;rw [e5];have szn:((sz.toNat:Nat):Int)=sz:=by omega
   show R3 _ _ _;generalize hR4:Kf _=R4 at hR3;have key:∀ (D:QU) (z:Str) (y8:Option V) (H6:Hp),D.nx=NaI c sz at' wd pw p pre H (i+1)->Same H4 H6->NmAt pre sz.toNat at'.toNat (wd.getD at'.toNat 0) i z->R4 D [some (V.int c),some (V.str abc),some (V.int sz),some (V.int at'),some (V.ref pw),some (V.ref p),some (V.int i),some (V.str z),y8,none] H6:=by
    intro D z y8 H6 hD g6 hz;subst hR4;have k6:=g6 _ _ k4;have pn:pw≠p:=fun e=>by rw [<-e,k2] at hp;cases hp
    nofun;refine ⟨.inl ⟨rfl,_,SqL.of k6⟩,Zy k6 (QN (by rw [Fi];omega)) ?_⟩;rw [hD];refine ⟨zs++[z],_,_,_,rfl,QI (g4.trans g6) (g2.free hp),by rw [Qe,Fx];rfl,by rw [Qj pn];exact g6 _ _ w4,by rw [Fo,zl];rfl,fun n y hn=>?_⟩;rcases X2 hn with ⟨h1,_⟩ | ⟨h1,rfl⟩
    ·exact za n y h1
    ·rw [h1,zl];exact hz
   subst hR3;nofun;refine ⟨d64,by decide,QH (fun c2=>?_) (fun c2=>?_)⟩
   ·simp only [QS];nofun;refine ⟨(by first | exact rfl | exact ⟨_,rfl⟩ | trivial),by omega,by omega,VV (fun j acc σ' H'=>∃ (x0:Option V) (ys:List Str),σ'=[x0,some (.str abc),some (.ref pw)]/\H'=H4/\acc=ys.map V.str/\ys.length=j/\∀ y∈ys,y.length=1) ⟨none,[],rfl,rfl,rfl,rfl,fun y h=>nomatch h⟩ (by omega) ?_ ?_⟩
    ·rintro j acc _ H5 hj hacc ⟨x0,ys,rfl,e6,rfl,yl,y1⟩;rw [e6];have e0:(0:Int)+j=j:=EC _;rw [e0];obtain ⟨wv,w0,w1⟩:=wat j (by omega);simp only [ZR];nofun;refine Q7 (SqL.of w4) (QL wv) (Tv w0 w1 fun y hy yc=>?_);refine CN.mk hj (by rw [Fo,Fz,Fi];omega) ⟨_,ys++[y],rfl,rfl,by rw [Fx];rfl,by rw [Fo,yl];rfl,fun u hu=>?_⟩;rcases FK.mp hu with h | h
     ·exact y1 u h
     ·rw [FC.mp h];exact hy
    ·rintro acc _ H5 ⟨x0,ys,rfl,e6,rfl,yl,y1⟩ pj hpj;rw [e6] at hpj ⊢;have jl:=W.KT.join_ones ys y1;have yl':ys.length=i+1:=by omega
     refine ⟨_,pj,ys,rfl,rfl,SqL.of Qe,?_,?_⟩
     ·have e:(ys.map (·.length)).sum<=ys.length:=by
       clear yl yl' jl hpj
       induction ys with
       | nil=>exact Fl _
       | cons y t ih=>rw [F3,List.sum_cons,El,y1 y FU];have:=ih (fun u hu=>y1 u (FZ _ hu));omega
      have e2:(Str.ofString "").length=0:=rfl;rw [e2];omega
     ·refine key _ _ y8 _ rfl (Qi hpj _) ⟨by rw [jl];omega,by rw [jl];omega,?_⟩;rw [hpre.mp c2,Fk rfl,jl];exact yl'
   ·refine key _ z y8 H4 rfl (Same.refl _) ⟨by omega,by omega,?_⟩;have:pre=false:=by cases pre with | true=>exact absurd (hpre.mpr rfl) c2 | false=>rfl
    rw [this,Fh (by decide)];exact zat (by omega)
 ·rintro _ H4 ⟨zs,x6,x7,x8,rfl,g4,k4,w4,zl,za⟩;show R2 _ _ _;subst hR2;nofun;refine ⟨by decide,fun p5 hp5=>⟨CDivB.small (by decide) (by decide),trivial,?_⟩⟩;generalize e_g5:upd H4 p5 _=H5 at *;obtain ⟨g5,k5⟩:=nwH hp5 e_g5;have f0:=FM (c.fdiv 192) (show (4:Int)≠0 by decide);have f1:=FP (c.fdiv 192) (show 0<(4:Int) by decide);obtain ⟨v,hv,hv'⟩:∃ v:Int,atI [V.int 1,V.int 3,V.int 5,V.int 7] (c.fdiv 192 % 4)=some (.int v)/\(v=1∨v=3∨v=5∨v=7):=by
   rcases (show c.fdiv 192 % 4=0∨c.fdiv 192 % 4=1∨c.fdiv 192 % 4=2∨c.fdiv 192 % 4=3 by omega) with e | e | e | e <;> rw [e]
   ·exact ⟨1,rfl,by decide⟩
   ·exact ⟨3,rfl,by decide⟩
   ·exact ⟨5,rfl,by decide⟩
   ·exact ⟨7,rfl,by decide⟩
  have zl8:zs.length=8:=zl;refine Q7 (SqL.of k5) hv ?_;simp only [QS];nofun;generalize hsh:c.fdiv 768=sh;refine ⟨by decide,by decide,VV (fun j acc σ' H'=>∃ (x0:Option V) (ys:List Str),σ'=[x0,some (.ref p),some (.int v),some (.int c)]/\H'=H5/\acc=ys.map V.str/\ys.length=j/\∀ (n:Nat) y,ys[n]?=some y->zs[(((n:Int)*v+sh) % 8).toNat]?=some y) ⟨none,[],rfl,rfl,rfl,rfl,fun n y h=>by simp at h⟩ (by decide) ?_ ?_⟩
  ·rintro j acc _ H6 hj hacc ⟨x0,ys,rfl,e6,rfl,yl,ya⟩;rw [e6];have hj8:j<8:=hj;have e0:(0:Int)+j=j:=EC _;rw [e0];simp only [ZR];nofun;rw [hsh];refine ⟨⟨kU (by omega),kU (by omega)⟩,CDivB.small (by decide) (by decide),by decide,?_⟩;have u0:=FM ((j:Int)*v+sh) (show (8:Int)≠0 by decide);have u1:=FP ((j:Int)*v+sh) (show 0<(8:Int) by decide);have hz:zs[(((j:Int)*v+sh) % 8).toNat]?=some (zs.getD (((j:Int)*v+sh) % 8).toNat (Str.ofString "")):=by
    rw [FO,Fj (by omega)];rfl
   refine Q7 (v:=.str (zs.getD (((j:Int)*v+sh) % 8).toNat (Str.ofString ""))) (SqL.of (g5 _ _ k4)) ?_ ?_
   ·have:=QL (xs:=zs.map V.str) (j:=(((j:Int)*v+sh) % 8).toNat) (v:=.str (zs.getD (((j:Int)*v+sh) % 8).toNat (Str.ofString ""))) (by rw [Fv,hz];rfl);rwa [Int.toNat_of_nonneg u0] at this
   ·refine CN.mk hj (by rw [Fo,Fz,Fi];omega) ⟨_,ys++[zs.getD (((j:Int)*v+sh) % 8).toNat (Str.ofString "")],rfl,rfl,by rw [Fx];rfl,by rw [Fo,yl];rfl,fun n y hn=>?_⟩;rcases X2 hn with ⟨h1,_⟩ | ⟨h1,rfl⟩
    ·exact ya n y h1
    ·rw [h1,yl];exact hz
  ·rintro acc _ H6 ⟨x0,ys,rfl,e6,rfl,yl,ya⟩ pl hpl;rw [e6] at hpl ⊢;have yl8:ys.length=8:=yl;refine q pl ys _ ((g4.trans g5).free hpl) ((g4.trans g5).trans (Qi hpl _)) Qe yl8 ?_ (fun y hy=>?_)
   ·refine Mm za zl8 (f:=fun n=>(((n:Int)*v+sh) % 8).toNat) (fun n=>by have:=FM ((n:Int)*v+sh) (show (8:Int)≠0 by decide);have:=FP ((n:Int)*v+sh) (show 0<(8:Int) by decide);show (((n:Int)*v+sh) % 8).toNat<8;omega) (fun a b ha hb he=>?_) yl8 ya;have he:(((a:Int)*v+sh) % 8).toNat=(((b:Int)*v+sh) % 8).toNat:=he;rcases hv' with rfl | rfl | rfl | rfl <;> omega
   ·obtain ⟨n,hn⟩:=F4 hy;have:=za _ _ (ya n y hn);exact ⟨this.1,this.2.1⟩
def Sg (K:W.Frag) (H:Hp) (s:Bool×List Int) (v:V):Prop:=∃ p lp,v=.ref p/\SqT K H p [.bl s.1,.ref lp]/\H lp=some (.lst (s.2.map V.int))
theorem Sg.same {s:Bool×List Int}(h:Sg K H s v) (g:Same H H'):Sg K H' s v:=by
 obtain ⟨p,lp,e,h1,h2⟩:=h;exact ⟨p,lp,e,g.sqT h1,g _ _ h2⟩
inductive φseg (K:W.Frag) (x:V) (y:V) (H:Hp) (Q:VK):Prop
 | mk (a:Addr) (ns:List Int) (m:Nat) (h1:x=.ref a) (h2:y=.int m) (h3:SqL K H a (ns.map V.int)) (h4:Ka ns) (h5:m<=8) (h5':1<=m)
   (h6:∀ l af vs H',H l=none->Same H H'->H' l=some (.lst vs)->All2 (Sg K H') af vs->(af.map (·.2)).flatten.Perm ((List.range m).map fun (i:Nat)=>(i:Int))->0<af.length->(∀ s∈af,s.2≠[])->(∀ s,af[(cl ns 50 % (af.length:Int)).toNat]?=some s->s.1=true)->Q (.ref l) H'):φseg K x y H Q
theorem YJ (h:Ka ns) (k:Int):Bd 1048576 (cl ns k):=by
 unfold cl;rw [FO];cases q:ns[k.toNat]? with
 | none=>exact Nat.two_pow_pos _
 | some i=>exact h i (Fu q)
theorem Bx {R:α->V->Prop}(p:ws.Perm vs):∀ {rs:List α},All2 R rs vs->∃ rs':List α,rs'.Perm rs/\All2 R rs' ws:=by
 have cons:∀ {r:α} {v:V} {rs:List α} {vs:List V},R r v->All2 R rs vs->All2 R (r :: rs) (v :: vs):=fun {r v rs vs} hr h=>by
  refine ⟨by simp [h.1],fun i q u a b=>?_⟩;cases i with
  | zero=>simp at a b;subst a;subst b;exact hr
  | succ i=>simp at a b;exact h.2 i q u a b
 have inv:∀ {rs:List α} {v:V} {vs:List V},All2 R rs (v :: vs)->∃ r rs',rs=r :: rs'/\R r v/\All2 R rs' vs:=fun {rs v vs} h=>by
  obtain ⟨h1,h2⟩:=h;cases rs with
  | nil=>simp at h1
  | cons r rs'=>exact ⟨r,rs',rfl,h2 0 r v rfl rfl,by simpa using h1,fun i q u a b=>h2 (i+1) q u (by simpa using a) (by simpa using b)⟩
 induction p with
 | nil=>intro rs h;exact ⟨rs,.refl _,h⟩
 | cons x p ih=>
  intro rs h;obtain ⟨r,rs',rfl,hr,h'⟩:=inv h;obtain ⟨rs2,p2,h2⟩:=ih h';exact ⟨r :: rs2,p2.cons r,cons hr h2⟩
 | swap x y l=>
  intro rs h;obtain ⟨r,rs',rfl,hr,h'⟩:=inv h;obtain ⟨r2,rs2,rfl,hr2,h2⟩:=inv h';exact ⟨r2 :: r :: rs2,.swap _ _ _,cons hr2 (cons hr h2)⟩
 | trans p q ih1 ih2=>
  intro rs h;obtain ⟨rs1,p1,h1⟩:=ih2 h;obtain ⟨rs2,p2,h2⟩:=ih1 h1;exact ⟨rs2,p2.trans p1,h2⟩
theorem Y0 {l:List Int}(h:SqL K H a (l.map V.int)):Rep K H (.lst (l.map D.int)) (.ref a):=by
 refine .lst h (by simp) fun i d x h1 h2=>?_
 rw [Fv] at h1 h2;obtain ⟨z,hz,rfl⟩:=FW.mp h1;rw [hz] at h2;cases h2;exact .int _
theorem Gf {l:List Int}:DB 30 (.lst (l.map D.int)):=.lst fun d hd=>by
 obtain ⟨z,_,rfl⟩:=Fw.mp hd;exact .int _
theorem UY {l m:List Int}:l=m↔(D.lst (l.map D.int)=.lst (m.map D.int)):=⟨fun e=>by rw [e],fun e=>by
 injection e with e
 exact List.map_inj_right (fun a b h=>by injection h) |>.mp e⟩
theorem Yd:YI xs (some (j:Int)) none=xs.drop j:=by
 unfold YI;rw [HT.sIx_nat,HT.sIx_none];by_cases h:j<=xs.length
 ·rw [Nat.min_eq_left h];exact EF (by rw [F5];exact Fl _)
 ·rw [Nat.min_eq_right (by omega),List.drop_eq_nil_of_le (Fl _),List.drop_eq_nil_of_le (by omega)];simp
theorem YH:YI xs none (some (j:Int))=xs.take j:=by
 unfold YI;rw [HT.sIx_nat,HT.sIx_none];show (xs.drop 0).take (min j xs.length-0)=_;rw [List.drop_zero,Nat.sub_zero];by_cases h:j<=xs.length
 ·rw [Nat.min_eq_left h]
 ·rw [Nat.min_eq_right (by omega),EF (Fl _),EF (by omega)]
def SgW (K:W.Frag) (a:Addr) (m:Nat) (pf:Addr) (H:Hp) (rk:List Int) (n:Nat) (σ':L2.St) (H':Hp):Prop:=∃ (af:List (Bool×List Int)) (vs:List V) (rk':List Int) (lr:Addr) (x4 x5:Option V),σ'=[some (.ref a),some (.int m),some (.ref lr),some (.ref pf),x4,x5,none]/\Same H H'/\H' lr=some (.lst (rk'.map V.int))/\lr≠pf/\H' pf=some (.lst vs)/\All2 (fun (s:Bool×List Int) v=>∃ p lp,v=V.ref p/\H' p=some (.tup [.bl s.1,.ref lp])/\H' lp=some (.lst (s.2.map V.int))/\lp≠pf/\p≠pf) af vs/\((af.map (·.2)).flatten++rk').Perm rk/\rk'.length=n/\af.length+n<=8/\∀ s∈af,s.2≠[]
theorem JW (T:Tx K mg t) (F:Fun K "_law_segments" "_law_segments" Z5 f fd) (aG:Cal P w K mg base 1 "_law_cell_at" ["_law_script","_law_k"] (Sp2M (φcell K))):FnOk P w K mg base CX0 2 f fd ["_law_script","_law_many"] (Sp2 (φseg K)):=by
 refine F.ok sc_l_segments Z3 (fun cdv A outer s H vs Q E hr h=>?_);obtain ⟨_,_,rfl,a,ns,m,rfl,rfl,hS,hB,hm,hm1,q⟩:=h;refine ⟨_,((Qd (Qk (i:=2) sc_l_segments.nd rfl (Or.inl rfl) (Qm (Vi K rfl) (by rfl) T.cU boot_sorted (Qa (Zd (N:=["_law_k","_law_script"]) (caps:=[none,some 0]) rfl ZY (Zf rfl T.aS (Qa (pu 1) Qc)) (fun _ _ _ _=>Qp (i:=0) (show (["_law_k","_law_script"]:List Str).Nodup by decide +kernel) rfl (Or.inl rfl) (.inr rfl)) (fun _ _ _ _=>QT) (fun _ _ _ _=>(QA (Qa (Qf Qn (Qf QC (Qf Qq (Qs aG (hrm hr) rfl (Qa (pu 1) (Qa (Qf Qq Qb (Qf QC Qb (pu 0))) Qc))) (Qf QC (pu 0) (pu 0))) Qb) Qb) (Qa (pu 0) Qc))))) Qc)))
   (Qd (Jr (i:=2) sc_l_segments.nd rfl (Or.inl rfl) (N:=["_law_rank","_law_k"]) (caps:=[none,none]) rfl ZY (piK K rfl (pu 2)) (fun _ _ _ _=>pgK (n:=2) K rfl rfl (Qz (Qp (i:=0) (show (["_law_rank","_law_k"]:List Str).Nodup by decide +kernel) rfl (Or.inl rfl) (.inr rfl)) (Qz (Qp (i:=1) (show (["_law_rank","_law_k"]:List Str).Nodup by decide +kernel) rfl (Or.inl rfl) (.inr rfl)) Zp))) (fun _ _ _ _=>QT) (fun _ _ _ _=>(pu 1)))
   (Qd (Qk (i:=3) sc_l_segments.nd rfl (Or.inl rfl) (QB Qc))
   (Qd (XA FX (Qt (neM K rfl hr.units) (pu 2) (QB Qc) (Qw _)) (Qd (Qk (i:=4) sc_l_segments.nd rfl (Or.inl rfl) (Qs aG (hrm hr) rfl (Qa (pu 0) (Qa (Qf Qq Qb (Qf QC Qb (Qr (ixK K rfl) (pu 2) Qb (fun _ _=>rfl)))) Qc))))
   (Qd (Qk (i:=5) sc_l_segments.nd rfl (Or.inl rfl) (Qf Qq Qb (Qf Qn (Qf Qv (pu 4) Qb) Qb)))
   (Qd (QM (Qt (eqM K rfl hr.units) (Qf Qn (pu 4) Qb) Qb (Qw _)) (Qg (Qk (i:=5) sc_l_segments.nd rfl (Or.inl rfl) Qb)) Qy)
   (Qd (Zu (ZO K rfl Ej EA EB Zg (pu 3) (Qa (QA (Qa (Zw (eqM K rfl hr.units) (Qf Qn (pu 4) Qb) Qb (Qw _)) (Qa (QW (slK K rfl) (pu 2) Zc (Zb (pu 5))) Qc))) Qc)))
   (Qg (Qk (i:=2) sc_l_segments.nd rfl (Or.inl rfl) (QW (slK K rfl) (pu 2) (Zb (pu 5)) Zc))))))))
   (Qd (Qk (i:=6) sc_l_segments.nd rfl (Or.inl rfl) (Qf Qn (Qs aG (hrm hr) rfl (Qa (pu 0) (Qa Qb Qc))) (Qm (Nh rfl) (by rfl) T.dM boot_max (Qa Qb (Qa (Qm (Xk K rfl) (by rfl) T.aK F0 (Qa (pu 3) Qc)) Qc)))))
   (Qg (Qu (Qf Qq (Qf Qq (QW (slK K rfl) (pu 3) Zc (Zb (pu 6))) (QB (Qa (QA (Qa Z1 (Qa (Qr (ixK K rfl) (Qr (ixK K rfl) (pu 3) (pu 6) (fun _ _=>rfl)) Qb (fun _ _=>rfl)) Qc))) Qc))) (QW (slK K rfl) (pu 3) (Zb (Qf Qq (pu 6) Qb)) Zc)))))))))),?_⟩
 generalize hR:ZX (Xe _ (Ze 3)) _=R;nofun;simp only [QS];nofun;refine ⟨by omega,by omega,VV (fun i acc σ' H'=>∃ (x0:Option V) (ks:List (Int×Nat)),σ'=[x0,some (.ref a)]/\Same H H'/\All2 (fun (k:Int×Nat) v=>∃ p,v=.ref p/\SqT K H' p [.int k.1,.int k.2]) ks acc/\ks.map (·.2)=List.range i) ⟨none,[],rfl,Same.refl _,All2.nil,rfl⟩ (by omega) ?_ ?_⟩
 ·rintro i acc _ H1 hi hacc ⟨x0,ks,rfl,g1,hA,hk⟩;have e0:(0:Int)+i=i:=EC _;rw [e0];have hi8:i<8:=by omega
  simp only [ZR];nofun;refine ⟨⟨kU (by decide),kU (by omega)⟩,a,ns,_,rfl,rfl,g1.seq hS,by omega,⟨kU (by omega),kU (by omega)⟩,?_⟩;have ii:((i:Int)*i).natAbs<64:=by
   have e:((i:Int)*i).natAbs=i*i:=by rw [Ez];rfl
   have:i*i<=7*7:=Nat.mul_le_mul (by omega) (by omega);omega
  have cb:Bd 1048577 (cl ns (2+6*(i:Int))+(i:Int)*i):=((YJ hB _).add (show Bd 20 ((i:Int)*i) by unfold Bd;omega)).mono (by decide);nofun;refine ⟨⟨cb.mono (by decide),kU (by decide)⟩,by decide,by decide,fun p hp=>?_⟩;generalize (cl ns (2+6*(i:Int))+(i:Int)*i)*48271 % 1009=u;have g2:=Qi hp (.tup [.int u,.int i]);refine CN.mk hi (by rw [Fo,Fz];omega) ⟨_,ks++[(u,i)],rfl,g1.trans g2,(hA.imp fun _ _ ⟨p',e,h⟩=>⟨p',e,g2.sqT h⟩).snoc ⟨p,rfl,SqT.of Qe⟩,?_⟩;rw [Fx,hk,List.range_succ];rfl
 ·rintro acc _ H1 ⟨x0,ks,rfl,g1,hA,hk⟩ l hl;have mm:((m:Int)).toNat=m:=by omega
  rw [mm] at hk;generalize e_g2:upd H1 l _=H2 at *;obtain ⟨g2,k2⟩:=nwH hl e_g2;have hA2:All2 (fun (k:Int×Nat) v=>∃ p,v=V.ref p/\SqT K H2 p [.int k.1,.int k.2]) ks acc:=hA.imp fun _ _ ⟨p',e,h⟩=>⟨p',e,g2.sqT h⟩
  have kl:ks.length=m:=by have:=congrArg List.length hk;rwa [Fi,ES] at this
  refine ⟨l,acc,[false],rfl,SqL.of k2,by rw [<-hA.1];omega,fun y hy=>?_,fun l3 zs hl3 pz=>?_⟩
  ·obtain ⟨n,hn⟩:=F4 hy;obtain ⟨k,_,p,rfl,hT⟩:=hA2.getV hn;exact ⟨p,_,rfl,hT,.cons (show Gu false (V.int k.1) from ⟨_,rfl⟩) (.cons (show Gu false (V.int k.2) from ⟨_,rfl⟩) .nil)⟩
  generalize e_g3:upd H2 l3 _=H3 at *;obtain ⟨g3,k3⟩:=nwH hl3 e_g3;obtain ⟨ks',kp,hA3⟩:∃ ks',ks'.Perm ks/\All2 (fun (k:Int×Nat) v=>∃ p,v=V.ref p/\SqT K H3 p [.int k.1,.int k.2]) ks' zs:=Bx pz (hA2.imp fun _ _ ⟨p',e,h⟩=>⟨p',e,g3.sqT h⟩);have zl:zs.length=m:=by rw [<-hA3.1,kp.length_eq,kl]
  refine ⟨l3,rfl,⟨_,SqL.of k3⟩,ZS (xs:=zs) (fun j acc σ' H'=>∃ x0 x1:Option V,σ'=[x0,x1]/\H'=H3/\acc=(ks'.take j).map fun k=>V.int k.2) ⟨none,none,rfl,rfl,rfl⟩ (fun j acc σ' H' _ h=>by obtain ⟨_,_,_,rfl,_⟩:=h;exact SqL.of k3) (by omega) ?_ ?_⟩
  ·rintro j u acc' _ H4 hu hacc ⟨y0,y1,rfl,e4,rfl⟩;rw [e4];obtain ⟨k,hk',p,rfl,hT⟩:=hA3.getV hu;refine Xc hT rfl ?_;nofun;simp only [ZR];nofun;refine CN.mk (Qx hu) (by simp;omega) ⟨_,_,rfl,rfl,?_⟩;rw [FH,hk',Fx];rfl
  ·rintro acc' _ H4 ⟨y0,y1,rfl,e4,rfl⟩ l5 hl5;rw [e4] at hl5 ⊢;rw [<-hA3.1,FI];have g5:=Qi hl5 (.lst (ks'.map fun k=>V.int k.2));obtain ⟨rk,hrk⟩:∃ rk:List Int,ks'.map (fun k=>V.int (k.2:Int))=rk.map V.int/\rk.Perm ((List.range m).map fun (i:Nat)=>(i:Int)):=⟨ks'.map fun k=>(k.2:Int),by rw [Eg];rfl,by
    have:=(kp.map fun k=>(k.2:Int))
    have e:(ks.map fun k=>(k.2:Int))=(List.range m).map fun (i:Nat)=>(i:Int):=by rw [<-hk,Eg];rfl
    rwa [e] at this⟩
   have k5:(upd H3 l5 (.lst (ks'.map fun k=>V.int k.2))) l5=some (.lst (rk.map V.int)):=by rw [Qe,hrk.1]
   have rkp:=hrk.2;generalize upd H3 l5 (.lst (ks'.map fun k=>V.int k.2))=H5 at *;have g05:=g1.trans (g2.trans (g3.trans g5));clear hA hA2 hA3 kp hk kl zl k2 k3 g1 g2 g3 g5 hrk pz hl hl3 hl5;subst hR;nofun;refine ⟨by decide,fun pf hpf=>?_⟩;generalize e_g6:upd H5 pf _=H6 at *;obtain ⟨g6,k6⟩:=nwH hpf e_g6;have r6:=g6 _ _ k5;have lf0:l5≠pf:=fun e=>by rw [<-e,k5] at hpf;cases hpf
   have pf0:H pf=none:=g05.free hpf;have g06:=g05.trans g6;have rl:rk.length<=8:=by rw [rkp.length_eq,Fi,ES];exact hm
   refine ⟨SgW K a m pf H rk,⟨_,[],[],rk,l5,none,none,rfl,g06,r6,lf0,k6,All2.nil,.refl _,rfl,by simpa using rl,fun s h=>nomatch h⟩,?_⟩;rintro n _ H7 ⟨af,vs,rk',lr,x4,x5,rfl,g7,r7,lf,f7,hS7,pm7,rn,sn,sne⟩;generalize hR2:ZX (Kf _) _=R2;nofun;refine ⟨by decide,fun pe hpe=>?_⟩;generalize e_g8:upd H7 pe _=H8 at *;obtain ⟨g8,k_g8⟩:=nwH hpe e_g8;have r8:=g8 _ _ r7;have f8:=g8 _ _ f7;have hS8:All2 (fun (s:Bool×List Int) v=>∃ p lp,v=V.ref p/\H8 p=some (.tup [.bl s.1,.ref lp])/\H8 lp=some (.lst (s.2.map V.int))/\lp≠pf/\p≠pf) af vs:=hS7.imp fun _ _ ⟨p,lp,e,h1,h2,h3,h4⟩=>⟨p,lp,e,g8 _ _ h1,g8 _ _ h2,h3,h4⟩
   refine Nt (b:=decide (rk'=[])) (Y0 (SqL.of r8)) (Y0 (l:=[]) (SqL.of k_g8)) Gf (by rw [EL,UY]) ?_;have g08:=g7.trans g8;cases rk' with
   | nil=>
    rw [FT rfl];nofun;rw [Ed] at pm7;have pmF:=pm7.trans rkp;have hvl:=hS8.1;have sl:0<af.length:=by
     rcases Nat.eq_zero_or_pos af.length with z | z
     ·have:=pmF.length_eq;rw [Dk.mp z,Fi,ES] at this;exact absurd this (by simp;omega)
     ·exact z
    refine ⟨a,ns,50,rfl,rfl,g08.seq hS,by decide,?_⟩;refine Q3 (SqL.of f8) ?_;have em:(if (vs.length:Int) > 1 then (vs.length:Int) else 1)=(af.length:Int):=by split <;> omega
    refine ⟨1,_,rfl,?_⟩;rw [em];have a0:=FM (cl ns 50) (show (af.length:Int)≠0 by omega);have a1:=FP (cl ns 50) (show 0<(af.length:Int) by omega);obtain ⟨at',hat⟩:∃ k:Nat,cl ns 50 % (af.length:Int)=(k:Int):=⟨(cl ns 50 % (af.length:Int)).toNat,by omega⟩
    nofun;rw [hat] at a1 ⊢;have hal:at'<af.length:=by omega
    refine ⟨by omega,?_⟩;obtain ⟨sg,hsg⟩:∃ sg,af[at']?=some sg:=⟨_,Fj hal⟩
    obtain ⟨v,hv,p1,lp1,rfl,hp1,hlp1,_,_⟩:=hS8.get hsg;refine Xb (SqL.of f8) fun l9 hl9=>?_
    rw [YH];generalize e_g9:upd H8 l9 _=H9 at *;obtain ⟨g9,k9⟩:=nwH hl9 e_g9;refine Q7 (SqL.of (g9 _ _ f8)) (QL hv) ?_;refine YL (SqT.of (g9 _ _ hp1)) rfl ?_;refine ⟨by decide,fun p10 hp10=>?_⟩;generalize e_g10:upd H9 p10 _=H10 at *;obtain ⟨g10,k10⟩:=nwH hp10 e_g10;refine ⟨by decide,fun l11 hl11=>?_⟩;generalize e_g11:upd H10 l11 _=H11 at *;obtain ⟨g11,k11⟩:=nwH hl11 e_g11;have g911:=g10.trans g11;nofun;have k9':=g911 _ _ k9;have tl:(vs.take at').length<=8:=by rw [FN];omega
    rw [Yx];refine ⟨l9,l11,_,_,rfl,rfl,k9',k11,by unfold sizeLine;rw [Fz];omega,fun l12 hl12=>?_⟩;generalize e_g12:upd H11 l12 _=H12 at *;obtain ⟨g12,k12⟩:=nwH hl12 e_g12;have g812:=g9.trans (g911.trans g12);refine Xb (SqL.of (g812 _ _ f8)) fun l13 hl13=>?_
    rw [show (at':Int)+1=((at'+1:Nat):Int) by omega,Yd];generalize e_g13:upd H12 l13 _=H13 at *;obtain ⟨g13,k13⟩:=nwH hl13 e_g13;have dl:(vs.drop (at'+1)).length<=8:=by rw [F5];omega
    rw [Yx];refine ⟨l12,l13,_,_,rfl,rfl,g13 _ _ k12,k13,by unfold sizeLine;rw [Fo,Fz];omega,fun l14 hl14=>?_⟩;have g14:=Qi hl14 (.lst (vs.take at'++[V.ref p10]++vs.drop (at'+1)));have g814:=g812.trans (g13.trans g14);have eseg:(af.take at'++[(true,sg.2)]++af.drop (at'+1)).map (·.2)=af.map (·.2):=by
     rw [Fx,Fx,List.map_take,List.map_drop];have h2:(af.map (·.2))[at']?=some sg.2:=by rw [Fv,hsg];rfl
     have h3:=Es at' (af.map (·.2));rw [MV h2] at h3;show List.take at' (af.map (·.2))++[sg.2]++_=_;rw [List.append_assoc];exact h3
    have hA8:All2 (Sg K H8) af vs:=hS8.imp fun _ _ ⟨p,lp,e,h1,h2,_,_⟩=>⟨p,lp,e,SqT.of h1,h2⟩
    have hA14:=hA8.imp fun _ _ h=>Sg.same h g814
    have g1014:=g11.trans (g12.trans (g13.trans g14));have new:Sg K _ (true,sg.2) (.ref p10):=⟨p10,lp1,rfl,SqT.of (g1014 _ _ k10),g814 _ _ hlp1⟩
    have len':(af.take at'++[(true,sg.2)]++af.drop (at'+1)).length=af.length:=by
     have:=congrArg List.length eseg;rwa [Fi,Fi] at this
    refine q l14 (af.take at'++[(true,sg.2)]++af.drop (at'+1)) _ _ ((g08.trans (g812.trans g13)).free hl14) (g08.trans g814) Qe (ZH (ZH (WS hA14 at') (All2.nil.snoc new)) (WT hA14 (at'+1))) (by rw [eseg];exact pmF) (by omega) (fun s hs=>?_) (fun s hs=>?_)
    ·have:s.2∈(af.take at'++[(true,sg.2)]++af.drop (at'+1)).map (·.2):=List.mem_map_of_mem hs;rw [eseg] at this;obtain ⟨s',h1,h2⟩:=Fw.mp this;rw [<-h2];exact sne s' h1
    ·rw [len',hat,Int.toNat_natCast,Eh (by rw [Fo,FN,Fz];omega),Ee (by rw [FN];omega),FN,show at'-min at' af.length=0 by omega] at hs;cases hs;rfl
   | cons r0 rt=>
    rw [FQ (by simp)];have r0m:r0∈(List.range m).map fun (i:Nat)=>(i:Int):=rkp.mem_iff.mp (pm7.mem_iff.mp (FK.mpr (.inr FU)))
    obtain ⟨rn0,hrn0,er0⟩:=Fw.mp r0m;rw [List.mem_range] at hrn0;have b0:0<=r0/\r0<8:=⟨by omega,by omega⟩
    have rtl:(r0 :: rt).length=rt.length+1:=rfl;nofun;refine ⟨fun σ' H'=>∃ m',m'<n/\SgW K a m pf H rk m' σ' H',fun σ' H' h=>h,?_⟩;refine Q7 (SqL.of r8) (QL (j:=0) (v:=.int r0) rfl) ?_;nofun;refine ⟨⟨kU (by decide),kU (by omega)⟩,a,ns,_,rfl,rfl,g08.seq hS,by omega,?_⟩;generalize cl ns (3+6*r0)=c;nofun;have key:∀ (D:QU) (sz:Nat),D.nx=(fun σ' H'=>∃ m',m'<n/\SgW K a m pf H rk m' σ' H')->1<=sz->R2 D [some (.ref a),some (.int m),some (.ref lr),some (.ref pf),some (.int c),some (.int sz),none] H8:=by
     intro D sz hD hsz;subst hR2;nofun;refine ⟨.inl ⟨rfl,_,SqL.of f8⟩,by decide,?_⟩;refine Xb (SqL.of r8) fun l9 hl9=>?_
     rw [YH,<-List.map_take];generalize e_g9:upd H8 l9 _=H9 at *;obtain ⟨g9,k9⟩:=nwH hl9 e_g9;have l9f:l9≠pf:=fun e=>by rw [e,f8] at hl9;cases hl9
     refine ⟨by decide,fun p10 hp10=>?_⟩;generalize e_g10:upd H9 p10 _=H10 at *;obtain ⟨g10,k10⟩:=nwH hp10 e_g10;have f9:=g9 _ _ f8;have p10f:p10≠pf:=fun e=>by rw [e,f9] at hp10;cases hp10
     have g810:=g9.trans g10;have hvl:=hS8.1;refine Zy (g10 _ _ f9) (QN (by omega)) ?_;have lrn:=g810 _ _ r8;have u1:∀ {q:Addr} {o:HO},q≠pf->H10 q=some o->(upd H10 pf (.lst (vs++[V.ref p10]))) q=some o:=fun h k=>by rw [Qj h];exact k
     have s11:Same H (upd H10 pf (.lst (vs++[V.ref p10]))):=QI (g08.trans g810) pf0;have hS11:All2 (fun (s:Bool×List Int) v=>∃ p lp,v=V.ref p/\(upd H10 pf (.lst (vs++[V.ref p10]))) p=some (.tup [.bl s.1,.ref lp])/\(upd H10 pf (.lst (vs++[V.ref p10]))) lp=some (.lst (s.2.map V.int))/\lp≠pf/\p≠pf) (af++[(decide (c % 2=1),(r0 :: rt).take sz)]) (vs++[V.ref p10]):=
      (hS8.imp fun _ _ ⟨p,lp,e,h1,h2,h3,h4⟩=>⟨p,lp,e,u1 h4 (g810 _ _ h1),u1 h3 (g810 _ _ h2),h3,h4⟩).snoc ⟨p10,l9,rfl,u1 p10f k10,u1 l9f (g10 _ _ k9),l9f,p10f⟩
     have r11:=u1 lf lrn;have f11:(upd H10 pf (.lst (vs++[V.ref p10]))) pf=some (.lst (vs++[V.ref p10])):=Qe;generalize upd H10 pf (.lst (vs++[V.ref p10]))=H11 at *;refine Xb (SqL.of r11) fun l12 hl12=>?_
     rw [Yd,<-List.map_drop,hD];have g12:=Qi hl12 (.lst (((r0 :: rt).drop sz).map V.int));have dl:((r0 :: rt).drop sz).length=rt.length+1-sz:=by rw [F5,rtl]
     have l12f:l12≠pf:=fun e=>by rw [e,f11] at hl12;cases hl12
     refine ⟨((r0 :: rt).drop sz).length,by rw [dl];omega,af++[(decide (c % 2=1),(r0 :: rt).take sz)],_,(r0 :: rt).drop sz,l12,_,_,rfl,s11.trans g12,Qe,l12f,g12 _ _ f11,hS11.imp fun _ _ ⟨p,lp,e,h1,h2,h3,h4⟩=>⟨p,lp,e,g12 _ _ h1,g12 _ _ h2,h3,h4⟩,?_,rfl,by rw [Fo,Fz,dl];omega,fun s hs=>?_⟩
     rotate_left
     ·rcases FK.mp hs with h | h
      ·exact sne s h
      ·rw [FC.mp h];obtain ⟨sz',rfl⟩:∃ k,sz=k+1:=⟨sz-1,by omega⟩
       exact fun e=>nomatch e
     rw [Fx,Dc,List.append_assoc];refine List.Perm.trans ?_ pm7;refine List.Perm.append_left _ ?_;show (([(r0 :: rt).take sz]).flatten++(r0 :: rt).drop sz).Perm (r0 :: rt);rw [List.flatten_singleton,Es]
    have z0:=FM (c.fdiv 2) (show (8:Int)≠0 by decide);refine ⟨CDivB.small (by decide) (by decide),trivial,trivial,QH (fun _=>key _ 1 rfl (by decide)) (fun _=>?_)⟩;have k2:=fun D h=>key D (1+c.fdiv 2 % 8).toNat h (by omega)
    rw [Int.toNat_of_nonneg (by omega)] at k2;exact k2 _ rfl
inductive φgcd (x:V) (y:V) (H:Hp) (Q:VK):Prop
 | mk (a b:Int) (h1:x=.int a) (h2:y=.int b) (h3:0<=a) (h4:0<=b) (h5:Q (.int (Int.gcd a b)) H):φgcd x y H Q
inductive φfrac (x:V) (y:V) (H:Hp) (Q:VK):Prop
 | mk (t b:Int) (h1:x=.int t) (h2:y=.int b) (h3:b≠0) (h4:Bd 9000 b) (h5:∀ p,H p=none->Q (.ref p) (upd H p (.tup [.int (fnum t b),.int (fden t b)]))):φfrac x y H Q
theorem Y9 (T:Tx K mg t) (F:Fun K "common_divisor" "common_divisor" Zr f fd):FnOk P w K mg base CX0 1 f fd ["one","other"] (Sp2 φgcd):=by
 refine F.ok sc_common_divisor Z3 (fun cdv A outer s H vs Q E hr h=>?_);obtain ⟨_,_,rfl,a,b,rfl,rfl,ha,hb,q⟩:=h;refine ⟨_,((Qd (XA FX (Qt (neM K rfl hr.units) (pu 1) Qb (Qw _)) (Qd (Qk (i:=2) sc_common_divisor.nd rfl (Or.inl rfl) (Qf Qn (pu 0) (pu 1)))
   (Qd (Qk (i:=0) sc_common_divisor.nd rfl (Or.inl rfl) (pu 1))
   (Qg (Qk (i:=1) sc_common_divisor.nd rfl (Or.inl rfl) (pu 2))))))
   (Qg (Qu (pu 0))))),?_⟩
 walk_at"rd";refine ⟨fun m σ' H'=>∃ (a' b':Int) (r:Option V),σ'=[some (.int a'),some (.int b'),r]/\H'=H/\0<=a'/\0<=b'/\b'.toNat=m/\Int.gcd a' b'=Int.gcd a b,⟨_,a,b,none,rfl,rfl,ha,hb,rfl,rfl⟩,?_⟩;rintro m _ _ ⟨a',b',r,rfl,rfl,ha',hb',rfl,hg⟩;walk_at"rd";by_cases hz:b'=0
 ·subst hz;rw [Fh (by simp)];have e:(Int.gcd a' 0:Int)=a':=MH ha';rw [hg] at e;rw [<-e];exact q
 ·rw [Fk (by simp [hz])];refine ⟨fun σ' H'=>∃ m',m'<b'.toNat/\∃ (a'' b'':Int) (r:Option V),σ'=[some (.int a''),some (.int b''),r]/\H'=_/\0<=a''/\0<=b''/\b''.toNat=m'/\Int.gcd a'' b''=Int.gcd a b,fun _ _ h=>h,?_⟩;refine ⟨by omega,(a' % b').toNat,?_,b',a' % b',_,rfl,rfl,hb',FM _ hz,rfl,?_⟩
  ·have:=FP a' (b:=b') (by omega);have:=FM a' hz;omega
  ·rw [MI ha' (by omega)];exact hg
theorem VF (T:Tx K mg t) (F:Fun K "fraction" "fraction" XN f fd) (eA:Cal P w K mg base 1 "common_divisor" ["one","other"] (Sp2M φgcd)):FnOk P w K mg base CX0 2 f fd ["top","bottom"] (Sp2 φfrac):=by
 refine F.ok sc_fraction Z3 (fun cdv A outer s H vs Q E hr h=>?_);obtain ⟨_,_,rfl,t,b,rfl,rfl,hb,hs,q⟩:=h;refine ⟨_,((Qd (QM (Qt (eqM K rfl hr.units) (pu 1) Qb (Qw _)) (Qg Js) Qy)
   (Qd (Qk (i:=2) sc_fraction.nd rfl (Or.inl rfl) (Qs eA (hrm hr) rfl (Qa (Qm JK (by rfl) T.cQ boot_abs (Qa (pu 0) Qc)) (Qa (Qm JK (by rfl) T.cQ boot_abs (Qa (pu 1) Qc)) Qc))))
   (Qd (QM (Qt Ju (pu 1) Qb (Qw _)) (Qg (Qk (i:=2) sc_fraction.nd rfl (Or.inl rfl) (SJ Lm (pu 2)))) Qy)
   (Qg (Qu (QA (Qa (Qf Qv (pu 0) (pu 2)) (Qa (Qf Qv (pu 1) (pu 2)) Qc))))))))),?_⟩
 walk_at"rd";rw [Fh hb];refine ⟨_,_,rfl,rfl,M8 t,M8 b,?_⟩;walk_at"rd";rw [Be];have hg:=K9 (t:=t) hb;have hl:=MK (t:=t) hb;have key:CDivB (fsg t b):=⟨hg,hs.le hl⟩
 by_cases hn:b<0
 ·rw [Fk hn];have e:-(Int.gcd t b:Int)=fsg t b:=by unfold fsg;rw [Fk hn]
  rw [e];refine ⟨key,key,by decide,q⟩
 ·rw [Fh hn];have e:(Int.gcd t b:Int)=fsg t b:=by unfold fsg;rw [Fh hn]
  rw [e];refine ⟨key,key,by decide,q⟩
theorem LU (T:Tx K mg t) (F:Fun K "plus" "plus" KE f fd) (bO:Cal P w K mg base 2 "fraction" ["top","bottom"] (Sp2M φfrac)):FnOk P w K mg base CX0 3 f fd ["one","other"] (Sp2 (Qop K (·+·))):=by
 refine F.ok Lw Z3 (fun cdv A outer s H vs Q E hr h=>?_);obtain ⟨_,_,rfl,a,b,m,n,⟨p,rfl,h1⟩,⟨r,rfl,h2⟩,sa,sb,hmn,q⟩:=h;refine ⟨_,((Qg (Qu (Qs bO (hrm hr) rfl (Qa (Qf Qq (Qf QR (Qr (ixK K rfl) (pu 0) Qb (fun _ _=>rfl)) (Qr (ixK K rfl) (pu 1) Qb (fun _ _=>rfl))) (Qf QR (Qr (ixK K rfl) (pu 1) Qb (fun _ _=>rfl)) (Qr (ixK K rfl) (pu 0) Qb (fun _ _=>rfl)))) (Qa (Qf QR (Qr (ixK K rfl) (pu 0) Qb (fun _ _=>rfl)) (Qr (ixK K rfl) (pu 1) Qb (fun _ _=>rfl))) Qc)))))),?_⟩;nofun;refine ⟨⟨sa.1.mono (by omega),sb.2.mono (by omega)⟩,?_⟩;nofun;refine ⟨⟨sb.1.mono (by omega),sa.2.mono (by omega)⟩,?_⟩;nofun;refine ⟨⟨sa.2.mono (by omega),sb.2.mono (by omega)⟩,_,_,rfl,rfl,E8 (dnz a) (dnz b),(sa.2.mul sb.2).mono (by omega),fun z hz=>q _ _ (Qi hz _) ?_⟩;show Fq K _ (a+b) _;rw [LA];exact Fq.new (E8 (dnz a) (dnz b))
theorem Mc (T:Tx K mg t) (F:Fun K "times" "times" W6 f fd) (bO:Cal P w K mg base 2 "fraction" ["top","bottom"] (Sp2M φfrac)):FnOk P w K mg base CX0 3 f fd ["one","other"] (Sp2 (Qop K (·*·))):=by
 refine F.ok NJ Z3 (fun cdv A outer s H vs Q E hr h=>?_);obtain ⟨_,_,rfl,a,b,m,n,⟨p,rfl,h1⟩,⟨r,rfl,h2⟩,sa,sb,hmn,q⟩:=h;refine ⟨_,((Qg (Qu (Qs bO (hrm hr) rfl (Qa (Qf QR (Qr (ixK K rfl) (pu 0) Qb (fun _ _=>rfl)) (Qr (ixK K rfl) (pu 1) Qb (fun _ _=>rfl))) (Qa (Qf QR (Qr (ixK K rfl) (pu 0) Qb (fun _ _=>rfl)) (Qr (ixK K rfl) (pu 1) Qb (fun _ _=>rfl))) Qc)))))),?_⟩;nofun;refine ⟨⟨sa.1.mono (by omega),sb.1.mono (by omega)⟩,?_⟩;nofun;refine ⟨⟨sa.2.mono (by omega),sb.2.mono (by omega)⟩,_,_,rfl,rfl,E8 (dnz a) (dnz b),(sa.2.mul sb.2).mono (by omega),fun z hz=>q _ _ (Qi hz _) ?_⟩;show Fq K _ (a*b) _;rw [KH];exact Fq.new (E8 (dnz a) (dnz b))
theorem Mi (T:Tx K mg t) (F:Fun K "below" "below" Jc f fd):FnOk P w K mg base CX0 1 f fd ["one","other"] (Sp2 (Qlt K)):=by
 refine F.ok NK Z3 (fun cdv A outer s H vs Q E hr h=>?_);obtain ⟨_,_,rfl,a,b,m,n,⟨p,rfl,h1⟩,⟨r,rfl,h2⟩,sa,sb,hmn,q⟩:=h;refine ⟨_,((Qg (Qu (Zw Ju (Qf QR (Qr (ixK K rfl) (pu 0) Qb (fun _ _=>rfl)) (Qr (ixK K rfl) (pu 1) Qb (fun _ _=>rfl))) (Qf QR (Qr (ixK K rfl) (pu 1) Qb (fun _ _=>rfl)) (Qr (ixK K rfl) (pu 0) Qb (fun _ _=>rfl))) (Qw _))))),?_⟩;nofun;refine ⟨⟨sa.1.mono (by omega),sb.2.mono (by omega)⟩,?_⟩;nofun;refine ⟨⟨sb.1.mono (by omega),sa.2.mono (by omega)⟩,?_⟩;have e:decide (a.num*(b.den:Int)<b.num*(a.den:Int))=decide (a<b):=decide_eq_decide.mpr (Rat.lt_iff a b).symm;rw [e];exact q
theorem Um (T:Tx K mg t) (F:Fun K "greater" "greater" Yn f fd) (bE:Cal P w K mg base 1 "below" ["one","other"] (Sp2M (Qlt K))):FnOk P w K mg base CX0 2 f fd ["one","other"] (Sp2 (Qmax K)):=by
 refine F.ok Ua Z3 (fun cdv A outer s H vs Q E hr h=>?_);obtain ⟨_,_,rfl,a,b,m,n,h1,h2,sa,sb,hmn,q⟩:=h;refine ⟨_,((Qg (Qu (N8 (Zt (Qs bE (hrm hr) rfl (Qa (pu 0) (Qa (pu 1) Qc)))) (pu 1) (pu 0))))),?_⟩;nofun;refine ⟨a,b,m,n,h1,h2,sa,sb,by omega,?_⟩;nofun;refine QH (fun c=>?_) (fun c=>?_)
 ·exact q _ (by rw [Fk c];exact h2)
 ·exact q _ (by rw [Fh c];exact h1)
def mx (m:Rat) (p:Int×Rat):Rat:=if m<p.2 then p.2 else m
def gr (os:List (Int×Rat)):Rat:=os.foldl mx 0
theorem UV {m:Rat}{p:Int×Rat}(h:RB n m) (h':RB n p.2):RB n (mx m p):=by
 unfold mx;split
 ·exact h'
 ·exact h
theorem ME {p:Int×Rat}(h:0<=p.2):(p :: os).foldl mx p.2=gr (p :: os):=by
 unfold gr;rw [List.foldl_cons,List.foldl_cons];have e1:mx p.2 p=p.2:=by unfold mx;split <;> rfl
 have e2:mx 0 p=p.2:=by
  unfold mx;split
  ·rfl
  ·rename_i c;exact Rat.le_antisymm h (Rat.not_lt.mp c)
 rw [e1,e2]
inductive φgre (K:W.Frag) (C:Addr) (x:V) (H:Hp) (Q:VK):Prop
 | mk (r:Rw) (h1:Kn K C H r x) (h2:∀ p∈r.os,0<=p.2/\RB 14 p.2) (h3:r.os.length<=60) (h4:∀ z,Fq K H (gr r.os) z->Q z H):φgre K C x H Q
theorem X1 (T:Tx K mg t) (F:Fun K "greatest_rate" "Kind.greatest_rate" QY f fd) (eB:Cal P w K mg base 2 "greater" ["one","other"] (Sp2M (Qmax K))):FnOk P w K mg base CX0 3 f fd ["self"] (Sp1 (φgre K t.aE)):=by
 refine F.ok sc_Kind_greatest_rate Wp (fun cdv A outer s H vs Q E hr h=>?_);obtain ⟨_,rfl,r,⟨p,dx,fs,lc,lo,rfl,hp,_,_,e3,_,_,_,vs,hlo,hA⟩,hr0,hrl,q⟩:=h;have hvl:=hA.1;refine ⟨_,((Qd (QM (ZT (ZN (Zv K rfl (pu 0)) (fun _=>rfl))) (Qg (Qu (GK T.bB))) Qy)
   (Qd (Qk (i:=1) sc_Kind_greatest_rate.nd rfl (Or.inl rfl) (Qr (ixK K rfl) (Qr (ixK K rfl) (Zv K rfl (pu 0)) Qb (fun _ _=>rfl)) Qb (fun _ _=>rfl)))
   (Qd (Za FX rfl (piK K rfl (Zv K rfl (pu 0))) (Qp (i:=2) sc_Kind_greatest_rate.nd rfl (Or.inl rfl))
   (Qg (Qk (i:=1) sc_Kind_greatest_rate.nd rfl (Or.inl rfl) (Qs eB (hrm hr) rfl (Qa (pu 1) (Qa (Qr (ixK K rfl) (pu 2) Qb (fun _ _=>rfl)) Qc))))))
   (Qg (Qu (pu 1))))))),?_⟩
 nofun;refine Jk hp T.aL T.cB e3 ?_;refine ⟨!vs.isEmpty,.inl ⟨_,SqL.of hlo,rfl⟩,?_⟩;cases hos:r.os with
 | nil=>
  have ev:vs=[]:=by rw [hos] at hvl;exact Dk.mp hvl.symm
  subst ev;nofun;refine q _ ?_;rw [hos];exact T.bB.fq0
 | cons p0 os=>
  obtain ⟨v0,hv0⟩:∃ v,vs[0]?=some v:=⟨_,Fj (by rw [<-hvl,hos];simp)⟩
  have ne:vs.isEmpty=false:=by cases vs with | nil=>cases hv0 | cons _ _=>rfl
  rw [ne];obtain ⟨pt,z0,rfl,hT0,hF0⟩:=hA.2 0 p0 v0 (by rw [hos];rfl) hv0;have p0m:p0∈r.os:=by rw [hos];exact FU
  nofun;refine Jk hp T.aL T.cB e3 (Q7 (SqL.of hlo) (QL (j:=0) hv0) (YL hT0 rfl ?_));refine Jk hp T.aL T.cB e3 ⟨lo,rfl,⟨_,SqL.of hlo⟩,?_⟩;refine JE (xs:=vs) (fun i σ' H'=>∃ (z:V) (x2:Option V),σ'=[some (.ref p),some z,x2]/\H'=H/\Fq K H ((r.os.take i).foldl mx p0.2) z/\RB 14 ((r.os.take i).foldl mx p0.2)) ⟨z0,none,rfl,rfl,hF0,(hr0 p0 p0m).2⟩ (fun i σ' H' _ h=>by obtain ⟨_,_,_,rfl,_⟩:=h;exact SqL.of hlo) ?_ ?_
  ·rintro i v _ H2 hv ⟨z,x2,rfl,e2,hF,hB⟩;rw [e2];obtain ⟨o,ho,pu,zu,rfl,hT,hFu⟩:=hA.getV hv;have om:=(hr0 o (Fu ho)).2;nofun;have tk:(r.os.take (i+1)).foldl mx p0.2=mx ((r.os.take i).foldl mx p0.2) o:=by rw [FH,ho,List.foldl_append];rfl
   refine ⟨_,_,14,14,hF,hFu,hB,om,by decide,fun z' hz'=>⟨z',_,rfl,rfl,?_,?_⟩⟩
   ·rw [tk];exact hz'
   ·rw [tk];exact UV hB om
  ·rintro _ H2 ⟨z,x2,rfl,e2,hF,hB⟩;rw [e2];nofun;rw [<-hvl,FI] at hF;refine q z ?_;rw [hos] at hF ⊢;rw [<-ME (hr0 p0 p0m).1];exact hF
inductive φtot (K:W.Frag) (x:V) (H:Hp) (Q:VK):Prop
 | mk (l:Addr) (v:V) (r:Rat) (h1:x=.ref l) (h2:H l=some (.lst [v])) (h3:Fq K H r v) (h4:RB 14 r) (h5:∀ z H',Same H H'->Fq K H' r z->Q z H'):φtot K x H Q
theorem VB (T:Tx K mg t) (F:Fun K "total_of" "total_of" XH f fd) (eC:Cal P w K mg base 3 "plus" ["one","other"] (Sp2M (Qop K (·+·)))):FnOk P w K mg base CX0 4 f fd ["ones"] (Sp1 (φtot K)):=by
 refine F.ok sc_total_of Wp (fun cdv A outer s H vs Q E hr h=>?_);obtain ⟨_,rfl,l,v,r,rfl,hl,hF,hB,q⟩:=h;refine ⟨_,((Qd (Qk (i:=1) sc_total_of.nd rfl (Or.inl rfl) (GK T.bB))
   (Qd (Za FX rfl (piK K rfl (pu 0)) (Qp (i:=2) sc_total_of.nd rfl (Or.inl rfl))
   (Qg (Qk (i:=1) sc_total_of.nd rfl (Or.inl rfl) (Qs eC (hrm hr) rfl (Qa (pu 1) (Qa (pu 2) Qc))))))
   (Qg (Qu (pu 1)))))),?_⟩
 nofun;refine ⟨l,rfl,⟨_,SqL.of hl⟩,JE (xs:=[v]) (fun i σ' H'=>∃ (z:V) (x2:Option V),σ'=[some (.ref l),some z,x2]/\Same H H'/\Fq K H' (if i=0 then 0 else r) z) ⟨_,none,rfl,Same.refl _,T.bB.fq0⟩ (fun i σ' H' _ h=>by obtain ⟨_,_,_,g,_⟩:=h;exact SqL.of (g _ _ hl)) ?_ ?_⟩
 ·rintro i u _ H2 hu ⟨z,x2,rfl,g2,hz⟩;have hi:=Qx hu;have i0:i=0:=by have:i<1:=hi;omega
  subst i0;have eu:v=u:=Fy hu;subst eu;rw [Fk rfl] at hz;nofun;refine ⟨0,r,1,14,hz,hF.same g2,RB.zero (by decide),hB,by decide,fun z' H3 g3 hz'=>⟨z',_,rfl,g2.trans g3,?_⟩⟩;have e:(0:Rat)+r=r:=Rat.zero_add r;have hz2:Fq K H3 (0+r) z':=hz';rw [e] at hz2
  first
   | exact hz2
   | (rw [Fh (by decide)];exact hz2)
 ·rintro _ H2 ⟨z,x2,rfl,g2,hz⟩;nofun;exact q z H2 g2 hz
inductive φcr (K:W.Frag) (C:Addr) (x y:V) (H:Hp) (Q:VK):Prop
 | mk (r:Rw) (s:Str) (rr:Rat) (h1:Kn K C H r x) (h2:y=.str s) (h3:r.cs.filter (fun c=>decide (c.1=s))=[(s,rr)]) (h4:RB 14 rr) (h5:r.cs.length<=60) (h6:∀ z H',Same H H'->Fq K H' rr z->Q z H'):φcr K C x y H Q
theorem JY (T:Tx K mg t) (F:Fun K "count_rate" "count_rate" Z7 f fd) (eD:Cal P w K mg base 4 "total_of" ["ones"] (Sp1M (φtot K))):FnOk P w K mg base CX0 5 f fd ["kind","title"] (Sp2 (φcr K t.aE)):=by
 refine F.ok JT Z3 (fun cdv A outer s H vs Q E hr h=>?_);obtain ⟨_,_,rfl,r,s,rr,⟨p,dx,fs,lc,lo,rfl,hp,_,e2,_,_,_,⟨cv,kc,hC⟩,_⟩,rfl,hf,hB,hcl,q⟩:=h;have hvl:=hC.1;refine ⟨_,((Qg (Qu (Qs eD (hrm hr) rfl (Qa (Y6 (N:=["counted","rate","title"]) (caps:=[none,none,some 1]) rfl ZY (piK K rfl (Zv K rfl (pu 0))) (fun _ _ _ _=>pgK (n:=2) K rfl rfl (Qz (Qp (i:=0) (show (["counted","rate","title"]:List Str).Nodup by decide +kernel) rfl (Or.inl rfl) (.inr rfl)) (Qz (Qp (i:=1) (show (["counted","rate","title"]:List Str).Nodup by decide +kernel) rfl (Or.inl rfl) (.inr rfl)) Zp))) (fun _ _ _ _=>XR (Qt (eqM K rfl hr.units) (pu 0) (pu 2) (Qw _))) (fun _ _ _ _=>(pu 1))) Qc))))),?_⟩;nofun;simp only [QS];nofun;refine Jk hp T.aL T.cZ e2 ⟨lc,rfl,⟨_,SqL.of kc⟩,ZS (xs:=cv) (fun i acc σ' H'=>∃ x0 x1:Option V,σ'=[x0,x1,some (.str s)]/\H'=H/\All2 (fun (c:Str×Rat) v=>Fq K H c.2 v) ((r.cs.take i).filter fun c=>decide (c.1=s)) acc) ⟨none,none,rfl,rfl,All2.nil⟩ (fun i acc σ' H' _ h=>by obtain ⟨_,_,_,rfl,_⟩:=h;exact SqL.of kc) (by omega) ?_ ?_⟩
 ·rintro i u acc _ H2 hu hacc ⟨x0,x1,rfl,e3,hA⟩;rw [e3];obtain ⟨c,hc,pc,z,rfl,hT,hz⟩:=hC.getV hu;have hi:=Qx hu;have st:(r.cs.take (i+1)).filter (fun c=>decide (c.1=s))=(r.cs.take i).filter (fun c=>decide (c.1=s))++[c].filter (fun c=>decide (c.1=s)):=by rw [FH,hc,Et];rfl
  refine Xc hT rfl ?_;nofun;by_cases e:c.1=s
  ·rw [Fk e];refine CN.mk hi (by rw [Fo,Fz];omega) ⟨_,_,rfl,rfl,?_⟩;rw [st,ED (by simpa using e)];exact hA.snoc hz
  ·rw [Fh e];refine CN.mk hi (by omega) ⟨_,_,rfl,rfl,?_⟩;rw [st,ET (by simpa using e),Dd,Ed];exact hA
 ·rintro acc _ H2 ⟨x0,x1,rfl,e3,hA⟩ l hl;rw [e3] at hl ⊢;rw [<-hvl,FI,hf] at hA;obtain ⟨v,rfl⟩:∃ v,acc=[v]:=by
   have:=hA.1
   match acc,this with
   | [v],_=>exact ⟨v,rfl⟩
  have g:=Qi hl (.lst [v]);exact ⟨l,v,rr,rfl,Qe,(hA.2 0 (s,rr) v rfl rfl).same g,hB,fun z H' g' hz=>q z H' (g.trans g') hz⟩
theorem Cp.grow {c:Str×Rat}(g:Grow H H') (h:Cp K H c v):Cp K H' c v:=by
 obtain ⟨p,z,e,h1,h2⟩:=h;exact ⟨p,z,e,g.sqT h1,h2.grow g⟩
def nmJ (ak:List Str) (j:Int):Str:=ak.getD j.toNat Str.empty
theorem K0 (h:ak[j]?=some nm):nmJ ak (j:Int)=nm:=by
 unfold nmJ;rw [Int.toNat_natCast,FO,h];rfl
theorem Lq {l:List Str}{js:List Int}{j:Int}(s:l.Sublist ((js.take i).map (nmJ ak))) (h:js[i]?=some j):l.Sublist ((js.take (i+1)).map (nmJ ak))/\(l++[nmJ ak j]).Sublist ((js.take (i+1)).map (nmJ ak)):=by
 rw [FH,h,Fx];exact ⟨s.trans (List.sublist_append_left _ _),s.append (List.Sublist.refl _)⟩
def Hk (ak:List Str) (cs:List (Str×Rat)):Prop:=∀ c∈cs,c.1∈ak/\0<=c.2/\RB 14 c.2
inductive φearl (K:W.Frag) (x y z u:V) (H:Hp) (Q:VK):Prop
 | mk (a le ln:Addr) (ns:List Int) (k:Nat) (js:List Int) (ak:List Str) (h1:x=.ref a) (h2:y=.int k) (h3:z=.ref le) (h4:u=.ref ln) (h5:SqL K H a (ns.map V.int)) (h6:Ka ns) (h7:k<8) (h8:SqL K H le (js.map V.int)) (h9:∀ j∈js,0<=j/\j<8) (h10:js.length<=8) (h11:SqL K H ln (ak.map V.str)) (h12:ak.length=8)
   (h13:∀ l cs H',H l=none->Same H H'->Cl K H' cs l->Hk ak cs->cs.length<=8->(cs.map (·.1)).Sublist (js.map (nmJ ak))->Q (.ref l) H'):φearl K x y z u H Q
theorem So (h:i<8):((i:Int)*i).natAbs<64:=by
 have e:((i:Int)*i).natAbs=i*i:=by rw [Ez];rfl
 have:i*i<=7*7:=Nat.mul_le_mul (by omega) (by omega);omega
theorem cl2 (hB:Ka ns) (k:Int) {d:Int}(h:d.natAbs<2 ^ 40):Bd 1048578 (cl ns k+d):=((YJ hB k).add (show Bd 40 d from h)).mono (by decide)
theorem Lf {H0:Hp}{r:Rat}{G:Hp->Prop}(g:Same H0 H) (p0:H0 p=none) (k:H p=some (.lst ws)) (hA:All2 (Cp K H) cs ws) (hl:ws.length<=100) (hf:Fq K H r z)
  (q:∀ v H1,Same H0 H1->H1 p=some (.lst (ws++[v]))->All2 (Cp K H1) (cs++[(nm,r)]) (ws++[v])->G H1):2<=sizeLine/\∀ p1,H p1=none->KL (V.ref p) [V.ref p1] (upd H p1 (.tup [.str nm,z])) fun _ H1=>G H1:=by
 refine ⟨by decide,fun p1 hp1=>?_⟩;have g2:=Qi hp1 (.tup [.str nm,z]);have k2:=g2 _ _ k;have w2:Cp K (upd H p1 (.tup [.str nm,z])) (nm,r) (.ref p1):=⟨p1,_,rfl,SqT.of Qe,hf.same g2⟩
 refine Zy k2 (QN (by omega)) ?_;exact q _ _ (QI (g.trans g2) p0) Qe (((hA.imp fun _ _ y=>y.same g2).imp fun _ _ y=>y.grow (XF k2)).snoc (w2.grow (XF k2)))
theorem KW (T:Tx K mg t) (F:Fun K "_law_earlier" "_law_earlier" Xm f fd) (aR:Cal P w K mg base 3 "_law_rate" ["_law_cell","_law_calm"] (Sp2M (φrate K))) (aG:Cal P w K mg base 1 "_law_cell_at" ["_law_script","_law_k"] (Sp2M (φcell K))):FnOk P w K mg base CX0 4 f fd ["_law_script","_law_k","_law_earlier_here","_law_names_here"] (Sp4 (φearl K)):=by
 refine F.ok sc_l_earlier Gz (fun cdv A outer s H vs Q E hr h=>?_);obtain ⟨_,_,_,_,rfl,a,le,ln,ns,k,js,ak,rfl,rfl,rfl,rfl,hS,hB,hk,hE,hj,jl,hN,nl,q⟩:=h;refine ⟨_,((Qd (Qk (i:=4) sc_l_earlier.nd rfl (Or.inl rfl) (QB Qc))
   (Qd (Za FX rfl (piK K rfl (pu 2)) (Qp (i:=5) sc_l_earlier.nd rfl (Or.inl rfl))
   (Qd (Qk (i:=6) sc_l_earlier.nd rfl (Or.inl rfl) (Qf Qn (Qf QC (Qf Qq (Qs aG (hrm hr) rfl (Qa (pu 0) (Qa (Qf Qq Qb (Qf QC Qb (pu 1))) Qc))) (Qf QC (Qf QC (pu 5) (pu 5)) Qb)) Qb) Qb))
   (Qg (QM (Qt (eqM K rfl hr.units) (Qf Qn (pu 6) Qb) Qb (Qw _)) (Qg (Zu (ZO K rfl Ej EA EB Zg (pu 4) (Qa (QA (Qa (Qr (ixK K rfl) (pu 3) (pu 5) (fun _ _=>rfl)) (Qa (Qs aR (hrm hr) rfl (Qa (Qf Qq (Qs aG (hrm hr) rfl (Qa (pu 0) (Qa (Qf Qq Qb (Qf QC Qb (pu 1))) Qc))) (Qf QC (Qf QC Qb (pu 5)) (pu 5))) (Qa Z1 Qc))) Qc))) Qc)))) Qy))))
   (Qg (Qu (pu 4)))))),?_⟩
 nofun;refine ⟨by decide,fun p hp=>?_⟩;generalize e_g1:upd H p _=H1 at *;obtain ⟨g1,k1⟩:=nwH hp e_g1;refine ⟨le,rfl,⟨_,g1.seq hE⟩,JE (xs:=js.map V.int) (fun i σ' H'=>∃ (cs:List (Str×Rat)) (ws:List V) (x5 x6:Option V),σ'=[some (.ref a),some (.int k),some (.ref le),some (.ref ln),some (.ref p),x5,x6]/\Same H H'/\H' p=some (.lst ws)/\All2 (Cp K H') cs ws/\Hk ak cs/\cs.length<=i/\(cs.map (·.1)).Sublist ((js.take i).map (nmJ ak))) ⟨[],[],none,none,rfl,g1,k1,All2.nil,(fun c h=>nomatch h),Fl _,List.nil_sublist _⟩ (fun i σ' H' _ h=>by obtain ⟨_,_,_,_,_,g,_⟩:=h;exact g.seq hE) ?_ ?_⟩
 ·rintro i v _ H2 hv ⟨cs,ws,x5,x6,rfl,g2,k2,hA,ok,cl',sb⟩;rw [Fv] at hv;obtain ⟨j,hjv,rfl⟩:=FW.mp hv;have hi:=Qx hjv;obtain ⟨sb1,sb2⟩:=Lq sb hjv;obtain ⟨j0,j1⟩:=hj j (Fu hjv);obtain ⟨jn,rfl⟩:=Ep j0;have jj:=So (i:=jn) (by omega);have j11:((11:Int)*jn*jn).natAbs<1000:=by
   have e:(11:Int)*jn*jn=11*((jn:Int)*jn):=EM _ _ _;rw [e];omega
  have wl:=hA.1;nofun;refine ⟨⟨kU (by decide),kU (by omega)⟩,a,ns,_,rfl,rfl,g2.seq hS,by omega,⟨kU (by omega),kU (by omega)⟩,⟨kU (by omega),kU (by decide)⟩,?_⟩;have c1:=cl2 hB (4+6*(k:Int)) (d:=(jn:Int)*jn*7919) (by omega);nofun;refine ⟨⟨c1.mono (by decide),kU (by decide)⟩,by decide,by decide,QH (fun _=>?_) (fun _=>⟨cs,ws,_,_,rfl,g2,k2,hA,ok,by omega,sb1⟩)⟩;obtain ⟨nm,hnm⟩:∃ nm,ak[jn]?=some nm:=⟨_,Fj (by omega)⟩
  refine ⟨.inl ⟨rfl,_,SqL.of k2⟩,Q7 (g2.seq hN) (QL (v:=.str nm) (by rw [Fv,hnm];rfl)) ?_⟩;refine ⟨⟨kU (by decide),kU (by omega)⟩,a,ns,_,rfl,rfl,g2.seq hS,by omega,⟨kU (by decide),kU (by omega)⟩,⟨kU (by omega),kU (by omega)⟩,?_⟩;have c2:=cl2 hB (5+6*(k:Int)) (d:=11*(jn:Int)*jn) (by omega);nofun;refine ⟨_,false,rfl,rfl,c2.mono (by decide),fun z r H3 g3 f3 r0 rb _=>?_⟩;refine Lf (g2.trans g3) hp (g3 _ _ k2) (hA.imp fun _ _ y=>y.same g3) (by omega) f3 fun v H4 g4 k4 hA4=>?_
  refine ⟨cs++[(nm,r)],_,_,_,rfl,g4,k4,hA4,(fun c hc=>?_),by rw [Fo,Fz];omega,by rw [Fx,show ([(nm,r)]:List (Str×Rat)).map (·.1)=[nmJ ak (jn:Int)] by rw [K0 hnm];rfl];exact sb2⟩;rcases FK.mp hc with h | h
  ·exact ok c h
  ·rw [FC.mp h];exact ⟨Fu hnm,r0,rb⟩
 ·rintro _ H2 ⟨cs,ws,x5,x6,rfl,g2,k2,hA,ok,cl',sb⟩;nofun;exact q p cs H2 hp g2 ⟨ws,k2,hA⟩ ok (by rw [Fi] at cl';omega) (by rw [Fi,FI] at sb;exact sb)
def del (H:Hp) (p:Addr):Hp:=fun c=>if c=p then none else H c
theorem Yb (g:Same H H'):Same (del H p) (del H' p):=fun c o h=>by
 unfold del at *;split at h
 ·cases h
 ·rename_i n;rw [Fh n];exact g c o h
theorem del_sub:Same (del H p) H:=fun c o h=>by
 unfold del at h;split at h
 ·cases h
 ·exact h
theorem Vc {o:HO}:del (upd H p o) p=del H p:=by
 funext c
 unfold del;by_cases e:c=p
 ·rw [Fk e,Fk e]
 ·rw [Fh e,Fh e,Qj e]
theorem Yc {c:Addr}{o:HO}(n:c≠p) (h:H c=some o):del H p c=some o:=by
 unfold del;rw [Fh n];exact h
def NT (H:Hp) (p:Addr):Prop:=(∀ xs,H p≠some (.tup xs))/\∀ o h,H p≠some (.frz o h)
theorem HI (h:H p=some (.lst ws)):NT H p:=⟨(fun xs e=>by rw [h] at e;cases e),(fun o k e=>by rw [h] at e;cases e)⟩
theorem LX {ws:List (Key×V)}(h:H p=some (.dK ws)):NT H p:=⟨(fun xs e=>by rw [h] at e;cases e),(fun o k e=>by rw [h] at e;cases e)⟩
theorem YN {c:Addr}(hp:NT H p) (h:SqT K H c xs):SqT K (del H p) c xs:=by
 rcases h with (h | ⟨o,h⟩) | h
 ·exact .inl (.inl (Yc (fun e=>hp.1 xs (by rw [<-e];exact h)) h))
 ·exact .inl (.inr ⟨o,Yc (fun e=>hp.2 o _ (by rw [<-e];exact h)) h⟩)
 ·exact .inr h
theorem ML {q:Rat}(hp:NT H p) (h:Fq K H q v):Fq K (del H p) q v:=by
 obtain ⟨c,e,h⟩:=h;exact ⟨c,e,YN hp h⟩
theorem Cl.del {K:W.Frag}{H:Hp}{p l:Addr}{cs:List (Str×Rat)}(hp:NT H p) (n:l≠p) (h:Cl K H cs l):Cl K (del H p) cs l:=by
 obtain ⟨vs,h1,h2⟩:=h;exact ⟨vs,Yc n h1,h2.imp fun _ _ ⟨c,z,e,k1,k2⟩=>⟨c,z,e,YN hp k1,ML hp k2⟩⟩
theorem Ol.del {K:W.Frag}{H:Hp}{p l:Addr}{os:List (Int×Rat)}(hp:NT H p) (n:l≠p) (h:Ol K H os l):Ol K (del H p) os l:=by
 obtain ⟨vs,h1,h2⟩:=h;exact ⟨vs,Yc n h1,h2.imp fun _ _ ⟨c,z,e,k1,k2⟩=>⟨c,z,e,YN hp k1,ML hp k2⟩⟩
theorem Pa (h:ak[j]?=some nm) (hj:j<m):nm∈ak.take m:=Fu (by rw [EU,Fk hj];exact h)
def wdB (way:Int):Bool:=decide (way.fdiv 4 % 2=1)
def tgB (way:Int):Bool:=decide (way % 2=1)
def jpB (way:Int):Bool:=decide (way.fdiv 2 % 2=1)
def hrB (c:Int) (n at':Nat):Bool:=decide (c % (n:Int)=(at':Int))
def moJ (c:Int) (aj:List Int) (at':Nat):Int:=aj.getD (((at':Int)+2+c.fdiv 8 % ((aj.length:Int)-1)) % (aj.length:Int)).toNat 0
structure SpR (aj:List Int) (at':Nat) (ak:List Str) (way c:Int) (r r':Rw):Prop where
 nm:r'.nm=r.nm
 cs:∃ cs1:List (Str×Rat),cs1.map (·.1)=r.cs.map (·.1)/\(wdB way=false->cs1=r.cs)/\(wdB way=true->∀ q∈cs1,1<=q.2)/\(∀ q∈cs1,0<=q.2/\RB 14 q.2)/\((tgB way&&(hrB c aj.length at'&&decide (1<aj.length)))=false->r'.cs=cs1) /\
  ((tgB way&&(hrB c aj.length at'&&decide (1<aj.length)))=true->∃ k q,r'.cs=cs1.take k++(nmJ ak (moJ c aj at'),q) :: cs1.drop k/\0<=q/\RB 14 q)
 os:(wdB way=false->r'.os=r.os)/\(wdB way=true->∃ o∈r'.os,1<=o.2)/\(∀ o∈r'.os,0<=o.2/\RB 14 o.2)/\r'.os.length<=6
 ju:((jpB way&&hrB c aj.length at')=false->r'.lm=r.lm/\r'.un=r.un)/\((jpB way&&hrB c aj.length at')=true->r'.lm.isSome=true∨r'.un.isSome=true)
inductive φwide (K:W.Frag) (x:V) (H:Hp) (Q:VK):Prop
 | mk (c:Int) (h1:x=.int c) (h3:∀ z q H',Same H H'->Fq K H' q z->1<=q->RB 14 q->Q z H'):φwide K x H Q
theorem GM (T:Tx K mg t) (F:Fun K "_law_wide" "_law_wide" YR f fd):FnOk P w K mg base CX0 1 f fd ["_law_cell"] (Sp1 (φwide K)):=by
 refine F.ok GB Wp (fun cdv A outer s H vs Q E hr h=>?_);obtain ⟨_,rfl,c,rfl,q⟩:=h;refine ⟨_,((Qd (QM (Qt (eqM K rfl hr.units) (Qf Qn (pu 0) Qb) Qb (Qw _)) (Qg (Qu (QA (Qa Qb (Qa Qb Qc))))) Qy)
   (Qg (Qu (QA (Qa (Qf Qq Qb (Qf Qn (Qf Qv (pu 0) Qb) Qb)) (Qa Qb Qc))))))),?_⟩
 nofun;have a1:=FM (c.fdiv 2) (show (9999:Int)≠0 by decide);have a2:=FP (c.fdiv 2) (show 0<(9999:Int) by decide);refine ⟨trivial,QH (fun _=>⟨by decide,fun p hp=>?_⟩) (fun _=>⟨CDivB.small (by decide) (by decide),trivial,by decide,fun p hp=>?_⟩)⟩
 ·exact q _ _ _ (Qi hp _) (Fq.int (i:=1) (SqT.of Qe)) (by decide) (RB.int (show Bd 14 1 by unfold Bd;decide) (by decide))
 ·exact q _ _ _ (Qi hp _) (Fq.int (i:=1+c.fdiv 2 % 9999) (SqT.of Qe)) (by exact_mod_cast (show (1:Int)<=1+c.fdiv 2 % 9999 by omega)) (RB.int (show Bd 14 (1+c.fdiv 2 % 9999) by unfold Bd;omega) (by decide))
def CsP (aj:List Int) (at':Nat) (ak:List Str) (way c:Int) (r:Rw) (cs':List (Str×Rat)):Prop:=∃ cs1:List (Str×Rat),cs1.map (·.1)=r.cs.map (·.1)/\(wdB way=false->cs1=r.cs)/\(wdB way=true->∀ q∈cs1,1<=q.2)/\(∀ q∈cs1,0<=q.2/\RB 14 q.2)/\((tgB way&&(hrB c aj.length at'&&decide (1<aj.length)))=false->cs'=cs1) /\
  ((tgB way&&(hrB c aj.length at'&&decide (1<aj.length)))=true->∃ k q,cs'=cs1.take k++(nmJ ak (moJ c aj at'),q) :: cs1.drop k/\0<=q/\RB 14 q)
def OsP (way:Int) (r:Rw) (os':List (Int×Rat)):Prop:=(wdB way=false->os'=r.os)/\(wdB way=true->∃ o∈os',1<=o.2)/\(∀ o∈os',0<=o.2/\RB 14 o.2)/\os'.length<=6
inductive φspoil (K:W.Frag) (x y z u v w:V) (H:Hp) (Q:VK):Prop
 | mk (a lp ln p0 lc0 lo0:Addr) (ns:List Int) (r:Rw) (aj:List Int) (at':Nat) (ak:List Str) (way:Int) (h1:x=.ref a) (h2:y=.ref p0) (h2a:SqT K H p0 [.str r.nm,.ref lc0,.ref lo0,oV r.lm,oV r.un]) (h2b:Cl K H r.cs lc0) (h2c:Ol K H r.os lo0) (h3:z=.ref lp) (h4:u=.int at') (h5:v=.ref ln) (h6:w=.int way) (h7:SqL K H a (ns.map V.int)) (h8:Ka ns) (h9:H lp=some (.lst (aj.map V.int))) (h10:at'<aj.length) (h11:aj.length<=8) (h12:SqL K H ln (ak.map V.str)) (h13:ak.length=8) (h14:∀ j∈aj,0<=j/\j<8) (h15:r.cs.length<=50) (h16:∀ q∈r.cs,0<=q.2/\RB 14 q.2) (h17:∀ o∈r.os,0<=o.2/\RB 14 o.2) (h18:r.os.length<=6)
   (h20:∀ p lc lo r' H',H p=none->(lc=lc0∨H lc=none)->(lo=lo0∨H lo=none)->Same H H'->H' p=some (.tup [.str r'.nm,.ref lc,.ref lo,oV r'.lm,oV r'.un])->Cl K H' r'.cs lc->Ol K H' r'.os lo->SpR aj at' ak way (cl ns 51) r r'->Q (.ref p) H'):φspoil K x y z u v w H Q
theorem VD (T:Tx K mg t) (F:Fun K "_law_spoilt" "_law_spoilt" XJ f fd) (aR:Cal P w K mg base 3 "_law_rate" ["_law_cell","_law_calm"] (Sp2M (φrate K))) (aG:Cal P w K mg base 1 "_law_cell_at" ["_law_script","_law_k"] (Sp2M (φcell K))) (dG:Cal P w K mg base 1 "_law_wide" ["_law_cell"] (Sp1M (φwide K))):FnOk P w K mg base CX0 4 f fd ["_law_script","_law_row","_law_part","_law_at","_law_names_here","_law_way"] (Sp6 (φspoil K)):=by
 refine F.ok sc_l_spoilt Sq (fun cdv A outer s H vs Q E hr h=>?_);obtain ⟨_,_,_,_,_,_,rfl,a,lp,ln,p0,lc0,lo0,ns,r,aj,at',ak,way,rfl,rfl,hT,hC,hO,rfl,rfl,rfl,rfl,hS,hB,hlp,hat,hpl,hN,nl,hpm,hcl,hcr,hor,hol,q⟩:=h;refine ⟨_,((Qd (N3 (pu 1) (pgK (n:=5) K rfl rfl (Qz (Qp (i:=6) sc_l_spoilt.nd rfl (Or.inl rfl)) (Qz (Qp (i:=7) sc_l_spoilt.nd rfl (Or.inl rfl)) (Qz (Qp (i:=8) sc_l_spoilt.nd rfl (Or.inl rfl)) (Qz (Qp (i:=9) sc_l_spoilt.nd rfl (Or.inl rfl)) (Qz (Qp (i:=10) sc_l_spoilt.nd rfl (Or.inl rfl)) Zp)))))))
   (Qd (Qk (i:=11) sc_l_spoilt.nd rfl (Or.inl rfl) (Qs aG (hrm hr) rfl (Qa (pu 0) (Qa Qb Qc))))
   (Qd (Qk (i:=12) sc_l_spoilt.nd rfl (Or.inl rfl) (Zw (eqM K rfl hr.units) (Qf Qn (pu 11) (Qm (Xk K rfl) (by rfl) T.aK F0 (Qa (pu 2) Qc))) (pu 3) (Qw _)))
   (Qd (QM (Qt (eqM K rfl hr.units) (Qf Qn (Qf Qv (pu 5) Qb) Qb) Qb (Qw _)) (Qd (Qk (i:=13) sc_l_spoilt.nd rfl (Or.inr rfl) (Qs dG (hrm hr) rfl (Qa (Qf Qq (Qs aG (hrm hr) rfl (Qa (pu 0) (Qa Qb Qc))) (pu 3)) Qc)))
   (Qd (Jr (i:=7) sc_l_spoilt.nd rfl (Or.inl rfl) (N:=["_law_other","_law_rate_here","_law_wide_here"]) (caps:=[none,none,some 13]) rfl ZY (piK K rfl (pu 7)) (fun _ _ _ _=>pgK (n:=2) K rfl rfl (Qz (Qp (i:=0) (show (["_law_other","_law_rate_here","_law_wide_here"]:List Str).Nodup by decide +kernel) rfl (Or.inl rfl) (.inr rfl)) (Qz (Qp (i:=1) (show (["_law_other","_law_rate_here","_law_wide_here"]:List Str).Nodup by decide +kernel) rfl (Or.inl rfl) (.inr rfl)) Zp))) (fun _ _ _ _=>QT) (fun _ _ _ _=>(QA (Qa (pu 0) (Qa (pu 2) Qc)))))
   (Qd (QM (Qt (eqM K rfl hr.units) (pu 8) (QB Qc) (Qw _)) (Qg (Qk (i:=8) sc_l_spoilt.nd rfl (Or.inl rfl) (QB (Qa (QA (Qa Qb (Qa (QA (Qa Qb (Qa Qb Qc))) Qc))) Qc)))) Qy)
   (Qd (Qk (i:=14) sc_l_spoilt.nd rfl (Or.inl rfl) (Qf Qn (Qs aG (hrm hr) rfl (Qa (pu 0) (Qa (Qf Qq Qb (pu 3)) Qc))) (Qm (Xk K rfl) (by rfl) T.aK F0 (Qa (pu 8) Qc))))
   (Qg (Qk (i:=8) sc_l_spoilt.nd rfl (Or.inl rfl) (Qf Qq (Qf Qq (QW (slK K rfl) (pu 8) Zc (Zb (pu 14))) (QB (Qa (QA (Qa (Qr (ixK K rfl) (Qr (ixK K rfl) (pu 8) (pu 14) (fun _ _=>rfl)) Qb (fun _ _=>rfl)) (Qa (Qs dG (hrm hr) rfl (Qa (Qs aG (hrm hr) rfl (Qa (pu 0) (Qa (Qf Qq Qb (pu 3)) Qc))) Qc)) Qc))) Qc))) (QW (slK K rfl) (pu 8) (Zb (Qf Qq (pu 14) Qb)) Zc)))))))) Qy)
   (Qd (QM (PW.pt (ZM (Qt (eqM K rfl hr.units) (Qf Qn (pu 5) Qb) Qb (Qw _)) (ZM (ZN (pu 12) (fun _=>rfl)) (ZL (Qt KR (Qm (Xk K rfl) (by rfl) T.aK F0 (Qa (pu 2) Qc)) Qb (Qw _)))))) (Qd (Qk (i:=15) sc_l_spoilt.nd rfl (Or.inl rfl) (Qr (ixK K rfl) (pu 4) (Qr (ixK K rfl) (pu 2) (Qf Qn (Qf Qq (Qf Qq (pu 3) Qb) (Qf Qn (Qf Qv (pu 11) Qb) (Qf LS (Qm (Xk K rfl) (by rfl) T.aK F0 (Qa (pu 2) Qc)) Qb))) (Qm (Xk K rfl) (by rfl) T.aK F0 (Qa (pu 2) Qc))) (fun _ _=>rfl)) (fun _ _=>rfl)))
   (Qd (Qk (i:=16) sc_l_spoilt.nd rfl (Or.inl rfl) (Qf Qn (Qf Qv (pu 11) Qb) (Qf Qq (Qm (Xk K rfl) (by rfl) T.aK F0 (Qa (pu 7) Qc)) Qb)))
   (Qg (Qk (i:=7) sc_l_spoilt.nd rfl (Or.inl rfl) (Qf Qq (Qf Qq (QW (slK K rfl) (pu 7) Zc (Zb (pu 16))) (QB (Qa (QA (Qa (pu 15) (Qa (Qs aR (hrm hr) rfl (Qa (Qs aG (hrm hr) rfl (Qa (pu 0) (Qa Qb Qc))) (Qa Z1 Qc))) Qc))) Qc))) (QW (slK K rfl) (pu 7) (Zb (pu 16)) Zc)))))) Qy)
   (Qd (QM (PW.pt (ZM (Qt (eqM K rfl hr.units) (Qf Qn (Qf Qv (pu 5) Qb) Qb) Qb (Qw _)) (ZM (ZN (pu 12) (fun _=>rfl)) (ZL (Qt (eqM K rfl hr.units) (Qf Qn (Qf Qv (pu 11) Qb) Qb) Qb (Qw _)))))) (Qg (Qk (i:=10) sc_l_spoilt.nd rfl (Or.inl rfl) (Qf Qq Qb (Qf Qn (Qf Qv (pu 11) Qb) (Qf Y7 Qb Qb))))) Qy)
   (Qd (QM (PW.pt (ZM (Qt (eqM K rfl hr.units) (Qf Qn (Qf Qv (pu 5) Qb) Qb) Qb (Qw _)) (ZM (ZN (pu 12) (fun _=>rfl)) (ZL (Qt (eqM K rfl hr.units) (Qf Qn (Qf Qv (pu 11) Qb) Qb) Qb (Qw _)))))) (Qg (Qk (i:=9) sc_l_spoilt.nd rfl (Or.inl rfl) (Qf Qn (Qf Qv (pu 11) Qb) (Qf Qq (Qf Y7 Qb Qb) Qb)))) Qy)
   (Qg (Qu (QA (Qa (pu 6) (Qa (pu 7) (Qa (pu 8) (Qa (pu 9) (Qa (pu 10) Qc)))))))))))))))),?_⟩
 generalize hR3:ZX (Vv _ (Xe _ (Ze 10)) _) _=R3;generalize hR2:ZX (Vv _ (ZX (Xe _ (Ze 15)) _) _) _=R2;generalize hRO:ZX (Xe _ (Ze 14)) _=RO;nofun;refine ⟨a,ns,51,rfl,rfl,hS,by decide,?_⟩;generalize cl ns 51=c at *;refine Q3 (SqL.of hlp) ?_;rw [Fi];nofun;have ehr:decide (c % (aj.length:Int)=(at':Int))=hrB c aj.length at':=rfl;rw [ehr];have key3:∀ (cs':List (Str×Rat)) (os':List (Int×Rat)) (lc lo:Addr) (y13 y14 y15 y16:Option V) (H1:Hp) (D:QU),D.rt=Q->Same H H1->(lc=lc0∨H lc=none)->(lo=lo0∨H lo=none)->Cl K H1 cs' lc->Ol K H1 os' lo->CsP aj at' ak way c r cs'->OsP way r os' ->
   R3 D [some (V.ref a),some (V.ref p0),some (V.ref lp),some (V.int at'),some (V.ref ln),some (V.int way),some (V.str r.nm),some (V.ref lc),some (V.ref lo),some (oV r.lm),some (oV r.un),some (V.int c),some (V.bl (hrB c aj.length at')),y13,y14,y15,y16] H1:=by
  intro cs' os' lc lo y13 y14 y15 y16 H1 D hD g1 hlc hlo hC1 hO1 pC pO;subst hR3;generalize hR4:ZX (Vv _ (Xe _ (Ze 9)) _) _=R4;have out:∀ (lm un:Option Int) (p:Addr) (H2:Hp),Same H1 H2->H1 p=none->H2 p=some (.tup [.str r.nm,.ref lc,.ref lo,oV lm,oV un])->((jpB way&&hrB c aj.length at')=false->lm=r.lm/\un=r.un)->((jpB way&&hrB c aj.length at')=true->lm.isSome=true∨un.isSome=true)->Q (.ref p) H2:=fun lm un p H2 g2 hp k2 j1 j2=>
   q p lc lo ⟨r.nm,cs',os',lm,un⟩ H2 (g1.free hp) hlc hlo (g1.trans g2) k2 (hC1.same g2) (hO1.same g2) ⟨rfl,pC,pO,j1,j2⟩
  nofun;have d2:CDivB 2:=CDivB.small (by decide) (by decide);have d512:CDivB 512:=CDivB.small (by decide) (by decide);have d1024:CDivB 1024:=CDivB.small (by decide) (by decide);have cp:UE 10 9:=by unfold UE;decide
  have key4:∀ (un:Option Int),((jpB way&&hrB c aj.length at')=false->un=r.un)->((jpB way&&hrB c aj.length at')=true->c.fdiv 512 % 2=1->un.isSome=true)->R4 D [some (V.ref a),some (V.ref p0),some (V.ref lp),some (V.int at'),some (V.ref ln),some (V.int way),some (V.str r.nm),some (V.ref lc),some (V.ref lo),some (oV r.lm),some (oV un),some (V.int c),some (V.bl (hrB c aj.length at')),y13,y14,y15,y16] H1:=by
   intro un u1 u2;subst hR4;nofun;rw [hD];have fin:∀ lm:Option Int,((jpB way&&hrB c aj.length at')=false->lm=r.lm)->((jpB way&&hrB c aj.length at')=true->¬ c.fdiv 512 % 2=1->lm.isSome=true)->5<=sizeLine/\∀ p,H1 p=none->Q (.ref p) (upd H1 p (.tup [.str r.nm,.ref lc,.ref lo,oV lm,oV un])):=fun lm l1 l2=>⟨by decide,fun p hp=>out lm un p _ (Qi hp _) hp Qe (fun h=>⟨l1 h,u1 h⟩) (fun h=>by
    by_cases z:c.fdiv 512 % 2=1
    ·exact .inr (u2 h z)
    ·exact .inl (l2 h z))⟩
   refine ⟨d2,trivial,QH (fun j=>⟨_,rfl,QH (fun hb=>⟨d512,trivial,QH (fun z=>⟨d1024,cp,by decide,?_⟩) (fun z=>?_)⟩) (fun hb=>?_)⟩) (fun j=>?_)⟩
   ·exact fin (some (c.fdiv 1024 % (10 ^ Int.toNat 9+1))) (fun h=>by unfold jpB at h;rw [FT j,hb] at h;cases h) (fun _ _=>rfl)
   ·exact fin r.lm (fun _=>rfl) (fun _ h=>absurd (show c.fdiv 512 % 2=1 by omega) h)
   ·exact fin r.lm (fun _=>rfl) (fun h _=>by rw [show hrB c aj.length at'=false by simpa using hb,Ef] at h;cases h)
   ·exact fin r.lm (fun _=>rfl) (fun h _=>by unfold jpB at h;rw [FQ j,Bool.false_and] at h;cases h)
  refine ⟨d2,trivial,QH (fun j=>⟨_,rfl,QH (fun hb=>⟨d512,trivial,QH (fun z=>⟨d1024,cp,by decide,?_⟩) (fun z=>?_)⟩) (fun hb=>?_)⟩) (fun j=>?_)⟩
  ·exact key4 (some (1+c.fdiv 1024 % 10 ^ Int.toNat 9)) (fun h=>by unfold jpB at h;rw [FT j,hb] at h;cases h) (fun _ _=>rfl)
  ·exact key4 r.un (fun _=>rfl) (fun _ h=>absurd h z)
  ·exact key4 r.un (fun _=>rfl) (fun h _=>by rw [show hrB c aj.length at'=false by simpa using hb,Ef] at h;cases h)
  ·exact key4 r.un (fun _=>rfl) (fun h _=>by unfold jpB at h;rw [FQ j,Bool.false_and] at h;cases h)
 have key2:∀ (cs1:List (Str×Rat)) (os':List (Int×Rat)) (lc lo:Addr) (y13 y14:Option V) (H1:Hp) (D:QU),D.rt=Q->Same H H1->(lc=lc0∨H lc=none)->(lo=lo0∨H lo=none)->Cl K H1 cs1 lc->Ol K H1 os' lo->cs1.map (·.1)=r.cs.map (·.1)->(wdB way=false->cs1=r.cs)->(wdB way=true->∀ q∈cs1,1<=q.2)->(∀ q∈cs1,0<=q.2/\RB 14 q.2)->OsP way r os' ->
   R2 D [some (V.ref a),some (V.ref p0),some (V.ref lp),some (V.int at'),some (V.ref ln),some (V.int way),some (V.str r.nm),some (V.ref lc),some (V.ref lo),some (oV r.lm),some (oV r.un),some (V.int c),some (V.bl (hrB c aj.length at')),y13,y14,none,none] H1:=by
  intro cs1 os' lc lo y13 y14 H1 D hD g1 hlc hlo hC1 hO1 c1 c2 c3 c4 pO;subst hR2;nofun;have no:(tgB way&&(hrB c aj.length at'&&decide (1<aj.length)))=false->R3 D [some (V.ref a),some (V.ref p0),some (V.ref lp),some (V.int at'),some (V.ref ln),some (V.int way),some (V.str r.nm),some (V.ref lc),some (V.ref lo),some (oV r.lm),some (oV r.un),some (V.int c),some (V.bl (hrB c aj.length at')),y13,y14,none,none] H1:=fun h=>key3 cs1 os' lc lo _ _ _ _ H1 D hD g1 hlc hlo hC1 hO1 ⟨cs1,c1,c2,c3,c4,fun _=>rfl,fun h'=>by rw [h] at h';cases h'⟩ pO
  have hlp1:=g1 _ _ hlp;refine ⟨trivial,QH (fun t1=>⟨_,rfl,QH (fun hb=>?_) (fun hb=>?_)⟩) (fun t1=>?_)⟩
  ·refine Q3 (SqL.of hlp1) ?_;rw [Fi];nofun;refine QH (fun l1=>?_) (fun l1=>?_)
   ·refine ⟨CDivB.small (by decide) (by decide),Q3 (SqL.of hlp1) ?_⟩;rw [Fi];nofun;refine ⟨by omega,Q3 (SqL.of hlp1) ?_⟩;rw [Fi];nofun;have pp:0<(aj.length:Int):=by omega
    have u0:=FM ((at':Int)+2+c.fdiv 8 % ((aj.length:Int)-1)) (show (aj.length:Int)≠0 by omega);have u1:=FP ((at':Int)+2+c.fdiv 8 % ((aj.length:Int)-1)) pp;refine ⟨pp,?_⟩;have emo:moJ c aj at'=aj.getD (((at':Int)+2+c.fdiv 8 % ((aj.length:Int)-1)) % (aj.length:Int)).toNat 0:=rfl;generalize ((at':Int)+2+c.fdiv 8 % ((aj.length:Int)-1)) % (aj.length:Int)=u at *;obtain ⟨un,rfl⟩:=Ep u0;obtain ⟨kq,hkq⟩:∃ kq,aj[un]?=some kq:=⟨_,Fj (by omega)⟩
    rw [Int.toNat_natCast,FO,hkq] at emo;have emo:moJ c aj at'=kq:=emo;have kqb:=hpm kq (Fu hkq);obtain ⟨kn,rfl⟩:=Ep kqb.1;obtain ⟨nb,hnb⟩:∃ nb,ak[kn]?=some nb:=⟨_,Fj (by omega)⟩
    refine Q7 (SqL.of hlp1) (QL (v:=.int kn) (by rw [Fv,hkq];rfl)) ?_;refine Q7 (g1.seq hN) (QL (v:=.str nb) (by rw [Fv,hnb];rfl)) ?_;obtain ⟨cw,kc,hcw⟩:=hC1;have cwl:=hcw.1;have ccl:cs1.length=r.cs.length:=by have:=congrArg List.length c1;rwa [Fi,Fi] at this
    refine ⟨CDivB.small (by decide) (by decide),Q3 (SqL.of kc) ?_⟩;nofun;have q0:=FM (c.fdiv 64) (show ((cw.length:Int)+1)≠0 by omega);have q1:=FP (c.fdiv 64) (show 0<((cw.length:Int)+1) by omega);refine ⟨by omega,?_⟩;generalize c.fdiv 64 % ((cw.length:Int)+1)=pl at *;obtain ⟨pk,rfl⟩:=Ep q0;refine Xb (SqL.of kc) fun l2 hl2=>?_
    rw [YH];generalize e_g2:upd H1 l2 _=H2 at *;obtain ⟨g2,k2⟩:=nwH hl2 e_g2;refine ⟨a,ns,52,rfl,rfl,(g1.trans g2).seq hS,by decide,_,false,rfl,rfl,(YJ hB _).mono (by decide),fun z rq H3 g3 f3 r0 rb _=>⟨by decide,fun p4 hp4=>?_⟩⟩;generalize e_g4:upd H3 p4 _=H4 at *;obtain ⟨g4,k4⟩:=nwH hp4 e_g4;refine ⟨by decide,fun l5 hl5=>?_⟩;generalize e_g5:upd H4 l5 _=H5 at *;obtain ⟨g5,k5⟩:=nwH hl5 e_g5;have tl:(cw.take pk).length<=50:=by rw [FN];omega
    have g25:=g3.trans (g4.trans g5);nofun;rw [Yx];refine ⟨l2,l5,_,_,rfl,rfl,g25 _ _ k2,k5,by unfold sizeLine;rw [Fz];omega,fun l6 hl6=>?_⟩;generalize e_g6:upd H5 l6 _=H6 at *;obtain ⟨g6,k6⟩:=nwH hl6 e_g6;have g16:=g2.trans (g25.trans g6);refine Xb (SqL.of (g16 _ _ kc)) fun l7 hl7=>?_
    rw [Yd];generalize e_g7:upd H6 l7 _=H7 at *;obtain ⟨g7,k7⟩:=nwH hl7 e_g7;have dl:(cw.drop pk).length<=50:=by rw [F5];omega
    rw [Yx];refine ⟨l6,l7,_,_,rfl,rfl,g7 _ _ k6,k7,by unfold sizeLine;rw [Fo,Fz];omega,fun l8 hl8=>?_⟩;have g8:=Qi hl8 (.lst (cw.take pk++[V.ref p4]++cw.drop pk));have k8:(upd H7 l8 (.lst (cw.take pk++[V.ref p4]++cw.drop pk))) l8=some (.lst (cw.take pk++[V.ref p4]++cw.drop pk)):=Qe;generalize upd H7 l8 (.lst (cw.take pk++[V.ref p4]++cw.drop pk))=H8 at *;have g18:=g16.trans (g7.trans g8);have hcw8:All2 (Cp K H8) cs1 cw:=hcw.imp fun _ _ y=>y.same g18
    have g48:=g5.trans (g6.trans (g7.trans g8));have new:Cp K H8 (nb,rq) (.ref p4):=⟨p4,z,rfl,SqT.of (g48 _ _ k4),f3.same (g4.trans g48)⟩
    have eb:nmJ ak (kn:Int)=nb:=K0 hnb;refine key3 (cs1.take pk++[(nb,rq)]++cs1.drop pk) os' l8 lo _ _ _ _ H8 D hD (g1.trans g18) (.inr ((g1.trans (g16.trans g7)).free hl8)) hlo ⟨_,k8,ZH (ZH (WS hcw8 pk) (All2.nil.snoc new)) (WT hcw8 pk)⟩ (hO1.same g18) ⟨cs1,c1,c2,c3,c4,fun h=>?_,fun _=>⟨pk,rq,?_,r0,rb⟩⟩ pO
    ·unfold tgB at h;rw [FT t1,hb,FT (show 1<aj.length by omega)] at h;cases h
    ·rw [emo,eb,List.append_assoc];rfl
   ·exact no (by rw [FQ (show ¬ 1<aj.length by omega),Ef,Ef])
  ·exact no (by rw [show hrB c aj.length at'=false by simpa using hb,Bool.false_and,Ef])
  ·exact no (by unfold tgB;rw [FQ t1,Bool.false_and])
 have w0:¬ way.fdiv 4 % 2=1->wdB way=false:=fun h=>FQ h
 have w1:way.fdiv 4 % 2=1->wdB way=true:=fun h=>FT h
 refine ⟨by omega,CDivB.small (by decide) (by decide),trivial,QH (fun wd=>?_) (fun wd=>?_)⟩
 rotate_left
 ·exact key2 r.cs r.os lc0 lo0 _ _ H _ rfl (Same.refl _) (.inl rfl) (.inl rfl) hC hO rfl (fun _=>rfl) (fun h=>by rw [w0 wd] at h;cases h) hcr ⟨fun _=>rfl,fun h=>(by rw [w0 wd] at h;cases h),hor,hol⟩
 have wdt:=w1 wd;refine ⟨a,ns,53,rfl,rfl,hS,by decide,?_⟩;generalize cl ns 53=c53;nofun;refine ⟨_,rfl,fun z wq H2 g2 f2 wq1 wqb=>?_⟩;obtain ⟨cw,kc,hcw⟩:=hC;have cwl:=hcw.1;simp only [QS];nofun;refine ⟨lc0,rfl,⟨_,SqL.of (g2 _ _ kc)⟩,ZS (xs:=cw) (fun i acc σ' H'=>∃ x0 x1:Option V,σ'=[x0,x1,some z]/\Same H2 H'/\All2 (Cp K H') ((r.cs.take i).map fun c=>(c.1,wq)) acc) ⟨none,none,rfl,Same.refl _,All2.nil⟩ (fun i acc σ' H' _ h=>by obtain ⟨_,_,_,g,_⟩:=h;exact SqL.of ((g2.trans g) _ _ kc)) (by omega) ?_ ?_⟩
 ·rintro i v acc _ H3 hv hacc ⟨x0,x1,rfl,g3,hA⟩;obtain ⟨cc,hcc,pp,zz,rfl,hTp,fz⟩:=hcw.getV hv;refine Xc ((g2.trans g3).sqT hTp) rfl ?_;nofun;simp only [ZR];nofun;refine ⟨by decide,fun p4 hp4=>?_⟩;have g4:=Qi hp4 (.tup [.str cc.1,z]);refine CN.mk (Qx hv) (by rw [Fo,Fz];omega) ⟨_,_,rfl,g3.trans g4,?_⟩;rw [FH,hcc,Option.toList_some,Fx];exact (hA.imp fun _ _ y=>y.same g4).snoc ⟨p4,z,rfl,SqT.of Qe,f2.same (g3.trans g4)⟩
 rintro acc _ H3 ⟨x0,x1,rfl,g3,hA⟩ l4 hl4;rw [EF (by omega)] at hA;have g4:=Qi hl4 (.lst acc);have k4:(upd H3 l4 (.lst acc)) l4=some (.lst acc):=Qe;have hA4:All2 (Cp K (upd H3 l4 (.lst acc))) (r.cs.map fun c=>(c.1,wq)) acc:=hA.imp fun _ _ y=>y.same g4
 generalize upd H3 l4 (.lst acc)=H4 at *;have g03:=g2.trans g3;have l40:H l4=none:=g03.free hl4;have g04:=g03.trans g4;nofun;refine ⟨by decide,fun p5 hp5=>?_⟩;generalize e_g5:upd H4 p5 _=H5 at *;obtain ⟨g5,k5⟩:=nwH hp5 e_g5;have g05:=g04.trans g5;obtain ⟨ow,ko,how⟩:=hO;refine T4 (ps:=r.os) (qs:=[]) ⟨ow,SqL.of (g05 _ _ ko),how.imp fun _ _ y=>y.same g05⟩ ⟨[],SqL.of k5,All2.nil⟩ ?_;nofun;have keyO:∀ (os1:List (Int×Rat)) (lo1:Addr) (H6:Hp) (D:QU),D.nx=R2 { nx:=fun x H'=>Q V.non H',rt:=Q }->Same H5 H6->os1≠[]->(∀ o∈os1,0<=o.2/\RB 14 o.2)->os1.length<=6->(lo1=lo0∨H lo1=none)->Ol K H6 os1 lo1 ->
   RO D [some (V.ref a),some (V.ref p0),some (V.ref lp),some (V.int at'),some (V.ref ln),some (V.int way),some (V.str r.nm),some (V.ref l4),some (V.ref lo1),some (oV r.lm),some (oV r.un),some (V.int c),some (V.bl (hrB c aj.length at')),some z,none,none,none] H6:=by
  intro os1 lo1 H6 D hD g6 one ook ol hlo1 hO1;obtain ⟨ow1,ko1,how1⟩:=hO1;have owl:=how1.1;have opos:0<os1.length:=De.mpr one;have g06:=g05.trans g6;subst hRO;nofun;refine ⟨a,ns,54+at',rfl,rfl,g06.seq hS,by omega,?_⟩;generalize cl ns (54+at')=c54;refine Q3 (SqL.of ko1) ?_;nofun;have q0:=FM c54 (show (ow1.length:Int)≠0 by omega);have q1:=FP c54 (show 0<(ow1.length:Int) by omega);refine ⟨by omega,?_⟩;generalize c54 % (ow1.length:Int)=bk at *;obtain ⟨bk,rfl⟩:=Ep q0;obtain ⟨ob,hob⟩:∃ ob,os1[bk]?=some ob:=⟨_,Fj (by omega)⟩
  obtain ⟨vo,hvo,po,zo,rfl,hTo,fo⟩:=how1.get hob;refine Xb (SqL.of ko1) fun l7 hl7=>?_
  rw [YH];generalize e_g7:upd H6 l7 _=H7 at *;obtain ⟨g7,k7⟩:=nwH hl7 e_g7;refine Q7 (SqL.of (g7 _ _ ko1)) (QL hvo) ?_;refine YL (g7.sqT hTo) rfl ?_;refine ⟨a,ns,54+at',rfl,rfl,(g06.trans g7).seq hS,by omega,_,rfl,fun z8 wq8 H8 g8 f8 w81 w8b=>⟨by decide,fun p9 hp9=>?_⟩⟩;generalize e_g9:upd H8 p9 _=H9 at *;obtain ⟨g9,k9⟩:=nwH hp9 e_g9;refine ⟨by decide,fun l10 hl10=>?_⟩;generalize e_g10:upd H9 l10 _=H10 at *;obtain ⟨g10,k10⟩:=nwH hl10 e_g10;have g710:=g8.trans (g9.trans g10);have tl:(ow1.take bk).length<=6:=by rw [FN];omega
  nofun;rw [Yx];refine ⟨l7,l10,_,_,rfl,rfl,g710 _ _ k7,k10,by unfold sizeLine;rw [Fz];omega,fun l11 hl11=>?_⟩;generalize e_g11:upd H10 l11 _=H11 at *;obtain ⟨g11,k11⟩:=nwH hl11 e_g11;have g611:=g7.trans (g710.trans g11);refine Xb (SqL.of (g611 _ _ ko1)) fun l12 hl12=>?_
  rw [show (bk:Int)+1=((bk+1:Nat):Int) by omega,Yd];generalize e_g12:upd H11 l12 _=H12 at *;obtain ⟨g12,k12⟩:=nwH hl12 e_g12;have dl:(ow1.drop (bk+1)).length<=6:=by rw [F5];omega
  rw [Yx];refine ⟨l11,l12,_,_,rfl,rfl,g12 _ _ k11,k12,by unfold sizeLine;rw [Fo,Fz];omega,fun l13 hl13=>?_⟩;have g13:=Qi hl13 (.lst (ow1.take bk++[V.ref p9]++ow1.drop (bk+1)));have k13:(upd H12 l13 (.lst (ow1.take bk++[V.ref p9]++ow1.drop (bk+1)))) l13=some (.lst (ow1.take bk++[V.ref p9]++ow1.drop (bk+1))):=Qe;generalize upd H12 l13 (.lst (ow1.take bk++[V.ref p9]++ow1.drop (bk+1)))=H13 at *;have g613:=g611.trans (g12.trans g13);have how13:All2 (Fp K H13) os1 ow1:=how1.imp fun _ _ y=>y.same g613
  have g913:=g10.trans (g11.trans (g12.trans g13));have new:Fp K H13 (ob.1,wq8) (.ref p9):=⟨p9,z8,rfl,SqT.of (g913 _ _ k9),f8.same (g9.trans g913)⟩
  rw [hD];have g013:=g06.trans g613;refine key2 (r.cs.map fun c=>(c.1,wq)) (os1.take bk++[(ob.1,wq8)]++os1.drop (bk+1)) l4 l13 _ _ H13 _ rfl g013 (.inr l40) (.inr ((g06.trans (g611.trans g12)).free hl13)) ⟨acc,(g5.trans (g6.trans g613)) _ _ k4,hA4.imp fun _ _ y=>y.same (g5.trans (g6.trans g613))⟩ ⟨_,k13,ZH (ZH (WS how13 bk) (All2.nil.snoc new)) (WT how13 (bk+1))⟩ (by rw [Eg];rfl) (fun h=>by rw [wdt] at h;cases h) (fun _ q hq=>?_) (fun q hq=>?_) ⟨fun h=>(by rw [wdt] at h;cases h),fun _=>⟨(ob.1,wq8),by simp,w81⟩,fun o ho=>?_,?_⟩
  ·obtain ⟨c',_,rfl⟩:=Fw.mp hq;exact wq1
  ·obtain ⟨c',_,rfl⟩:=Fw.mp hq;exact ⟨by show 0<=wq;grind,wqb⟩
  ·rcases FK.mp ho with h | h
   ·rcases FK.mp h with h | h
    ·exact ook o (List.mem_of_mem_take h)
    ·rw [FC.mp h];exact ⟨by show 0<=wq8;grind,w8b⟩
   ·exact ook o (List.mem_of_mem_drop h)
  ·rw [Fo,Fo,FN,F5,Fz];omega
 refine QH (fun oe=>?_) (fun oe=>?_)
 ·refine ⟨by decide,fun p6 hp6=>?_⟩;generalize e_g6:upd H5 p6 _=H6 at *;obtain ⟨g6,k6⟩:=nwH hp6 e_g6;refine ⟨by decide,fun p7 hp7=>?_⟩;generalize e_g7:upd H6 p7 _=H7 at *;obtain ⟨g7,k7⟩:=nwH hp7 e_g7;refine ⟨by decide,fun l8 hl8=>?_⟩;have l80:=(g05.trans (g6.trans g7)).free hl8;generalize e_g8:upd H7 l8 _=H8 at *;obtain ⟨g8,k8⟩:=nwH hl8 e_g8;have f8:Fp K H8 ((0,((0:Int):Rat)):L2.Pr) (.ref p7):=⟨p7,.ref p6,rfl,SqT.of (g8 _ _ k7),(Fq.int (SqT.of k6)).same (g7.trans g8)⟩
  exact keyO [(0,((0:Int):Rat))] l8 H8 _ rfl (g6.trans (g7.trans g8)) (by simp) (fun o ho=>by rw [FC.mp ho];exact ⟨by decide,RB.int (show Bd 14 0 by unfold Bd;decide) (by decide)⟩) (by simp) (.inr l80) ⟨_,k8,All2.nil.snoc f8⟩
 ·exact keyO r.os lo0 H5 _ rfl (Same.refl _) oe hor hol (.inl rfl) ⟨ow,g05 _ _ ko,how.imp fun _ _ y=>y.same g05⟩
theorem M7 {R:α->V->Prop}{qs:List α}{q:α}(h:All2 R qs vs) (k:Nat) (r:R q v):All2 R (qs.take k++q :: qs.drop k) (vs.take k++v :: vs.drop k):=by
 have hl:=h.1;refine ⟨by simp [hl],fun i x y h1 h2=>?_⟩;rcases EZ i (min k qs.length) with c | c
 ·rw [Eh (by rw [FN];exact c),EU,Fk (by omega)] at h1;rw [Eh (by rw [FN];omega),EU,Fk (by omega)] at h2;exact h.2 i x y h1 h2
 ·rw [Ee (by rw [FN];exact c),FN] at h1;rw [Ee (by rw [FN];omega),FN,<-hl] at h2;cases e:i-min k qs.length with
  | zero=>
   rw [e] at h1 h2;cases h1;cases h2;exact r
  | succ j=>
   rw [e,EW,List.getElem?_drop] at h1 h2;exact h.2 _ x y h1 h2
structure RwB (ak:List Str) (earl:List Int) (ring:Bool) (aj:List Int) (j:Nat) (r:Rw):Prop where
 no:ring=false->(r.cs.map (·.1)).Sublist (earl.map (nmJ ak))
 rg:ring=true->∃ (cs0:List (Str×Rat)) (k:Nat) (q:Rat),r.cs=cs0.take k++(nmJ ak (aj.getD ((j+1) % aj.length) 0),q) :: cs0.drop k/\(cs0.map (·.1)).Sublist (earl.map (nmJ ak))/\q<1
 nn:ring=true->r.lm=none/\r.un=none
 cs:∀ q∈r.cs,0<=q.2/\RB 14 q.2
 os:∀ o∈r.os,0<=o.2/\RB 14 o.2/\o.2<1
 cl:r.cs.length<=50
 ol:r.os.length<=6
def earl (af:List (Bool×List Int)) (i:Nat):List Int:=((af.take i).map (·.2)).flatten
def RwP (ak:List Str) (af:List (Bool×List Int)) (bad:List Int) (way c:Int) (i j:Nat) (ring:Bool) (aj:List Int) (r:Rw):Prop:=∃ r0,RwB ak (earl af i) ring aj j r0/\r.nm=r0.nm/\(aj≠bad->r=r0)/\(aj=bad->SpR aj j ak way c r0 r)
def RwQ (ak:List Str) (af:List (Bool×List Int)) (bad:List Int) (way c:Int) (k:Int) (r:Rw):Prop:=ak[k.toNat]?=some r.nm/\∃ i j ring aj,af[i]?=some (ring,aj)/\aj[j]?=some k/\RwP ak af bad way c i j ring aj r
inductive φrows (K:W.Frag) (x y z u v w:V) (H:Hp) (Q:VK):Prop
 | mk (a ln lsg lb:Addr) (ns:List Int) (m:Nat) (ak:List Str) (af:List (Bool×List Int)) (sv:List V) (bad:List Int) (way:Int) (h1:x=.ref a) (h2:y=.int m) (h4:z=.ref ln) (h0:u=.ref lsg) (h3:v=.ref lb) (hw:w=.int way) (h5:SqL K H a (ns.map V.int)) (h6:Ka ns) (h7:m<=8) (h11:SqL K H ln (ak.map V.str)) (h12:ak.length=8) (hnd:ak.Nodup) (hs:H lsg=some (.lst sv)) (hs2:All2 (Sg K H) af sv) (hp:(af.map (·.2)).flatten.Perm ((List.range m).map fun (i:Nat)=>(i:Int))) (hb:H lb=some (.lst (bad.map V.int)))
   (h13:∀ l rs vs H',H l=none->Same H H'->H' l=some (.lst vs)->All2 (Rr K H') rs vs->rs.map (·.nm)=ak.take m->(∀ (k:Nat) r,rs[k]?=some r->RwQ ak af bad way (cl ns 51) k r)->Q (.ref l) H'):φrows K x y z u v w H Q
def Done (K:W.Frag) (ak:List Str) (af:List (Bool×List Int)) (bad:List Int) (way c:Int) (pd:Addr) (H':Hp) (kvs:List (Key×V)) (k:Int):Prop:=∃ v r,Q8 kvs (Sum.inl k:Key)=some v/\Rr K (del H' pd) r v/\RwQ ak af bad way c k r
theorem Done.same {af:List (Bool×List Int)}{bad:List Int}{way c:Int}{pd:Addr}{k:Int}(h:Done K ak af bad way c pd H kvs k) (g:Same (del H pd) (del H' pd)):Done K ak af bad way c pd H' kvs k:=by
 obtain ⟨v,r,h1,h2,h3⟩:=h;exact ⟨v,r,h1,h2.same g,h3⟩
theorem LR (g:Oth p H H'):Same (del H p) (del H' p):=fun c o h=>by
 unfold del at *;split at h
 ·cases h
 ·rename_i n;rw [Fh n];exact g c o n h
theorem Oth.trans (a:Oth p H H1) (b:Oth p H1 H2):Oth p H H2:=fun c u e k=>b c u e (a c u e k)
theorem UM (g:Same H H'):Oth p H H':=fun c u _ k=>g c u k
theorem GO (T:Tx K mg t) (F:Fun K "_law_rows" "_law_rows" YT f fd) (eE:Cal P w K mg base 4 "_law_spoilt" ["_law_script","_law_row","_law_part","_law_at","_law_names_here","_law_way"] (Sp6M (φspoil K))) (eF:Cal P w K mg base 4 "_law_offs" ["_law_cell","_law_calm"] (Sp2M (φoffs K))) (aG:Cal P w K mg base 1 "_law_cell_at" ["_law_script","_law_k"] (Sp2M (φcell K))) (aR:Cal P w K mg base 3 "_law_rate" ["_law_cell","_law_calm"] (Sp2M (φrate K))) (eG:Cal P w K mg base 1 "_law_jump" ["_law_cell"] (Sp1M (φjump K))) (eI:Cal P w K mg base 4 "_law_earlier" ["_law_script","_law_k","_law_earlier_here","_law_names_here"] (Sp4M (φearl K))):FnOk P w K mg base CX0 5 f fd ["_law_script","_law_many","_law_names_here","_law_segments_here","_law_bad","_law_way"] (Sp6 (φrows K)):=by
 refine F.ok sc_l_rows Sq (fun cdv A outer s H vs Q E hr h=>?_);obtain ⟨_,_,_,_,_,_,rfl,a,ln,lsg,lb,ns,m,ak,af,sv,bad,way,rfl,rfl,rfl,rfl,rfl,rfl,hS,hB,hm,hN,nl,nnd,kseg0,hSg0,pm,kbad,q⟩:=h;refine ⟨_,((Qd (Qk (i:=6) sc_l_rows.nd rfl (Or.inr rfl) X4)
   (Qd (Qk (i:=7) sc_l_rows.nd rfl (Or.inl rfl) (QB Qc))
   (Qd (Za FX rfl (piK K rfl (pu 3)) (pgK (n:=2) K rfl rfl (Qz (Qp (i:=8) sc_l_rows.nd rfl (Or.inl rfl)) (Qz (Qp (i:=9) sc_l_rows.nd rfl (Or.inl rfl)) Zp)))
   (Qd (Za FX rfl (Zf rfl T.aS (Qa (Qm (Xk K rfl) (by rfl) T.aK F0 (Qa (pu 9) Qc)) Qc)) (Qp (i:=10) sc_l_rows.nd rfl (Or.inl rfl))
   (Qd (Qk (i:=11) sc_l_rows.nd rfl (Or.inl rfl) (Qr (ixK K rfl) (pu 9) (pu 10) (fun _ _=>rfl)))
   (Qd (Qk (i:=12) sc_l_rows.nd rfl (Or.inl rfl) (Qs eI (hrm hr) rfl (Qa (pu 0) (Qa (pu 11) (Qa (pu 7) (Qa (pu 2) Qc))))))
   (Qd (N3 (Qs eG (hrm hr) rfl (Qa (Qs aG (hrm hr) rfl (Qa (pu 0) (Qa (Qf Qq Qb (Qf QR Qb (pu 11))) Qc))) Qc)) (pgK (n:=2) K rfl rfl (Qz (Qp (i:=13) sc_l_rows.nd rfl (Or.inl rfl)) (Qz (Qp (i:=14) sc_l_rows.nd rfl (Or.inl rfl)) Zp))))
   (Qd (QM (ZN (pu 8) (fun _=>rfl)) (Qd (Qk (i:=15) sc_l_rows.nd rfl (Or.inl rfl) (Qr (ixK K rfl) (pu 2) (Qr (ixK K rfl) (pu 9) (Qf Qn (Qf Qq (pu 10) Qb) (Qm (Xk K rfl) (by rfl) T.aK F0 (Qa (pu 9) Qc))) (fun _ _=>rfl)) (fun _ _=>rfl)))
   (Qd (Qk (i:=16) sc_l_rows.nd rfl (Or.inl rfl) (Qf Qn (Qf Qv (Qs aG (hrm hr) rfl (Qa (pu 0) (Qa (Qf Qq Qb (Qf QR Qb (pu 11))) Qc))) Qb) (Qf Qq (Qm (Xk K rfl) (by rfl) T.aK F0 (Qa (pu 12) Qc)) Qb)))
   (Qd (Zu (ZO K rfl Ej PySem.F.slot_list_insert PySem.F.type_list_insert GW (pu 12) (Qa (pu 16) (Qa (QA (Qa (pu 15) (Qa (Qs aR (hrm hr) rfl (Qa (Qf Qq (Qs aG (hrm hr) rfl (Qa (pu 0) (Qa (Qf Qq Qb (Qf QR Qb (pu 11))) Qc))) Qb) (Qa Z1 Qc))) Qc))) Qc))))
   (Qd (Qk (i:=13) sc_l_rows.nd rfl (Or.inl rfl) ZF)
   (Qg (Qk (i:=14) sc_l_rows.nd rfl (Or.inl rfl) ZF)))))) Qy)
   (Qd (Qk (i:=17) sc_l_rows.nd rfl (Or.inl rfl) (QA (Qa (Qr (ixK K rfl) (pu 2) (pu 11) (fun _ _=>rfl)) (Qa (pu 12) (Qa (Qs eF (hrm hr) rfl (Qa (Qs aG (hrm hr) rfl (Qa (pu 0) (Qa (Qf Qq Qb (Qf QR Qb (pu 11))) Qc))) (Qa Z1 Qc))) (Qa (pu 13) (Qa (pu 14) Qc)))))))
   (Qd (QM (Qt (eqM K rfl hr.units) (pu 9) (pu 4) (Qw _)) (Qg (Qk (i:=17) sc_l_rows.nd rfl (Or.inl rfl) (Qs eE (hrm hr) rfl (Qa (pu 0) (Qa (pu 17) (Qa (pu 9) (Qa (pu 10) (Qa (pu 2) (Qa (pu 5) Qc))))))))) Qy)
   (Qg (Yo (Z2 hr) (pu 6) (pu 11) (pu 17) rfl)))))))))
   (Qg (Qk (i:=7) sc_l_rows.nd rfl (Or.inl rfl) (Qf Qq (pu 7) (pu 9))))))
   (Qg (Qu (Zd (N:=["_law_k","_law_rows_here"]) (caps:=[none,some 6]) rfl ZY (Zf rfl T.aS (Qa (pu 1) Qc)) (fun _ _ _ _=>Qp (i:=0) (show (["_law_k","_law_rows_here"]:List Str).Nodup by decide +kernel) rfl (Or.inl rfl) (.inr rfl)) (fun _ _ _ _=>QT) (fun _ _ _ _=>(Xp (Z2 hr) (pu 1) (pu 0) (fun _ _=>rfl)))))))))),?_⟩
 nofun;walk_at"dg";intro pd hpd;generalize e_g1:upd H pd _=H1 at *;obtain ⟨g1,k1⟩:=nwH hpd e_g1;refine ⟨by decide,fun le hle=>?_⟩;generalize e_g2:upd H1 le _=H2 at *;obtain ⟨g2,k2⟩:=nwH hle e_g2;have d2:=g2 _ _ k1;have g02:=g1.trans g2;obtain ⟨H3,eH3⟩:∃ H3,H3=H2:=⟨_,rfl⟩
 have g3:Same H2 H3:=by rw [eH3];exact Same.refl _
 have kseg:=(g02.trans g3) _ _ kseg0;have hSg:All2 (Sg K H3) af sv:=hSg0.imp fun _ _ y=>Sg.same y (g02.trans g3)
 rw [<-eH3];have g03:=g02.trans g3;have d3:=g3 _ _ d2;have svl:=hSg.1;have kB:∀ {i:Int},i.natAbs<2 ^ 40->Bd 60000 i:=fun h=>(show Bd 40 _ from h).mono (by decide)
 have flen:((af.map (·.2)).flatten).length=m:=by rw [pm.length_eq,Fi,ES]
 have fin:∀ j:Int,j∈(af.map (·.2)).flatten->0<=j/\j<(m:Int):=fun j hj=>by
  obtain ⟨n,hn,e⟩:=Fw.mp (pm.mem_iff.mp hj);rw [List.mem_range] at hn;omega
 have tkl:∀ i,(((af.take i).map (·.2)).flatten).length<=8:=fun i=>by
  have e:(af.map (·.2)).flatten=((af.take i).map (·.2)).flatten++((af.drop i).map (·.2)).flatten:=by rw [<-Dc,<-Fx,Es]
  have h1:=congrArg List.length e;rw [Fo] at h1;omega
 have tkm:∀ (i:Nat) (j:Int),j∈((af.take i).map (·.2)).flatten->0<=j/\j<(m:Int):=fun i j hj=>by
  refine fin j ?_;have e:(af.map (·.2)).flatten=((af.take i).map (·.2)).flatten++((af.drop i).map (·.2)).flatten:=by rw [<-Dc,<-Fx,Es]
  rw [e];exact FK.mpr (.inl hj)
 have led:le≠pd:=fun e=>by rw [e,k1] at hle;cases hle
 have lsd:lsg≠pd:=fun e=>by rw [e,d3] at kseg;cases kseg
 refine ⟨lsg,rfl,⟨_,SqL.of kseg⟩,JE (xs:=sv) (fun i σ' H'=>∃ (kvs:List (Key×V)) (lx:Addr) (x8 x9 x10 x11 x12 x13 x14 x15 x16 x17:Option V),σ'=[some (.ref a),some (.int m),some (.ref ln),some (.ref lsg),some (.ref lb),some (.int way),some (.ref pd),some (.ref lx),x8,x9,x10,x11,x12,x13,x14,x15,x16,x17]/\Same H H'/\Oth pd H3 H'/\H' pd=some (.dK kvs)/\H' lx=some (.lst ((((af.take i).map (·.2)).flatten).map V.int))/\lx≠pd/\(∀ j∈((af.take i).map (·.2)).flatten,Done K ak af bad way (cl ns 51) pd H' kvs j)/\kvs.length<=(((af.take i).map (·.2)).flatten).length) ⟨[],le,none,none,none,none,none,none,none,none,none,none,rfl,g03,Oth.refl _ _,d3,g3 _ _ k2,led,(fun j h=>nomatch h),Fl _⟩ (fun i σ' H' _ h=>by obtain ⟨_,_,_,_,_,_,_,_,_,_,_,_,_,_,o,_⟩:=h;exact SqL.of (o _ _ lsd kseg)) ?_ ?_⟩
 ·rintro i v _ H4 hv ⟨kvs,lx,x8,x9,x10,x11,x12,x13,x14,x15,x16,x17,rfl,g4,o4,d4,k4,lxd,dn,kvl⟩;obtain ⟨⟨ring,aj⟩,hsi,pt,lp,rfl,hT,hlp⟩:=hSg.getV hv;have ts:((af.take (i+1)).map (·.2)).flatten=((af.take i).map (·.2)).flatten++aj:=by rw [FH,hsi,Fx,Dc];simp
  have hl1:=tkl (i+1);rw [ts,Fo] at hl1;have hm1:=tkm (i+1);rw [ts] at hm1;have lpd:lp≠pd:=fun e=>by rw [e,d3] at hlp;cases hlp
  have hT4:SqT K H4 pt [.bl ring,.ref lp]:=(LR o4).sqT (YN (LX d3) hT) |> del_sub.sqT
  have p4:=o4 _ _ lpd hlp;have prop:∀ j:Int,j∈aj->0<=j/\j<(m:Int):=fun j hj=>hm1 j (FK.mpr (.inr hj))
  refine Xc hT4 rfl ?_;generalize hR2:Xe _ (Ze 7)=R2;nofun;refine Q3 (SqL.of p4) ?_;nofun;rw [Fi];refine ⟨by omega,by omega,MN (fun j σ' H'=>∃ (kvs:List (Key×V)) (x10 x11 x12 x13 x14 x15 x16 x17:Option V),σ'=[some (.ref a),some (.int m),some (.ref ln),some (.ref lsg),some (.ref lb),some (.int way),some (.ref pd),some (.ref lx),some (.bl ring),some (.ref lp),x10,x11,x12,x13,x14,x15,x16,x17]/\Same H H'/\Oth pd H4 H'/\H' pd=some (.dK kvs)/\(∀ k∈((af.take i).map (·.2)).flatten++aj.take j,Done K ak af bad way (cl ns 51) pd H' kvs k)/\kvs.length<=(((af.take i).map (·.2)).flatten).length+j) ⟨kvs,x10,x11,x12,x13,x14,x15,x16,x17,rfl,g4,Oth.refl _ _,d4,by rw [List.take_zero,Ed];exact dn,kvl⟩ ?_ ?_⟩
  ·rintro at' _ H5 hat ⟨kvs5,x10,x11,x12,x13,x14,x15,x16,x17,rfl,g5,o5,d5,dn5,kvl5⟩;have e0:(0:Int)+at'=at':=EC _;rw [e0];have hap:at'<aj.length:=by omega
   obtain ⟨kk,hkk⟩:∃ kk,aj[at']?=some kk:=⟨_,Fj hap⟩
   have kb:=prop kk (Fu hkk);obtain ⟨k,rfl⟩:=Ep kb.1;have k8:k<8:=by omega
   have p5:=o5 _ _ lpd p4;have m6:CMulB 6 (k:Int):=⟨kB (by decide),kB (by omega)⟩
   generalize hR3:ZX (Xe _ (Ze 17)) _=R3;nofun;refine Q7 (SqL.of p5) (QL (v:=.int k) (by rw [Fv,hkk];rfl)) ?_;nofun;obtain ⟨nm,hnm⟩:∃ nm,ak[k]?=some nm:=⟨_,Fj (by omega)⟩
   have keyP:∀ (D:QU) (rr:Rw) (p lc lo:Addr) (y12 y13 y14 y15 y16 y17:Option V) (H7:Hp),D.nx=(fun σ' H'=>∃ (kvs:List (Key×V)) (x10 x11 x12 x13 x14 x15 x16 x17:Option V),σ'=[some (.ref a),some (.int m),some (.ref ln),some (.ref lsg),some (.ref lb),some (.int way),some (.ref pd),some (.ref lx),some (.bl ring),some (.ref lp),x10,x11,x12,x13,x14,x15,x16,x17]/\Same H H'/\Oth pd H4 H'/\H' pd=some (.dK kvs)/\(∀ k∈((af.take i).map (·.2)).flatten++aj.take (at'+1),Done K ak af bad way (cl ns 51) pd H' kvs k)/\kvs.length<=(((af.take i).map (·.2)).flatten).length+(at'+1))->Same H5 H7->rr.nm=nm->H7 p=some (.tup [.str rr.nm,.ref lc,.ref lo,oV rr.lm,oV rr.un])->Cl K H7 rr.cs lc->Ol K H7 rr.os lo->lc≠pd->lo≠pd->RwP ak af bad way (cl ns 51) i at' ring aj rr ->
     ∃ a_1 H8,V.ref pd=V.ref a_1/\DPut H7 a_1 (V.int k) (V.ref p) H8/\D.nx [some (.ref a),some (.int m),some (.ref ln),some (.ref lsg),some (.ref lb),some (.int way),some (.ref pd),some (.ref lx),some (.bl ring),some (.ref lp),some (.int at'),some (.int k),y12,y13,y14,y15,y16,y17] H8:=by
    intro D rr p lc lo y12 y13 y14 y15 y16 y17 H7 hD g7 enm k7 hC7 hO7 lcd lod hRP;have d7:=g7 _ _ d5;have row:Rr K (del H7 pd) rr (.ref p):=⟨p,lc,lo,rfl,YN (LX d7) (SqT.of k7),hC7.del (LX d7) lcd,hO7.del (LX d7) lod⟩
    refine ⟨pd,_,rfl,DPut.k (k:=Sum.inl (k:Int)) d7 (by unfold sizeLine;omega),?_⟩;rw [hD];have o7:Oth pd H4 H7:=o5.trans (UM g7);refine ⟨_,_,_,_,_,_,_,_,_,rfl,QI (g5.trans g7) hpd,o7.put,Qe,fun j hj=>?_,?_⟩
    ·unfold Done;rw [Vc];by_cases c:j=(k:Int)
     ·exact ⟨.ref p,rr,by rw [Vq,Fk (by rw [c])],row,by rw [c,Int.toNat_natCast,enm];exact hnm,i,at',ring,aj,hsi,by rw [c];exact hkk,hRP⟩
     ·have hj':j∈((af.take i).map (·.2)).flatten++aj.take at':=by
       rcases FK.mp hj with h | h
       ·exact FK.mpr (.inl h)
       ·rw [FH,hkk] at h;rcases FK.mp h with h | h
        ·exact FK.mpr (.inr h)
        ·exact absurd (by simpa using h) c
      obtain ⟨v,r,h1,h2,h3⟩:=dn5 j hj';exact ⟨v,r,by rw [Vq,Fh (fun e=>c (Sum.inl.inj e))];exact h1,h2.same (Yb g7),h3⟩
    ·have:=X7 kvs5 (Sum.inl (k:Int):Key) (.ref p);omega
   have keyR:∀ (D:QU) (lm un:Option Int) (cs:List (Str×Rat)) (pc:Addr) (y15 y16:Option V) (H7:Hp),D.nx=(fun σ' H'=>∃ (kvs:List (Key×V)) (x10 x11 x12 x13 x14 x15 x16 x17:Option V),σ'=[some (.ref a),some (.int m),some (.ref ln),some (.ref lsg),some (.ref lb),some (.int way),some (.ref pd),some (.ref lx),some (.bl ring),some (.ref lp),x10,x11,x12,x13,x14,x15,x16,x17]/\Same H H'/\Oth pd H4 H'/\H' pd=some (.dK kvs)/\(∀ k∈((af.take i).map (·.2)).flatten++aj.take (at'+1),Done K ak af bad way (cl ns 51) pd H' kvs k)/\kvs.length<=(((af.take i).map (·.2)).flatten).length+(at'+1))->Same H5 H7->Cl K H7 cs pc->H5 pc=none->(∀ os:List (Int×Rat),(∀ o∈os,0<=o.2/\RB 14 o.2/\o.2<1)->os.length<=6->RwB ak (earl af i) ring aj at' ⟨nm,cs,os,lm,un⟩) ->
     R3 D [some (.ref a),some (.int m),some (.ref ln),some (.ref lsg),some (.ref lb),some (.int way),some (.ref pd),some (.ref lx),some (.bl ring),some (.ref lp),some (.int at'),some (.int k),some (.ref pc),some (oV lm),some (oV un),y15,y16,x17] H7:=by
    intro D lm un cs pc y15 y16 H7 hD g7 hC7 hpc hRB;have cpd:pc≠pd:=fun e=>by rw [e,d5] at hpc;cases hpc
    subst hR3;generalize hR4:NM _ _ _=R4;nofun;have g07:=g5.trans g7;have d7:=g7 _ _ d5;refine Q7 (g07.seq hN) (QL (v:=.str nm) (by rw [Fv,hnm];rfl)) ?_;refine ⟨m6,a,ns,_,rfl,rfl,g07.seq hS,by omega,?_⟩;refine ⟨_,true,rfl,rfl,(YJ hB _).mono (by decide),fun lo os H9 lo0 g9 hO lim osz ol=>⟨by decide,fun p10 hp10=>?_⟩⟩;generalize e_g10:upd H9 p10 _=H10 at *;obtain ⟨g10,k10⟩:=nwH hp10 e_g10;have g710:=g9.trans g10;have g510:=g7.trans g710;have lod:lo≠pd:=fun e=>by rw [e,d7] at lo0;cases lo0
    have hRB':=hRB os (fun o ho=>⟨(osz o ho).2.1,(osz o ho).2.2.1,(osz o ho).2.2.2 rfl⟩) ol;have hbad10:H10 lb=some (.lst (bad.map V.int)):=(g5.trans g510) _ _ kbad;have p10':=g510 _ _ p5;refine Kb (b:=decide (aj=bad)) (Y0 (SqL.of p10')) (Y0 (SqL.of hbad10)) Gf (by rw [EL,UY]) ?_;nofun;refine QH (fun eb=>?_) (fun eb=>?_)
    ·refine ⟨a,lp,ln,p10,pc,lo,ns,⟨nm,cs,os,lm,un⟩,aj,at',ak,way,rfl,rfl,SqT.of k10,hC7.same g710,hO.same g10,rfl,rfl,rfl,rfl,(g5.trans g510).seq hS,hB,p10',hap,by omega,(g5.trans g510).seq hN,nl,fun j hj=>?_,hRB'.cl,hRB'.cs,fun o ho=>⟨(hRB'.os o ho).1,(hRB'.os o ho).2.1⟩,ol,fun p lc lo' r' H11 hp11 hlc hlo g11 k11 hC11 hO11 hSp=>?_⟩
     ·have:=prop j hj;omega
     subst hR4;walk_at"dg";have d10:=g510 _ _ d5;refine keyP _ r' p lc lo' _ _ _ _ _ _ H11 hD (g510.trans g11) hSp.nm k11 hC11 hO11 (fun e=>?_) (fun e=>?_) ⟨_,hRB',hSp.nm,fun ne=>absurd eb ne,fun _=>hSp⟩
     ·rcases hlc with h | h
      ·exact cpd (h ▸ e)
      ·rw [e,d10] at h;cases h
     ·rcases hlo with h | h
      ·exact lod (h ▸ e)
      ·rw [e,d10] at h;cases h
    ·subst hR4;walk_at"dg";exact keyP _ ⟨nm,cs,os,lm,un⟩ p10 pc lo _ _ _ _ _ _ H10 hD g510 rfl k10 (hC7.same g710) (hO.same g10) cpd lod ⟨_,hRB',rfl,fun _=>rfl,fun e=>absurd e eb⟩
   refine ⟨a,lx,ln,ns,k,_,ak,rfl,rfl,rfl,rfl,g5.seq hS,hB,k8,SqL.of (o5 _ _ lxd k4),fun j hj=>by have:=tkm i j hj;omega,tkl i,g5.seq hN,nl,fun pc cs H6 hpc g6 hC ok0 csl sbl=>?_⟩;have g06:=g5.trans g6;refine ⟨m6,a,ns,_,rfl,rfl,g06.seq hS,by omega,?_⟩;refine ⟨_,rfl,(YJ hB _).mono (by decide),fun pj lm un H7 g7 hT7 hlm hun=>?_⟩;refine Xc hT7 rfl ?_;nofun;have g67:=g6.trans g7;have g07:=g5.trans g67;refine ⟨ring,rfl,QH (fun hrg=>?_) (fun hrg=>?_)⟩
   rotate_left
   ·have hrg:ring=false:=by simpa using hrg
    refine keyR _ lm un cs pc _ _ H7 rfl g67 (hC.same g7) hpc fun os o1 o2=>⟨fun _=>sbl,fun h=>(by rw [hrg] at h;cases h),fun h=>(by rw [hrg] at h;cases h),fun q hq=>(ok0 q hq).2,o1,by show cs.length<=50;omega,o2⟩
   have p7:=g67 _ _ p5;refine Q3 (SqL.of p7) ?_;rw [Fi];nofun;have pp:0<(aj.length:Int):=by omega
   refine ⟨pp,?_⟩;rw [show ((at':Int)+1) % (aj.length:Int)=(((at'+1) % aj.length:Nat):Int) by rw [Int.natCast_emod,Int.natCast_add];rfl];have ul:(at'+1) % aj.length<aj.length:=Nat.mod_lt _ (by omega);have egd:∃ kq,aj[(at'+1) % aj.length]?=some kq:=⟨_,Fj ul⟩
   obtain ⟨kq,hkq⟩:=egd;have kqb:=prop kq (Fu hkq);obtain ⟨kn,rfl⟩:=Ep kqb.1;obtain ⟨nb,hnb⟩:∃ nb,ak[kn]?=some nb:=⟨_,Fj (by omega)⟩
   refine Q7 (SqL.of p7) (QL (v:=.int kn) (by rw [Fv,hkq];rfl)) ?_;refine Q7 (g07.seq hN) (QL (v:=.str nb) (by rw [Fv,hnb];rfl)) ?_;obtain ⟨cw,kc6,hcw⟩:=hC;have cwl:=hcw.1;refine ⟨m6,a,ns,_,rfl,rfl,g07.seq hS,by omega,?_⟩;generalize cl ns (3+6*(k:Int))=c3;nofun;have kc7:=g7 _ _ kc6;refine ⟨CDivB.small (by decide) (by decide),Q3 (SqL.of kc7) ?_⟩;nofun;have q0:=FM (c3.fdiv 16) (show ((cw.length:Int)+1)≠0 by omega);have q1:=FP (c3.fdiv 16) (show 0<((cw.length:Int)+1) by omega);refine ⟨by omega,?_⟩;generalize c3.fdiv 16 % ((cw.length:Int)+1)=pl at *;refine ⟨.inl ⟨rfl,_,SqL.of kc7⟩,m6,a,ns,_,rfl,rfl,g07.seq hS,by omega,?_⟩;have c5:=cl2 hB (5+6*(k:Int)) (d:=3) (by decide);nofun;refine ⟨_,true,rfl,rfl,c5.mono (by decide),fun z r H8 g8 f8 r0 rb rl1=>⟨by decide,fun p9 hp9=>?_⟩⟩;generalize e_g9:upd H8 p9 _=H9 at *;obtain ⟨g9,k_g9⟩:=nwH hp9 e_g9;have w9:Cp K H9 (nb,r) (.ref p9):=⟨p9,_,rfl,SqT.of k_g9,f8.same g9⟩
   have g79:=g8.trans g9;have kc9:=g79 _ _ kc7;refine ⟨pc,cw,pl,.ref p9,rfl,rfl,kc9,q0,by omega,by omega,?_⟩;have hA9:All2 (Cp K H9) cs cw:=hcw.imp fun _ _ y=>(y.same g7).same g79
   have gw:=XF (ys:=cw.take pl.toNat++V.ref p9 :: cw.drop pl.toNat) kc9;nofun;have enb:nmJ ak (aj.getD ((at'+1) % aj.length) 0)=nb:=by
    rw [FO,hkq];exact K0 hnb
   refine keyR _ none none (cs.take pl.toNat++(nb,r) :: cs.drop pl.toNat) pc _ _ _ rfl (QI (g67.trans g79) hpc) ⟨_,Qe,(M7 hA9 pl.toNat w9).imp fun _ _ y=>y.grow gw⟩ hpc fun os o1 o2=>⟨fun h=>(by rw [hrg] at h;cases h),fun _=>⟨cs,pl.toNat,r,by rw [enb],sbl,rl1 rfl⟩,fun _=>⟨rfl,rfl⟩,fun q hq=>?_,o1,?_,o2⟩
   ·rcases FK.mp hq with h | h
    ·exact (ok0 q (List.mem_of_mem_take h)).2
    ·rcases FF.mp h with rfl | h
     ·exact ⟨r0,rb⟩
     ·exact (ok0 q (List.mem_of_mem_drop h)).2
   ·show (cs.take pl.toNat++(nb,r) :: cs.drop pl.toNat).length<=50;simp;omega
  ·rintro _ H5 ⟨kvs5,x10,x11,x12,x13,x14,x15,x16,x17,rfl,g5,o5,d5,dn5,kvl5⟩;show R2 _ _ _;subst hR2;nofun;have p5:=o5 _ _ lpd p4;have l5:=o5 _ _ lxd k4;have hpl8:aj.length<=8:=by omega
   have htk8:=tkl i;refine ⟨lx,lp,_,_,rfl,rfl,l5,p5,by simp only [Fi];unfold sizeLine;omega,fun l6 hl6=>?_⟩;have g6:=Qi hl6 (.lst ((((af.take i).map (·.2)).flatten).map V.int++aj.map V.int));have ld6:l6≠pd:=fun e=>by rw [e,d5] at hl6;cases hl6
   have ep:(aj.length:Int).toNat=aj.length:=by omega
   rw [ep,FI] at dn5;refine ⟨kvs5,l6,_,_,_,_,_,_,_,_,_,_,rfl,g5.trans g6,o4.trans (o5.trans (UM g6)),g6 _ _ d5,by rw [Qe,ts,Fx],ld6,?_,?_⟩
   ·rw [ts];exact fun j hj=>(dn5 j hj).same (Yb g6)
   ·rw [ts,Fo];omega
 ·rintro _ H4 ⟨kvs,lx,x8,x9,x10,x11,x12,x13,x14,x15,x16,x17,rfl,g4,o4,d4,k4,lxd,dn,kvl⟩;rw [<-svl,FI] at dn;nofun;simp only [QS];walk_at"dg";have dnk:∀ k:Nat,k<m->Done K ak af bad way (cl ns 51) pd H4 kvs k:=fun k hk=>dn k (pm.mem_iff.mpr (Fw.mpr ⟨k,List.mem_range.mpr hk,rfl⟩))
  refine ⟨by omega,by omega,VV (fun i acc σ' H'=>∃ (x0:Option V) (rs:List Rw),σ'=[x0,some (.ref pd)]/\H'=H4/\All2 (Rr K (del H4 pd)) rs acc/\rs.map (·.nm)=ak.take i/\∀ (k:Nat) r,rs[k]?=some r->RwQ ak af bad way (cl ns 51) k r) ⟨none,[],rfl,rfl,All2.nil,rfl,fun k r h=>by simp at h⟩ (by omega) ?_ ?_⟩
  ·rintro i acc _ H5 hi hacc ⟨x0,rs,rfl,e5,hA,rn,rok⟩;rw [e5];have e0:(0:Int)+i=i:=EC _;rw [e0];have him:i<m:=by omega
   obtain ⟨v,r,h1,h2,h4⟩:=dnk i him;have h3:=h4.1;simp only [ZR];walk_at"dg";refine ⟨pd,v,rfl,by have:=DGet.k (k:=Sum.inl (i:Int)) d4;rw [h1] at this;exact this,?_⟩;refine CN.mk hi (by rw [Fo,Fz];omega) ⟨_,rs++[r],rfl,rfl,hA.snoc h2,?_,fun k' r' hr'=>?_⟩
   ·have h3':ak[i]?=some r.nm:=h3;rw [Fx,rn,FH,h3'];rfl
   ·rcases X2 hr' with ⟨h,_⟩ | ⟨h,rfl⟩
    ·exact rok k' r' h
    ·have hl:=congrArg List.length rn;rw [Fi,FN] at hl;rw [h,show rs.length=i by omega];exact h4
  ·rintro acc _ H5 ⟨x0,rs,rfl,e5,hA,rn,rok⟩ pl hpl;rw [e5] at hpl ⊢;have mm:((m:Int)).toNat=m:=by omega
   rw [mm] at rn;have gl:=Qi hpl (.lst acc);exact q pl rs acc _ (g4.free hpl) (g4.trans gl) Qe (hA.imp fun _ _ y=>(y.same del_sub).same gl) rn rok
theorem Ui (T:Tx K mg t) (F:Fun K "_law_times" "_law_times" Yj f fd) (bL:Cal P w K mg base 2 "_law_low" ["_law_top","_law_bottom"] (Sp2M φlow)):FnOk P w K mg base CX0 3 f fd ["_law_one","_law_other"] (Sp2 (Qop K (·*·))):=by
 refine F.ok V9 Z3 (fun cdv A outer s H vs Q E hr h=>?_);obtain ⟨_,_,rfl,a,b,m,n,⟨p,rfl,h1⟩,⟨r,rfl,h2⟩,sa,sb,hmn,q⟩:=h;refine ⟨_,((Qg (Qu (Qs bL (hrm hr) rfl (Qa (Qf QR (Qr (ixK K rfl) (pu 0) Qb (fun _ _=>rfl)) (Qr (ixK K rfl) (pu 1) Qb (fun _ _=>rfl))) (Qa (Qf QR (Qr (ixK K rfl) (pu 0) Qb (fun _ _=>rfl)) (Qr (ixK K rfl) (pu 1) Qb (fun _ _=>rfl))) Qc)))))),?_⟩;nofun;refine ⟨⟨sa.1.mono (by omega),sb.1.mono (by omega)⟩,?_⟩;nofun;have pa:(0:Int)<(a.den:Int):=Int.natCast_pos.mpr a.den_pos;have pb:(0:Int)<(b.den:Int):=Int.natCast_pos.mpr b.den_pos;refine ⟨⟨sa.2.mono (by omega),sb.2.mono (by omega)⟩,_,_,rfl,rfl,Int.mul_pos pa pb,(sa.2.mul sb.2).mono (by omega),fun z hz=>q _ _ (Qi hz _) ?_⟩;show Fq K _ (a*b) _;rw [KH];exact Fq.new (E8 (dnz a) (dnz b))
inductive φlgr (K:W.Frag) (x:V) (H:Hp) (Q:VK):Prop
 | mk (lo:Addr) (os:List (Int×Rat)) (h1:x=.ref lo) (h2:Ol K H os lo) (h3:∀ p∈os,0<=p.2/\RB 14 p.2) (h4:∀ z H',Same H H'->Fq K H' (gr os) z->Q z H'):φlgr K x H Q
theorem JX (T:Tx K mg t) (F:Fun K "_law_greatest" "_law_greatest" Z6 f fd):FnOk P w K mg base CX0 1 f fd ["_law_offs_here"] (Sp1 (φlgr K)):=by
 refine F.ok sc_l_greatest Wp (fun cdv A outer s H vs Q E hr h=>?_);obtain ⟨_,rfl,lo,os,rfl,⟨vs,hlo,hA⟩,hr0,q⟩:=h;have hvl:=hA.1;refine ⟨_,((Qd (Qk (i:=1) sc_l_greatest.nd rfl (Or.inl rfl) (QA (Qa Qb (Qa Qb Qc))))
   (Qd (Za FX rfl (piK K rfl (pu 0)) (pgK (n:=2) K rfl rfl (Qz (Qp (i:=2) sc_l_greatest.nd rfl (Or.inl rfl)) (Qz (Qp (i:=3) sc_l_greatest.nd rfl (Or.inl rfl)) Zp)))
   (Qg (QM (Qt Ju (Qf QR (Qr (ixK K rfl) (pu 1) Qb (fun _ _=>rfl)) (Qr (ixK K rfl) (pu 3) Qb (fun _ _=>rfl))) (Qf QR (Qr (ixK K rfl) (pu 3) Qb (fun _ _=>rfl)) (Qr (ixK K rfl) (pu 1) Qb (fun _ _=>rfl))) (Qw _)) (Qg (Qk (i:=1) sc_l_greatest.nd rfl (Or.inl rfl) (pu 3))) Qy)))
   (Qg (Qu (pu 1)))))),?_⟩
 nofun;refine ⟨by decide,fun p0 hp0=>?_⟩;generalize e_g1:upd H p0 _=H1 at *;obtain ⟨g1,k_g1⟩:=nwH hp0 e_g1;have hF1:Fq K H1 0 (.ref p0):=Fq.int (i:=0) (SqT.of k_g1);refine ⟨lo,rfl,⟨_,SqL.of (g1 _ _ hlo)⟩,JE (xs:=vs) (fun i σ' H'=>∃ (z:V) (x2 x3:Option V),σ'=[some (.ref lo),some z,x2,x3]/\H'=H1/\Fq K H1 ((os.take i).foldl mx 0) z/\RB 14 ((os.take i).foldl mx 0)) ⟨_,none,none,rfl,rfl,hF1,RB.zero (by decide)⟩ (fun i σ' H' _ h=>by obtain ⟨_,_,_,_,rfl,_⟩:=h;exact SqL.of (g1 _ _ hlo)) ?_ ?_⟩
 ·rintro i v _ H2 hv ⟨z,x2,x3,rfl,e2,hF,hB⟩;rw [e2];obtain ⟨o,ho,pu,zu,rfl,hT,hFu⟩:=hA.getV hv;have om:=(hr0 o (Fu ho)).2;have tk:(os.take (i+1)).foldl mx 0=mx ((os.take i).foldl mx 0) o:=by rw [FH,ho,List.foldl_append];rfl
  obtain ⟨pz,rfl,hTz⟩:=hF;obtain ⟨pw,rfl,hTw⟩:=hFu.same g1;generalize (os.take i).foldl mx 0=mm at *;refine Xc (g1.sqT hT) rfl ?_;nofun;refine ⟨⟨hB.1.mono (by decide),om.2.mono (by decide)⟩,?_⟩;nofun;refine ⟨⟨om.1.mono (by decide),hB.2.mono (by decide)⟩,?_⟩;nofun;have e:(mm.num*(o.2.den:Int)<o.2.num*(mm.den:Int))↔mm<o.2:=(Rat.lt_iff _ _).symm;refine QH (fun c=>?_) (fun c=>?_)
  ·refine ⟨_,_,_,rfl,(by first | rfl | trivial),?_,?_⟩
   ·rw [tk];unfold mx;rw [Fk (e.mp c)];exact ⟨pw,rfl,hTw⟩
   ·rw [tk];exact UV hB om
  ·refine ⟨_,_,_,rfl,(by first | rfl | trivial),?_,?_⟩
   ·rw [tk];unfold mx;rw [Fh (fun h=>c (e.mpr h))];exact ⟨pz,rfl,hTz⟩
   ·rw [tk];exact UV hB om
 ·rintro _ H2 ⟨z,x2,x3,rfl,e2,hF,hB⟩;rw [e2];rw [<-hvl,FI] at hF;nofun;exact q z H1 g1 hF
inductive φnar (K:W.Frag) (x:V) (H:Hp) (Q:VK):Prop
 | mk (p:Addr) (b:Bool) (a z:V) (r:Rat) (m:Nat) (h1:x=.ref p) (h2:SqT K H p [.str (if b=true then Str.ofString "ring" else Str.ofString "alone"),a,z]) (h3:Fq K H r z) (h4:RB m r) (h5:m<=8000) (h6:Q (.bl (b&&decide (r<1))) H):φnar K x H Q
theorem Uh (T:Tx K mg t) (F:Fun K "narrows" "narrows" Yi f fd) (bE:Cal P w K mg base 1 "below" ["one","other"] (Sp2M (Qlt K))):FnOk P w K mg base CX0 2 f fd ["block"] (Sp1 (φnar K)):=by
 refine F.ok V8 Wp (fun cdv A outer s H vs Q E hr h=>?_);obtain ⟨_,rfl,p,b,a,z,r,m,rfl,hT,hF,hB,hm,q⟩:=h;refine ⟨_,((Qg (Qu (Jd (Zw (eqM K rfl hr.units) (Qr (ixK K rfl) (pu 0) Qb (fun _ _=>rfl)) Q5 (Qw _)) (Jt (Qs bE (hrm hr) rfl (Qa (Qr (ixK K rfl) (pu 0) Qb (fun _ _=>rfl)) (Qa (GK T.bC) Qc)))))))),?_⟩;cases b with
 | true=>
  have hT:SqT K H p [.str (Str.ofString "ring"),a,z]:=hT;nofun;refine ⟨r,1,m,1,hF,T.bC.fq1,hB,RB.int (i:=1) (show Bd 1 1 by unfold Bd;decide) (by decide),by omega,?_⟩;exact q
 | false=>
  have hT:SqT K H p [.str (Str.ofString "alone"),a,z]:=hT;nofun;exact q
inductive φkind (K:W.Frag) (t:Adr) (x y:V) (H:Hp) (Q:VK):Prop
 | mk (r:Rw) (n:Int) (h1:Rr K H r x) (h2:y=.int n) (h3:0<=n) (h4:n<2000000) (h5:r.cs.length<=60) (h6:r.os.length<=60) (h7:∀ v H',Same H H'->(∀ q ws,H q=some (.lst ws)->Kn K t.aE (del H' q) r v)->Q v H'):φkind K t x y H Q
theorem XC {x:Addr}{o1 o2:HO}(hx:H x=none) (hd:H dx=none) (o:Oth x (upd (upd H dx o1) x o2) H'):Same H H':=fun c u h=>by
 have c1:c≠x:=fun e=>by rw [e,hx] at h;cases h
 have c2:c≠dx:=fun e=>by rw [e,hd] at h;cases h
 exact o c u c1 (by rw [Qj c1,Qj c2];exact h)
theorem TN {y:V}{Q:Addr->Hp->Prop}(q:∀ x H',Same H H'->Q x H'):∀ x dx,H x=none->H dx=none->dx≠x->φone C (.ref x) y (upd (upd H dx (.own x)) x (.ins C dx [])) (fun v H2=>v=.non/\Q x H2):=fun x dx hx hd _=>φone.mk x dx rfl Qe fun H' o=>⟨rfl,q x H' (XC hx hd o)⟩
theorem TM {y:V}{Q:Addr->Hp->Prop}(q:∀ x H',Same H H'->Q x H'):∀ x dx,H x=none->H dx=none->dx≠x->φtwo C (.ref x) y z (upd (upd H dx (.own x)) x (.ins C dx [])) (fun v H2=>v=.non/\Q x H2):=fun x dx hx hd _=>φtwo.mk x dx rfl Qe fun H' o=>⟨rfl,q x H' (XC hx hd o)⟩
theorem Nu {y u:V}{Q:Addr->Hp->Prop}(q:∀ x H',Same H H'->Q x H'):∀ x dx,H x=none->H dx=none->dx≠x->φthree C (.ref x) y z u (upd (upd H dx (.own x)) x (.ins C dx [])) (fun v H2=>v=.non/\Q x H2):=fun x dx hx hd _=>φthree.mk x dx rfl Qe fun H' o=>⟨rfl,q x H' (XC hx hd o)⟩
theorem GS (T:Tx K mg t) (F:Fun K "_law_kind" "_law_kind" YX f fd) (eJ:JQ P w K mg base 1 t.aE ["self","title","parts","terms","pays","counts","offs","limit","unit","way"] (Sp10M (φkindI K t.aE))) (eK:JQ P w K mg base 1 t.bA ["self","many","low","high"] (Sp4M (φthree t.bA))) (eL:JQ P w K mg base 1 t.aZ ["self","many","low","high"] (Sp4M (φthree t.aZ))) (eN:JQ P w K mg base 1 t.bH ["self","rate","most"] (Sp3M (φtwo t.bH))) (eO:JQ P w K mg base 1 t.aY ["self","amount","low","high"] (Sp4M (φthree t.aY))) (eP:JQ P w K mg base 1 t.bK ["self","amount"] (Sp2M (φone t.bK))):FnOk P w K mg base CX0 3 f fd ["_law_row","_law_number"] (Sp2 (φkind K t)):=by
 refine F.ok sc_l_kind Z3 (fun cdv A outer s H vs Q E hr h=>?_);obtain ⟨_,_,rfl,r,n,hrow,rfl,n0,n1,cl,ol,q⟩:=h;refine ⟨_,((Qd (Qk (i:=2) sc_l_kind.nd rfl (Or.inl rfl) (Qr (ixK K rfl) (QB (Qa (QB Qc) (Qa (QB (Qa (XS eP (hrm hr) rfl T.gZ (Qa (Qf Qn (pu 1) Qb) Qc)) Qc)) (Qa (QB (Qa (XS eO (hrm hr) rfl T.hJ (Qa Qb (Qa Qb (Qa Qb Qc)))) (Qa (XS eN (hrm hr) rfl T.hU (Qa (QA (Qa Qb (Qa Qb Qc))) (Qa Qb Qc))) Qc))) Qc)))) (Qf Qn (Qf Qv (pu 1) Qb) Qb) (fun _ _=>rfl)))
   (Qd (Qk (i:=3) sc_l_kind.nd rfl (Or.inl rfl) (Qr (ixK K rfl) (QB (Qa (QB Qc) (Qa (QB (Qa (XS eL (hrm hr) rfl T.hV (Qa (Qf Qq Qb (Qf Qn (pu 1) Qb)) (Qa Qb (Qa Qb Qc)))) Qc)) (Qa (QB (Qa (XS eK (hrm hr) rfl T.hX (Qa Qb (Qa Qb (Qa Qb Qc)))) Qc)) Qc)))) (Qf Qn (Qf Qv (pu 1) Qb) Qb) (fun _ _=>rfl)))
   (Qd (Qk (i:=4) sc_l_kind.nd rfl (Or.inl rfl) (Qr (ixK K rfl) (QB (Qa (QB Qc) (Qa (QB (Qa (QA (Qa (QA (Qa Qb (Qa Qb Qc))) (Qa Qb (Qa Qb Qc)))) Qc)) (Qa (QB (Qa (QA (Qa (QA (Qa Qb (Qa Qb Qc))) (Qa Qb (Qa Qb Qc)))) (Qa (QA (Qa (QA (Qa Qb (Qa Qb Qc))) (Qa Qb (Qa Qb Qc)))) Qc))) Qc)))) (Qf Qn (Qf Qv (pu 1) Qb) Qb) (fun _ _=>rfl)))
   (Qd (Qk (i:=5) sc_l_kind.nd rfl (Or.inl rfl) (Qr (ixK K rfl) (QB (Qa Q5 (Qa Q5 (Qa Q5 Qc)))) (Qf QR (Qf Qn (Qf Qv (pu 1) Qb) Qb) (QK WL (by rfl) T.cT boot_int (Qa (Zw KQ (Qr (ixK K rfl) (pu 0) Qb (fun _ _=>rfl)) ZF (Qw _)) Qc))) (fun _ _=>rfl)))
   (Qg (Qu (XS eJ (hrm hr) rfl T.gX (Qa (Qr (ixK K rfl) (pu 0) Qb (fun _ _=>rfl)) (Qa (pu 2) (Qa (pu 3) (Qa (pu 4) (Qa (QK (Zk K rfl) (by rfl) T.aP Ei (Qa (Qr (ixK K rfl) (pu 0) Qb (fun _ _=>rfl)) Qc)) (Qa (QK (Zk K rfl) (by rfl) T.aP Ei (Qa (Qr (ixK K rfl) (pu 0) Qb (fun _ _=>rfl)) Qc)) (Qa (Qr (ixK K rfl) (pu 0) Qb (fun _ _=>rfl)) (Qa (Qr (ixK K rfl) (pu 0) Qb (fun _ _=>rfl)) (Qa (pu 5) Qc))))))))))))))))),?_⟩
 obtain ⟨p,lc,lo,rfl,hT,hC,hO⟩:=hrow;have at3:∀ (a b c:V) (k:Int),atI [a,b,c] (k % 3)=some a∨atI [a,b,c] (k % 3)=some b∨atI [a,b,c] (k % 3)=some c:=fun a b c k=>by
  rcases (show k % 3=0∨k % 3=1∨k % 3=2 by omega) with e | e | e <;> rw [e]
  ·exact .inl rfl
  ·exact .inr (.inl rfl)
  ·exact .inr (.inr rfl)
 generalize hR:ZX (Xe _ (Ze 3)) _=R;have key:∀ (D:QU) l v H1,D.rt=Q->Same H H1->H1 l=some (.lst v)->R D [some (.ref p),some (.int n),some (.ref l),none,none,none] H1:=by
  intro D l v H1 hD g1 k1;subst hR;generalize hR:ZX (Xe _ (Ze 4)) _=R;have key:∀ l2 v2 H2,Same H1 H2->H2 l2=some (.lst v2)->R D [some (.ref p),some (.int n),some (.ref l),some (.ref l2),none,none] H2:=by
   intro l2 v2 H2 g2 k2;subst hR;generalize hR:ZX (Xe _ (Ze 5)) _=R;have key:∀ l3 v3 H3,Same H2 H3->H3 l3=some (.lst v3)->R D [some (.ref p),some (.int n),some (.ref l),some (.ref l2),some (.ref l3),none] H3:=by
    intro l3 v3 H3 g3 k3;subst hR;have g03:=(g1.trans g2).trans g3;generalize hR:(NF _)=R;have key:∀ z H4,Same H3 H4->R D [some (.ref p),some (.int n),some (.ref l),some (.ref l2),some (.ref l3),some (.str z)] H4:=by
     intro z H4 g4;subst hR;unfold WV;nofun;have g04:=g03.trans g4;have hT4:=g04.sqT hT;obtain ⟨cv,kc,aC⟩:=hC.same g04;obtain ⟨ov,ko,aO⟩:=hO.same g04;refine YL hT4 rfl (YL hT4 rfl (Xs kc fun c1 hc1=>?_));generalize e_s1:upd H4 c1 _=H5 at *;obtain ⟨s1,k5⟩:=nwH hc1 e_s1;refine YL (s1.sqT hT4) rfl (Xs (s1 _ _ ko) fun c2 hc2=>?_);generalize e_s2:upd H5 c2 _=H6 at *;obtain ⟨s2,k6⟩:=nwH hc2 e_s2;have s12:=s1.trans s2;refine YL (s12.sqT hT4) rfl (YL (s12.sqT hT4) rfl fun x dx hx hdx ne=>?_);have gm:Same H6 (upd (upd H6 dx (.own x)) x (.ins t.aE dx [])):=(Qi hdx _).trans (Qi (by rw [Qj ne.symm];exact hx) _);have t3:=(g4.trans s12).trans gm;refine ⟨x,dx,l,l2,l3,c1,c2,v,v2,v3,cv,ov,rfl,Qe,rfl,((g2.trans g3).trans t3) _ _ k1,rfl,(g3.trans t3) _ _ k2,rfl,t3 _ _ k3,rfl,(s2.trans gm) _ _ k5,rfl,gm _ _ k6,fun H' fs lc' lo' o i e1 e2 e3 e4 e5 j1 n1 j2 n2 fr1 fr2=>⟨rfl,?_⟩⟩;have go:=s12.trans (XC hx hdx o);have g0:=g04.trans go;rw [hD];refine q _ H' g0 fun b ws hb=>?_
     have b6:=(g04.trans s12) _ _ hb;have bm:=gm _ _ b6;have nb:=HI (g0 _ _ hb);have nx:x≠b:=fun e=>by rw [e,b6] at hx;cases hx
     have nc:lc'≠b:=fun e=>by rw [e,bm] at fr1;cases fr1
     have no:lo'≠b:=fun e=>by rw [e,bm] at fr2;cases fr2
     exact ⟨x,dx,fs,lc',lo',rfl,by unfold del;rw [Fh nx];exact i,e1,e2,e3,e4,e5,Cl.del nb nc ⟨cv,j1,aC.imp fun _ _ y=>y.same go⟩,Ol.del nb no ⟨ov,j2,aO.imp fun _ _ y=>y.same go⟩⟩
    have w0:=FM (n.fdiv 1024) (show (3:Int)≠0 by decide);have w1:=FP (n.fdiv 1024) (show 0<(3:Int) by decide);have a3:=at3 (.str (Str.ofString "down")) (.str (Str.ofString "up")) (.str (Str.ofString "near")) (n.fdiv 1024);nofun;generalize n.fdiv 1024 % 3=w at *;refine ⟨by decide,fun b1 hb1=>⟨CDivB.small (by decide) (by decide),trivial,YL ((g03.trans (Qi hb1 _)).sqT hT) rfl ⟨trivial,.inr ⟨_,rfl,?_⟩⟩⟩⟩;generalize (!decide (oV r.un=V.non))=bb;have kB:∀ {i:Int},i.natAbs<2 ^ 40->Bd 60000 i:=fun h=>(show Bd 40 _ from h).mono (by decide)
    have cm1:CMulB w 1:=⟨kB (by omega),kB (by decide)⟩
    have cm0:CMulB w 0:=⟨kB (by omega),kB (by decide)⟩
    cases bb with
    | true=>
     refine ⟨cm1,?_⟩;show rIx K _ (V.int (w*1)) _ _;rw [Int.mul_one];rcases a3 with e | e | e <;> exact Q7 (SqL.of Qe) e (key _ _ (Qi hb1 _))
    | false=>
     refine ⟨cm0,?_⟩;show rIx K _ (V.int (w*0)) _ _;rw [Int.mul_zero];exact Q7 (v:=.str (Str.ofString "down")) (SqL.of Qe) rfl (key _ _ (Qi hb1 _))
   nofun;refine ⟨by decide,fun b1 hb1=>⟨by decide,fun b2 hb2=>⟨by decide,fun b3 hb3=>⟨by decide,fun b4 hb4=>⟨by decide,fun b5 hb5=>⟨by decide,fun b6 hb6=>⟨by decide,fun b7 hb7=>⟨by decide,fun b8 hb8=>⟨by decide,fun b9 hb9=>⟨by decide,fun b10 hb10=>⟨CDivB.small (by decide) (by decide),trivial,?_⟩⟩⟩⟩⟩⟩⟩⟩⟩⟩⟩;have s1:=Qi hb1 (.lst []);have s2:=Qi hb2 (.tup [.int 1,.int 1]);have s3:=Qi hb3 (.tup [.ref b2,.int 0,.int 150]);have s4:=Qi hb4 (.lst [.ref b3]);have s5:=Qi hb5 (.tup [.int 1,.int 2]);have s6:=Qi hb6 (.tup [.ref b5,.int 18,.int 66]);have s7:=Qi hb7 (.tup [.int 1,.int 3]);have s8:=Qi hb8 (.tup [.ref b7,.int 0,.int 40]);have s9:=Qi hb9 (.lst [.ref b6,.ref b8]);have s10:=Qi hb10 (.lst [.ref b1,.ref b4,.ref b9]);have f1:=s2.trans (s3.trans (s4.trans (s5.trans (s6.trans (s7.trans (s8.trans (s9.trans s10)))))));have f4:=s5.trans (s6.trans (s7.trans (s8.trans (s9.trans s10))));rcases at3 (.ref b1) (.ref b4) (.ref b9) (n.fdiv 256) with e | e | e
   ·exact Q7 (SqL.of Qe) e (key _ [] _ (s1.trans f1) (f1 _ _ Qe))
   ·exact Q7 (SqL.of Qe) e (key _ [.ref b3] _ (s1.trans f1) (f4 _ _ Qe))
   ·exact Q7 (SqL.of Qe) e (key _ [.ref b6,.ref b8] _ (s1.trans f1) (s10 _ _ Qe))
  unfold WV;nofun;refine ⟨by decide,fun a1 ha1=>⟨trivial,Nu fun x1 H2 g2=>⟨by decide,fun a2 ha2=>Nu fun x2 H3 g3=>⟨by decide,fun a3 ha3=>⟨by decide,fun a4 ha4=>⟨CDivB.small (by decide) (by decide),trivial,?_⟩⟩⟩⟩⟩⟩;have h1:=Qi ha1 (.lst []);have h2:=(Qi ha2 (.lst [.ref x1])).trans g3;have h3:=Qi ha3 (.lst [.ref x2]);have h4:=Qi ha4 (.lst [.ref a1,.ref a2,.ref a3]);have f34:=h3.trans h4;have f24:=h2.trans f34;have f14:=g2.trans f24;rcases at3 (.ref a1) (.ref a2) (.ref a3) (n.fdiv 64) with e | e | e
  ·exact Q7 (SqL.of Qe) e (key _ [] _ (h1.trans f14) (f14 _ _ Qe))
  ·exact Q7 (SqL.of Qe) e (key _ [.ref x1] _ (h1.trans f14) ((g3.trans f34) _ _ Qe))
  ·exact Q7 (SqL.of Qe) e (key _ [.ref x2] _ (h1.trans f14) (h4 _ _ Qe))
 unfold WV;nofun;refine ⟨by decide,fun a1 ha1=>⟨trivial,TN fun x1 H1 g1=>⟨by decide,fun a2 ha2=>Nu fun x2 H2 g2=>⟨by decide,fun a3 ha3=>TM fun x3 H3 g3=>⟨by decide,fun a4 ha4=>⟨by decide,fun a5 ha5=>⟨CDivB.small (by decide) (by decide),trivial,?_⟩⟩⟩⟩⟩⟩⟩;have h1:=Qi ha1 (.lst []);have h2:=(Qi ha2 (.lst [.ref x1])).trans g2;have h3:=(Qi ha3 (.tup [.int 1,.int 2])).trans g3;have h4:=Qi ha4 (.lst [.ref x2,.ref x3]);have h5:=Qi ha5 (.lst [.ref a1,.ref a2,.ref a4]);have f35:=(h3.trans h4).trans h5;have f25:=h2.trans f35;have f15:=g1.trans f25;rcases at3 (.ref a1) (.ref a2) (.ref a4) (n.fdiv 16) with e | e | e
 ·exact Q7 (SqL.of Qe) e (key _ _ [] _ rfl (h1.trans f15) (f15 _ _ Qe))
 ·exact Q7 (SqL.of Qe) e (key _ _ [.ref x1] _ rfl (h1.trans f15) ((g2.trans f35) _ _ Qe))
 ·exact Q7 (SqL.of Qe) e (key _ _ [.ref x2,.ref x3] _ rfl (h1.trans f15) (h5 _ _ Qe))
inductive φoffice (K:W.Frag) (t:Adr) (x y:V) (H:Hp) (Q:VK):Prop
 | mk (lr:Addr) (rs:List Rw) (vs:List V) (c:Int) (h1:x=.ref lr) (h2:H lr=some (.lst vs)) (h3:All2 (Rr K H) rs vs) (h4:y=.int c) (h5:Bd 1100000 c) (h6:rs.length<=8) (h7:∀ r∈rs,r.cs.length<=60/\r.os.length<=60)
   (h8:∀ p H',Same H H'->Of K t H' rs p->Q (.ref p) H'):φoffice K t x y H Q
theorem BF {y:V}{Q:Addr->Hp->Prop}(h:H l=some (.lst vs)) (q:∀ x H',Same H H'->Q x H'):∀ x dx,H x=none->H dx=none->dx≠x->φcapI K C (.ref x) y z (.ref l) (upd (upd H dx (.own x)) x (.ins C dx [])) (fun v H2=>v=.non/\Q x H2):=fun x dx hx hd ne=>⟨x,dx,l,vs,rfl,Qe,rfl,((Qi hd _).trans (Qi (by rw [Qj ne.symm];exact hx) _)) _ _ h,fun H' o=>⟨rfl,q x H' (XC hx hd o)⟩⟩
theorem ZW {l:List Str}(h:SqL K H a (l.map V.str)):Rep K H (.lst (l.map D.str)) (.ref a):=by
 refine .lst h (by simp) fun i d x h1 h2=>?_
 rw [Fv] at h1 h2;obtain ⟨z,hz,rfl⟩:=FW.mp h1;rw [hz] at h2;cases h2;exact .str _
theorem Vd {l:List Str}:DB 30 (.lst (l.map D.str)):=.lst fun d hd=>by
 obtain ⟨z,_,rfl⟩:=Fw.mp hd;exact .str _
theorem VE (T:Tx K mg t) (F:Fun K "_law_office" "_law_office" XM f fd) (eQ:JQ P w K mg base 1 t.aM ["self","kinds","caps"] (Sp3M (φoffI K t.aM))) (dH:JQ P w K mg base 1 t.aQ ["self","limit","each","titles"] (Sp4M (φcapI K t.aQ))) (eR:Cal P w K mg base 3 "_law_kind" ["_law_row","_law_number"] (Sp2M (φkind K t))):FnOk P w K mg base CX0 5 f fd ["_law_rows_here","_law_cell"] (Sp2 (φoffice K t)):=by
 refine F.ok sc_l_office Z3 (fun cdv A outer s H vs Q E hr h=>?_);obtain ⟨_,_,rfl,lr,rs,vs,c,rfl,hlr,hA,rfl,hc,rl,rok,q⟩:=h;refine ⟨_,((Qd (Qk (i:=2) sc_l_office.nd rfl (Or.inl rfl) (QB (Qa Qb (Qa Qb (Qa Qb (Qa Qb (Qa Qb (Qa Qb (Qa Qb (Qa Qb Qc))))))))))
   (Qd (Qk (i:=3) sc_l_office.nd rfl (Or.inl rfl) (QB Qc))
   (Qd (Za FX rfl (Zf rfl T.aS (Qa (Qm (Xk K rfl) (by rfl) T.aK F0 (Qa (pu 0) Qc)) Qc)) (Qp (i:=4) sc_l_office.nd rfl (Or.inl rfl))
   (Qg (Zu (ZO K rfl Ej EA EB Zg (pu 3) (Qa (Qs eR (hrm hr) rfl (Qa (Qr (ixK K rfl) (pu 0) (pu 4) (fun _ _=>rfl)) (Qa (Qf Qn (Qf QC (Qf Qq (Qf Qn (pu 1) Qb) Qb) (Qr (ixK K rfl) (pu 2) (pu 4) (fun _ _=>rfl))) Qb) Qc))) Qc)))))
   (Qd (Qk (i:=5) sc_l_office.nd rfl (Or.inl rfl) (QW (slK K rfl) (Zd (N:=["_law_row"]) (caps:=[none]) rfl ZY (piK K rfl (pu 0)) (fun _ _ _ _=>Qp (i:=0) (show (["_law_row"]:List Str).Nodup by decide +kernel) rfl (Or.inl rfl) (.inr rfl)) (fun _ _ _ _=>QT) (fun _ _ _ _=>(Qr (ixK K rfl) (pu 0) Qb (fun _ _=>rfl)))) (Zb (Qf Qn (pu 1) Qb)) Zc))
   (Qd (Qk (i:=6) sc_l_office.nd rfl (Or.inl rfl) (QB Qc))
   (Qd (QM (PW.pt (ZM (Qt (neM K rfl hr.units) (pu 5) (QB Qc) (Qw _)) (ZL (Qt (eqM K rfl hr.units) (Qf Qn (Qf Qv (pu 1) Qb) Qb) Qb (Qw _))))) (Qg (Qk (i:=6) sc_l_office.nd rfl (Or.inl rfl) (QB (Qa (XS dH (hrm hr) rfl T.dP (Qa (Qf Qn (Qf Qv (pu 1) Qb) Qb) (Qa Qb (Qa (QW (slK K rfl) (pu 5) Zc (Zb Qb)) Qc)))) Qc)))) Qy)
   (Qd (QM (PW.pt (ZM (Qt KR (Qm (Xk K rfl) (by rfl) T.aK F0 (Qa (pu 5) Qc)) Qb (Qw _)) (ZL (Qt (eqM K rfl hr.units) (Qf Qn (Qf Qv (pu 1) Qb) Qb) Qb (Qw _))))) (Qg (Zu (ZO K rfl Ej EA EB Zg (pu 6) (Qa (XS dH (hrm hr) rfl T.dP (Qa Qb (Qa (Qf Qn (Qf Qv (pu 1) Qb) Qb) (Qa (QW (slK K rfl) (pu 5) (Zb Qb) Zc) Qc)))) Qc)))) Qy)
   (Qg (Qu (XS eQ (hrm hr) rfl T.gY (Qa (pu 3) (Qa (pu 6) Qc))))))))))))),?_⟩
 have hvl:=hA.1;have byA:∀ k:Nat,k<8->∃ u:Int,[V.int 48271,V.int 69621,V.int 16807,V.int 39373,V.int 30269,V.int 40014,V.int 40692,V.int 20021][k]?=some (.int u)/\0<=u/\u<100000:=by
  intro k hk;rcases (show k=0∨k=1∨k=2∨k=3∨k=4∨k=5∨k=6∨k=7 by omega) with rfl | rfl | rfl | rfl | rfl | rfl | rfl | rfl <;> exact ⟨_,rfl,by decide,by decide⟩
 generalize hR:ZX (Xe _ (Ze 5)) _=R;nofun;refine ⟨by decide,fun pb hpb=>⟨by decide,fun pk hpk=>?_⟩⟩;generalize [V.int 48271,V.int 69621,V.int 16807,V.int 39373,V.int 30269,V.int 40014,V.int 40692,V.int 20021]=by8 at *;generalize e_g1:upd H pb _=H1 at *;obtain ⟨g1,kb⟩:=nwH hpb e_g1;generalize e_g2:upd H1 pk _=H2 at *;obtain ⟨g2,kk⟩:=nwH hpk e_g2;have g02:=g1.trans g2;have hpk0:=g1.free hpk;have pbk:pb≠pk:=fun e=>by rw [<-e,kb] at hpk;cases hpk
 refine Q3 (SqL.of (g02 _ _ hlr)) ?_;nofun;refine ⟨by omega,by omega,MN (fun i σ' H'=>∃ (ws:List V) (x4:Option V),σ'=[some (.ref lr),some (.int c),some (.ref pb),some (.ref pk),x4,none,none]/\Same H H'/\H' pb=some (.lst by8)/\H' pk=some (.lst ws)/\All2 (Kn K t.aE (del H' pk)) (rs.take i) ws) ⟨[],none,rfl,g02,g2 _ _ kb,kk,All2.nil⟩ ?_ ?_⟩
 ·rintro i _ H3 hi ⟨ws,x4,rfl,g3,b3,k3,hW⟩;have hiv:i<vs.length:=by omega
  have e0:(0:Int)+i=i:=EC _;rw [e0];obtain ⟨r,hr'⟩:∃ r,rs[i]?=some r:=⟨_,Fj (by omega)⟩
  obtain ⟨v,hv⟩:∃ v,vs[i]?=some v:=⟨_,Fj hiv⟩
  have row:Rr K H r v:=hA.2 i r v hr' hv;have rk:=rok r (Fu hr');obtain ⟨u,hu,u0,u1⟩:=byA i (by omega);have wl:=hW.1;rw [FN] at wl;nofun;refine ⟨.inl ⟨rfl,_,SqL.of k3⟩,Q7 (SqL.of (g3 _ _ hlr)) (QL hv) ?_⟩;nofun;refine ⟨trivial,Q7 (SqL.of b3) (QL hu) ?_⟩;nofun;have m0:=FM c (show (1000003:Int)≠0 by decide);have m1:=FP c (show 0<(1000003:Int) by decide);refine ⟨⟨kU (by omega),kU (by omega)⟩,trivial,?_⟩;refine ⟨r,_,row.same g3,rfl,FM _ (by decide),Int.lt_trans (FP _ (by decide)) (by decide),rk.1,rk.2,fun v4 H4 g4 hk4=>?_⟩;have kn:=hk4 _ _ k3;refine Zy (g4 _ _ k3) (QN (by omega)) ⟨_,_,rfl,QI (g3.trans g4) hpk0,by rw [Qj pbk];exact g4 _ _ b3,Qe,?_⟩;rw [Vc,FH,hr'];exact (hW.imp fun _ _ y=>y.same (Yb g4)).snoc kn
 ·rintro _ H3 ⟨ws,x4,rfl,g3,b3,k3,hW⟩;have hvn:((vs.length:Int)).toNat=vs.length:=by omega
  rw [hvn,<-hvl,FI] at hW;show R _ _ _;subst hR;have hK:All2 (Kn K t.aE H3) rs ws:=hW.imp fun _ _ y=>y.same del_sub
  clear hW;generalize hR:ZX (Vv _ _ _) _=R;nofun;simp only [QS];nofun;refine ⟨lr,rfl,⟨_,SqL.of (g3 _ _ hlr)⟩,ZS (xs:=vs) (fun j acc σ' H'=>∃ x0:Option V,σ'=[x0]/\H'=H3/\acc=(rs.take j).map fun r=>V.str r.nm) ⟨none,rfl,rfl,rfl⟩ (fun j acc σ' H' _ h=>by obtain ⟨_,_,rfl,_⟩:=h;exact SqL.of (g3 _ _ hlr)) (by omega) ?_ ?_⟩
  ·rintro j v acc _ H4 hv hacc ⟨x0,rfl,e4,rfl⟩;rw [e4];obtain ⟨r,hr',p,lc,lo,rfl,hT,_,_⟩:=hA.getV hv;simp only [ZR];nofun;refine YL (g3.sqT hT) rfl ?_;refine CN.mk (Qx hv) (by simp;omega) ⟨_,rfl,rfl,?_⟩;rw [FH,hr',Fx];rfl
  ·rintro acc _ H4 ⟨x0,rfl,e4,rfl⟩ pn hpn;rw [e4] at hpn ⊢;have en:(rs.take vs.length).map (fun r=>V.str r.nm)=(rs.map (·.nm)).map V.str:=by rw [<-hvl,FI,Eg];rfl
   rw [en] at *;have n1:=Qi hpn (.lst ((rs.map (·.nm)).map V.str));obtain ⟨k,hk⟩:∃ k:Nat,c % 5=(k:Int):=⟨(c % 5).toNat,by omega⟩
   rw [hk];refine ⟨trivial,Xb (SqL.of Qe) fun pt hpt=>⟨by decide,fun pc hpc=>?_⟩⟩;rw [Yd,<-List.map_drop] at *;have tl:((rs.map (·.nm)).drop k).length<=8:=by rw [F5,Fi];omega
   generalize (rs.map (·.nm)).drop k=T at *;have n2:=n1.trans (Qi hpt (.lst (T.map V.str)));have kt:(upd (upd H3 pn (.lst ((rs.map (·.nm)).map V.str))) pt (.lst (T.map V.str))) pt=some (.lst (T.map V.str)):=Qe;generalize upd (upd H3 pn (.lst ((rs.map (·.nm)).map V.str))) pt (.lst (T.map V.str))=H5 at *;have n3:=n2.trans (Qi hpc (.lst []));have kt6:=(Qi hpc (.lst [])) _ _ kt;have kc:(upd H5 pc (.lst [])) pc=some (.lst []):=Qe;have fc:=n2.free hpc;generalize upd H5 pc (.lst [])=H6 at *;subst hR;generalize hR:ZX (Vv _ _ _) (NF _)=R;have key:∀ (D:QU) pc' us H',D.rt=Q->Same H3 H'->H3 pc'=none->H' pt=some (.lst (T.map V.str))->pt≠pc'->H' pc'=some (.lst us)->us.length<=1->R D [some (.ref lr),some (.int c),some (.ref pb),some (.ref pk),x4,some (.ref pt),some (.ref pc')] H':=by
    intro D pc' us H7 hD g7 f7 t7 tc k7 ul;subst hR;generalize hR:NF _=R;have fin:∀ (D:QU) us H',D.rt=Q->Same H3 H'->H' pc'=some (.lst us)->R D [some (.ref lr),some (.int c),some (.ref pb),some (.ref pk),x4,some (.ref pt),some (.ref pc')] H':=by
     intro D us H8 hD g8 k8;subst hR;unfold WV;nofun;intro x dx hx hdx ne;have gm:Same H8 (upd (upd H8 dx (.own x)) x (.ins t.aM dx [])):=(Qi hdx _).trans (Qi (by rw [Qj ne.symm];exact hx) _);refine ⟨x,dx,pk,pc',ws,us,rfl,Qe,rfl,(g8.trans gm) _ _ k3,rfl,gm _ _ k8,fun H' fs lk o i e j np nn=>⟨rfl,?_⟩⟩;have go:=g8.trans (XC hx hdx o);rw [hD];exact q x H' (g3.trans go) ⟨dx,fs,lk,ws,i,e,j,hK.imp fun _ _ y=>y.same go,nn⟩
    unfold WV;nofun;refine Q3 (SqL.of t7) ?_;nofun;refine QH (fun _=>⟨CDivB.small (by decide) (by decide),trivial,QH (fun _=>?_) (fun _=>?_)⟩) (fun _=>?_)
    ·refine ⟨.inl ⟨rfl,_,SqL.of k7⟩,CDivB.small (by decide) (by decide),trivial,Xb (SqL.of t7) fun r hr'=>BF Qe fun x H8 g8=>?_⟩;have g78:=(Qi hr' _).trans g8;exact Zy (g78 _ _ k7) (QN (by omega)) (fin D _ _ hD (QI (g7.trans g78) f7) Qe)
    ·exact fin D _ _ hD g7 k7
    ·exact fin D _ _ hD g7 k7
   unfold WV;nofun;have ptc:pt≠pc:=fun e=>by rw [e] at kt;rw [hpc] at kt;cases kt
   refine ⟨by decide,fun pe hpe=>?_⟩;generalize e_n4:upd H6 pe _=H7 at *;obtain ⟨n4,ke⟩:=nwH hpe e_n4;have ke:H7 pe=some (.lst (([]:List Str).map V.str)):=ke;refine Nt (b:=decide (T=[])) (ZW (SqL.of (n4 _ _ kt6))) (ZW (SqL.of ke)) Vd (by cases T <;> simp) ?_;nofun;have no:R { nx:=fun x H'=>Q V.non H',rt:=Q } [some (.ref lr),some (.int c),some (.ref pb),some (.ref pk),x4,some (.ref pt),some (.ref pc)] H7:=key _ pc [] H7 rfl (n3.trans n4) fc (n4 _ _ kt6) ptc (n4 _ _ kc) (by decide);refine QH (fun _=>⟨CDivB.small (by decide) (by decide),trivial,QH (fun _=>?_) (fun _=>no)⟩) (fun _=>no);refine ⟨CDivB.small (by decide) (by decide),trivial,Xb (SqL.of (n4 _ _ kt6)) fun r hr'=>BF Qe fun x H8 g8=>⟨by decide,fun p9 hp9=>?_⟩⟩;have g78:=(Qi hr' _).trans g8;have g9:=g78.trans (Qi hp9 (.lst [.ref x]));have t8:=g78 _ _ (n4 _ _ kt6);exact key _ p9 [.ref x] _ rfl ((n3.trans n4).trans g9) ((n3.trans (n4.trans g78)).free hp9) (g9 _ _ (n4 _ _ kt6)) (fun e=>by rw [e,hp9] at t8;cases t8) Qe (Fl _)
section
variable {nb:Str->List Str}
theorem Rc.trans {z:Str}(h:Rc nb S y) (k:Rc nb (nb y) z):Rc nb S z:=by
 induction k with
 | start a=>exact .step h a
 | step _ a ih=>exact .step ih a
def lkB (nb:Str->List Str) (x y:Str):Bool:=@decide (x=y∨Rc nb (nb x) y) (Classical.propDecidable _)
def muB (nb:Str->List Str) (x y:Str):Bool:=lkB nb x y&&lkB nb y x
theorem lkB_iff:lkB nb x y=true↔(x=y∨Rc nb (nb x) y):=by unfold lkB;exact @decide_eq_true_iff _ (Classical.propDecidable _)
theorem X6 (x:Str):lkB nb x x=true:=lkB_iff.mpr (.inl rfl)
theorem ZU {z:Str}(h:lkB nb x y=true) (k:lkB nb y z=true):lkB nb x z=true:=by
 rcases lkB_iff.mp h with rfl | h
 ·exact k
 rcases lkB_iff.mp k with rfl | k
 ·exact lkB_iff.mpr (.inr h)
 exact lkB_iff.mpr (.inr (h.trans k))
theorem muB_iff:muB nb x y=true↔lkB nb x y=true/\lkB nb y x=true:=by unfold muB;rw [Eb]
theorem R8 (h:muB nb x y=true):lkB nb x=lkB nb y/\muB nb x=muB nb y:=by
 obtain ⟨h1,h2⟩:=muB_iff.mp h;have e1:lkB nb x=lkB nb y:=funext fun z=>by
  rw [F7];exact ⟨fun k=>ZU h2 k,fun k=>ZU h1 k⟩
 refine ⟨e1,funext fun z=>?_⟩;unfold muB;rw [e1]
 congr 1
 rw [F7];exact ⟨fun k=>ZU k h1,fun k=>ZU k h2⟩
def gx (nb:Str->List Str) (ak:List Str) (x:Str):Nat:=(ak.filter (lkB nb x)).length*(ak.length+1)+ak.findIdx (muB nb x)
structure Gq (nb:Str->List Str) (ak:List Str) (g:Str->Nat):Prop where
 nd:ak.Nodup
 cn:∀ x∈ak,∀ y∈nb x,y∈ak
 le:∀ x∈ak,∀ y∈nb x,g y<=g x
 mu:∀ {x y:Str},x∈ak->y∈ak->x≠y->((Rc nb (nb x) y/\Rc nb (nb y) x)↔g x=g y)
theorem SV (nd:ak.Nodup) (cn:∀ x∈ak,∀ y∈nb x,y∈ak):Gq nb ak (gx nb ak):=by
 have same:∀ {x y:Str},muB nb x y=true->gx nb ak x=gx nb ak y:=fun {x y} h=>by
  obtain ⟨e1,e2⟩:=R8 h;unfold gx;rw [e1,e2]
 have il:∀ x,ak.findIdx (muB nb x)<=ak.length:=fun x=>List.findIdx_le_length
 refine ⟨nd,cn,fun x hx y hy=>?_,fun {x y} hx hy ne=>⟨fun ⟨h1,h2⟩=>same (muB_iff.mpr ⟨lkB_iff.mpr (.inr h1),lkB_iff.mpr (.inr h2)⟩),fun e=>?_⟩⟩
 ·have xy:lkB nb x y=true:=lkB_iff.mpr (.inr (.start hy));have sub:ak.filter (lkB nb y)=(ak.filter (lkB nb x)).filter (lkB nb y):=by
   rw [List.filter_filter];refine List.filter_congr fun z _=>?_
   rw [F7,Eb];exact ⟨fun k=>⟨k,ZU xy k⟩,fun k=>k.1⟩
  have sl:(ak.filter (lkB nb y)).Sublist (ak.filter (lkB nb x)):=by rw [sub];exact Dm
  rcases EZ (ak.filter (lkB nb y)).length (ak.filter (lkB nb x)).length with lt | ge
  ·unfold gx;have h1:=il y;have h2:((ak.filter (lkB nb y)).length+1)*(ak.length+1)<=(ak.filter (lkB nb x)).length*(ak.length+1):=Nat.mul_le_mul_right _ lt;rw [Nat.add_mul,Nat.one_mul] at h2;omega
  ·have e:=sl.eq_of_length (Nat.le_antisymm sl.length_le ge);have hm:x∈ak.filter (lkB nb y):=by rw [e];exact F6.mpr ⟨hx,X6 x⟩
   exact Nat.le_of_eq (same (muB_iff.mpr ⟨(F6.mp hm).2,xy⟩))
 ·have ax:ak.findIdx (muB nb x)<ak.length:=List.findIdx_lt_length_of_exists ⟨x,hx,muB_iff.mpr ⟨X6 x,X6 x⟩⟩;have ay:ak.findIdx (muB nb y)<ak.length:=List.findIdx_lt_length_of_exists ⟨y,hy,muB_iff.mpr ⟨X6 y,X6 y⟩⟩;have e1:ak.findIdx (muB nb x)=ak.findIdx (muB nb y):=by
   have:=congrArg (· % (ak.length+1)) e;unfold gx at this;simp only [Nat.mul_add_mod_self_right] at this;rwa [EV (by omega),EV (by omega)] at this
  have mx:muB nb x (ak[ak.findIdx (muB nb x)]'ax)=true:=List.findIdx_getElem;have my:muB nb y (ak[ak.findIdx (muB nb y)]'ay)=true:=List.findIdx_getElem;simp only [<-e1] at my;obtain ⟨x1,x2⟩:=muB_iff.mp mx;obtain ⟨y1,y2⟩:=muB_iff.mp my;have a:=ZU x1 y2;have b:=ZU y1 x2;exact ⟨(lkB_iff.mp a).resolve_left ne,(lkB_iff.mp b).resolve_left (Ea ne)⟩
theorem Gq.go {g:Str->Nat}(G:Gq nb ak g) {z x:Str}(hz:z∈ak) (h:Rc nb (nb z) x):x∈ak/\g x<=g z:=by
 induction h with
 | start h=>exact ⟨G.cn _ hz _ h,G.le _ hz _ h⟩
 | step _ a ih=>exact ⟨G.cn _ ih.1 _ a,FR (G.le _ ih.1 _ a) ih.2⟩
end
section
variable (nb:Str->List Str) (g:Str->Nat) (ak:List Str)
def kOf (i:Nat):List Str:=ak.filter fun o=>decide (g o=i)
def isF (x:Str):Bool:=decide ((ak.find? fun o=>decide (g o=g x))=some x)
def frI (ch:List Nat) (i:Nat):Bool:=(kOf g ak i).all fun s=>(nb s).all fun y=>decide (g y=i∨g y∈ch)
def pkI (ch:List Nat):Option Str:=ak.find? fun x=>isF g ak x&&(!decide (g x∈ch)&&frI nb g ak ch (g x))
def Sqs (ss:List Str):Prop:=∀ (j:Nat) x,ss[j]?=some x->pkI nb g ak ((ss.take j).map g)=some x
end
section
variable {nb:Str->List Str} {ak:List Str} {g:Str->Nat}
theorem kOf_mem:x∈kOf g ak i↔x∈ak/\g x=i:=by unfold kOf;rw [F6];simp
theorem Ut (h:x∈ak):∃ f,f∈ak/\isF g ak f=true/\g f=g x/\(ak.find? fun o=>decide (g o=g x))=some f:=by
 cases e:ak.find? fun o=>decide (g o=g x) with
 | none=>exact absurd (Dy.mp e x h) (by simp)
 | some f=>
  have h1:=Dt e;have h2:g f=g x:=by simpa using Du e
  exact ⟨f,h1,by unfold isF;rw [h2,e];simp,h2,rfl⟩
theorem Ms (hx:isF g ak x=true) (hy:isF g ak y=true) (e:g x=g y):x=y:=by
 unfold isF at hx hy;rw [F9] at hx hy;rw [e,hy] at hx;exact (Fy hx).symm
theorem Wb (h:isF g ak x=true):∃ r,kOf g ak (g x)=x :: r:=by
 unfold isF at h;rw [F9,<-List.head?_filter] at h;unfold kOf;cases e:ak.filter fun o=>decide (g o=g x) with
 | nil=>rw [e] at h;cases h
 | cons a r=>rw [e] at h;cases h;exact ⟨r,rfl⟩
theorem L7 (hx:x∈ak) (hy:y∈ak):kOf g ak (g x)=kOf g ak (g y)↔g x=g y:=⟨fun e=>by
 have:x∈kOf g ak (g y):=by rw [<-e];exact kOf_mem.mpr ⟨hx,rfl⟩
 exact (kOf_mem.mp this).2,fun e=>by rw [e]⟩
theorem YB {ch:List Nat}(h:pkI nb g ak ch=some x):x∈ak/\isF g ak x=true/\g x ∉ ch/\frI nb g ak ch (g x)=true:=by
 have h1:=Dt h;have h2:=Du h;simp only [Eb,E3,Dj] at h2;exact ⟨h1,h2.1,h2.2.1,h2.2.2⟩
theorem VA (G:Gq nb ak g) {ch:List Nat}{x:Str}(hx:x∈ak) (n:g x ∉ ch):∃ z,pkI nb g ak ch=some z:=by
 cases e:pkI nb g ak ch with
 | some z=>exact ⟨z,rfl⟩
 | none=>
  exfalso;have h:=Dy.mp e;have key:∀ (n:Nat) (s:Str),g s=n->s∈ak->g s ∉ ch->False:=by
   intro n
   induction n using Nat.strongRecOn with
   | ind n ih=>
    intro s e hs hp;obtain ⟨f,f1,f2,f3,_⟩:=Ut (g:=g) hs;have h1:=h f f1;rw [f3] at h1;simp only [f2,Bool.true_and,Eb,E3,Dj,not_and] at h1;have h2:=h1 hp;refine h2 ?_;unfold frI;rw [Eo];intro z hz;obtain ⟨z1,z2⟩:=kOf_mem.mp hz;rw [Eo];intro y hy;rw [F9];have y1:=G.cn z z1 y hy;have y2:=G.le z z1 y hy;by_cases c:g y=g s
    ·exact .inl c
    ·exact .inr (Er fun c2=>ih (g y) (by omega) y rfl y1 c2)
  exact key _ x rfl hx n
theorem Sqs.snoc (h:Sqs nb g ak ss) (p:pkI nb g ak (ss.map g)=some x):Sqs nb g ak (ss++[x]):=fun j y hj=>by
 rcases X2 hj with ⟨h1,hl⟩ | ⟨h1,e⟩
 ·rw [List.take_append_of_le_length (by omega)];exact h j y h1
 ·subst e;rw [h1,List.take_append_of_le_length (Fl _),FI];exact p
theorem Sqs.nd (h:Sqs nb g ak ss):(ss.map g).Nodup:=by
 rw [List.nodup_iff_pairwise_ne,List.pairwise_iff_getElem];intro i j hi hj lt e;rw [Fi] at hi hj;have h1:=(YB (h j _ (Fj hj))).2.2.1;refine h1 (Fw.mpr ⟨ss[i],?_,by simpa using e⟩);exact Fu (i:=i) (by rw [EU,Fk lt];exact Fj hi)
theorem Sqs.mem (h:Sqs nb g ak ss) {x:Str}(hx:x∈ss):x∈ak/\isF g ak x=true:=by
 obtain ⟨j,hj⟩:=F4 hx;have:=YB (h j x hj);exact ⟨this.1,this.2.1⟩
theorem Sqs.snd (h:Sqs nb g ak ss):ss.Nodup:=(List.pairwise_map.mp h.nd).imp fun h e=>h (by rw [e])
theorem Sqs.le (h:Sqs nb g ak ss):ss.length<=(ak.filter (isF g ak)).length:=Xf h.snd fun z hz=>F6.mpr (h.mem hz)
end
section
variable {nb:Str->List Str} {ak:List Str} {g:Str->Nat}
def wi (nb:Str->List Str) (kn:List Str) (s:Str):List Str:=(nb s).filter fun y=>decide (y∈kn)
def nxO (nb:Str->List Str) (kn:List Str) (s:Str):Str:=(wi nb kn s).headD Str.empty
def itO (nb:Str->List Str) (kn:List Str) (f:Str):Nat->Str
 | 0=>f
 | k+1=>nxO nb kn (itO nb kn f k)
def rgo (nb:Str->List Str) (kn:List Str):List Str:=(List.range kn.length).map (itO nb kn (kn.headD Str.empty))
theorem SO {P:Nat->Prop}(h:P n):∃ m,P m/\m<=n/\∀ k,k<m->¬ P k:=by
 induction n using Nat.strongRecOn with
 | ind n ih=>
  by_cases c:∃ k,k<n/\P k
  ·obtain ⟨k,k1,k2⟩:=c;obtain ⟨m,m1,m2,m3⟩:=ih k k1 k2;exact ⟨m,m1,by omega,m3⟩
  ·exact ⟨n,h,Fl _,fun k hk p=>c ⟨k,hk,p⟩⟩
theorem K6 {f:Str}(a b:Nat):itO nb kn f (a+b)=itO nb kn (itO nb kn f a) b:=by
 induction b with
 | zero=>rfl
 | succ b ih=>show nxO nb kn _=nxO nb kn _;rw [<-ih];rfl
theorem KG (G:Gq nb ak g) {f:Str}(hf:f∈ak) (hi:isF g ak f=true) (h1:∀ s∈kOf g ak (g f),(wi nb (kOf g ak (g f)) s).length<=1) (h2:∃ s∈kOf g ak (g f),wi nb (kOf g ak (g f)) s≠[]) :
  (rgo nb (kOf g ak (g f))).Nodup/\(∀ s,s∈rgo nb (kOf g ak (g f))↔s∈kOf g ak (g f))/\(rgo nb (kOf g ak (g f)))[0]?=some f/\(rgo nb (kOf g ak (g f))).length=(kOf g ak (g f)).length/\∀ (j:Nat) s,(rgo nb (kOf g ak (g f)))[j]?=some s->wi nb (kOf g ak (g f)) s=[(rgo nb (kOf g ak (g f))).getD ((j+1) % (rgo nb (kOf g ak (g f))).length) Str.empty]:=by
 obtain ⟨tl,htl⟩:=Wb hi;have knd:(kOf g ak (g f)).Nodup:=G.nd.sublist Dm;have mem:∀ {x:Str},x∈kOf g ak (g f)↔x∈ak/\g x=g f:=kOf_mem;obtain ⟨kn,hkn⟩:∃ kn,kOf g ak (g f)=kn:=⟨_,rfl⟩
 rw [hkn] at htl knd h1 h2 mem ⊢;have hfk:f∈kn:=by rw [htl];exact FU
 have out:∀ s∈kn,∃ y∈nb s,y∈kn:=by
  intro s hs;by_cases c:∃ u∈kn,u≠s
  ·obtain ⟨u,hu,ne⟩:=c;have sn:=mem.mp hs;have un:=mem.mp hu;have mu:=(G.mu sn.1 un.1 ne.symm).mpr (sn.2.trans un.2.symm);have key:∀ {z:Str},Rc nb (nb s) z->Rc nb (nb z) s->∃ y∈nb s,y∈kn:=by
    intro z hz
    induction hz with
    | @start x hx=>
     intro hb;refine ⟨x,hx,?_⟩;by_cases e:x=s
     ·rw [e];exact hs
     ·have xn:=G.cn s sn.1 x hx;exact mem.mpr ⟨xn,((G.mu xn sn.1 e).mp ⟨hb,.start hx⟩).trans sn.2⟩
    | @step x y hx a ih=>exact fun hb=>ih ((Rc.start a).trans hb)
   exact key mu.1 mu.2
  ·have al:∀ u∈kn,u=s:=fun u hu=>Er fun h=>c ⟨u,hu,h⟩
   obtain ⟨v,hv,hw⟩:=h2;rw [al v hv] at hw;obtain ⟨y,hy⟩:=List.exists_mem_of_ne_nil _ hw;obtain ⟨y1,y2⟩:=F6.mp hy;exact ⟨y,y1,by simpa using y2⟩
 have one:∀ s∈kn,wi nb kn s=[nxO nb kn s]:=by
  intro s hs;obtain ⟨y,y1,y2⟩:=out s hs;have hm:y∈wi nb kn s:=F6.mpr ⟨y1,by simpa using y2⟩;have hl:=h1 s hs;unfold nxO;cases e:wi nb kn s with
  | nil=>rw [e] at hm;cases hm
  | cons a r=>
   rw [e] at hl;cases r with
   | nil=>rfl
   | cons _ _=>simp at hl
 have nin:∀ s∈kn,nxO nb kn s∈kn/\nxO nb kn s∈nb s:=by
  intro s hs;have:nxO nb kn s∈wi nb kn s:=by rw [one s hs];exact FC.mpr rfl
  obtain ⟨a,b⟩:=F6.mp this;exact ⟨by simpa using b,a⟩
 have uniq:∀ s∈kn,∀ y∈nb s,y∈kn->y=nxO nb kn s:=by
  intro s hs y hy hk;have:y∈wi nb kn s:=F6.mpr ⟨hy,by simpa using hk⟩;rw [one s hs] at this;exact FC.mp this
 have itin:∀ k,itO nb kn f k∈kn:=by
  intro k
  induction k with
  | zero=>exact hfk
  | succ k ih=>exact (nin _ ih).1
 have path:∀ {t:Str},Rc nb (nb f) t->t∈kn->∃ k,itO nb kn f (k+1)=t:=by
  intro t ht
  induction ht with
  | @start x hx=>exact fun hk=>⟨0,(uniq f hfk x hx hk).symm⟩
  | @step x y hx a ih=>
   intro hk;have xn:=(G.go hf hx).1;have yn:=mem.mp hk;have hxk:x∈kn:=by
    refine mem.mpr ⟨xn,Nat.le_antisymm (G.go hf hx).2 ?_⟩;rw [<-yn.2];exact G.le x xn y a
   obtain ⟨k,e⟩:=ih hxk;refine ⟨k+1,?_⟩;show nxO nb kn (itO nb kn f (k+1))=y;rw [e];exact (uniq x hxk y a hk).symm
 have self:Rc nb (nb f) f:=by
  obtain ⟨a,b⟩:=nin f hfk;by_cases e:nxO nb kn f=f
  ·rw [e] at b;exact .start b
  ·have an:=mem.mp a;exact (Rc.start b).trans ((G.mu an.1 hf e).mpr an.2).1
 obtain ⟨k0,hk0⟩:=path self hfk;obtain ⟨n,hn,_,hlt⟩:=SO (P:=fun n=>0<n/\itO nb kn f n=f) (n:=k0+1) ⟨Nat.succ_pos _,hk0⟩;obtain ⟨n0,hn⟩:=hn;have per:∀ k,itO nb kn f (k % n)=itO nb kn f k:=by
  intro k;have step:∀ q r,itO nb kn f (q*n+r)=itO nb kn f r:=by
   intro q
   induction q with
   | zero=>intro r;rw [Nat.zero_mul,Nat.zero_add]
   | succ q ih=>intro r;rw [Nat.add_mul,Nat.one_mul,Nat.add_assoc,ih (n+r),K6,hn]
  have:=step (k / n) (k % n);rw [Nat.div_add_mod' k n] at this;exact this.symm
 have inj:∀ i j,i<j->j<n->itO nb kn f i≠itO nb kn f j:=by
  intro i j hij hj e;refine hlt (i+(n-j)) (by omega) ⟨by omega,?_⟩;rw [K6,e,<-K6,show j+(n-j)=n by omega,hn]
 have lnd:((List.range n).map (itO nb kn f)).Nodup:=by
  rw [List.nodup_iff_pairwise_ne,List.pairwise_map];refine (List.pairwise_lt_range (n:=n)).imp_of_mem fun {a b} ha hb lt=>?_
  exact inj a b lt (List.mem_range.mp hb)
 have lall:∀ t∈kn,t∈(List.range n).map (itO nb kn f):=by
  intro t ht;have:∃ k,itO nb kn f k=t:=by
   by_cases e:t=f
   ·exact ⟨0,e.symm⟩
   ·have tn:=mem.mp ht;obtain ⟨k,hk⟩:=path ((G.mu hf tn.1 (fun c=>e c.symm)).mpr tn.2.symm).1 ht;exact ⟨k+1,hk⟩
  obtain ⟨k,hk⟩:=this;exact Fw.mpr ⟨k % n,List.mem_range.mpr (Nat.mod_lt _ n0),(per k).trans hk⟩
 have lin:∀ t∈(List.range n).map (itO nb kn f),t∈kn:=by
  intro t ht;obtain ⟨k,_,rfl⟩:=Fw.mp ht;exact itin k
 have len:n=kn.length:=by
  have a:=Xf lnd lin;have b:=Xf knd lall;rw [Fi,ES] at a b;omega
 have er:rgo nb kn=(List.range n).map (itO nb kn f):=by
  unfold rgo;rw [<-len,show kn.headD Str.empty=f by rw [htl];rfl]
 have lr:(rgo nb kn).length=n:=by rw [er,Fi,ES]
 have at':∀ j,j<n->(rgo nb kn)[j]?=some (itO nb kn f j):=fun j hj=>by rw [er,Fv,Df hj];rfl
 refine ⟨by rw [er];exact lnd,fun s=>by rw [er];exact ⟨lin s,lall s⟩,at' 0 n0,by rw [lr,len],fun j s hj=>?_⟩;have hjn:j<n:=by have:=Qx hj;omega
 rw [at' j hjn] at hj;cases hj;rw [one _ (itin j),lr,FO,at' _ (Nat.mod_lt _ n0),per];rfl
end
theorem U2 {l:List α}{d:α}(n:Nat) (h:l≠[]):l[n % l.length]?=some (l.getD (n % l.length) d):=by
 have hl:0<l.length:=De.mpr h;have:=Nat.mod_lt n hl;rw [FO,Fj this];rfl
theorem ZP {l:List α}{d x:α}(h:l[n]?=some x):l.getD n d=x:=by rw [FO,h];rfl
def rt (aj:List Str) (a:Nat):List Str:=(List.range aj.length).map fun k=>aj.getD ((a+k) % aj.length) Str.empty
theorem XQ {aj:List Str}{a:Nat}:(rt aj a).length=aj.length:=by unfold rt;rw [Fi,ES]
theorem Jq {aj:List Str}{a k:Nat}(h:k<aj.length):(rt aj a)[k]?=some (aj.getD ((a+k) % aj.length) Str.empty):=by
 unfold rt;rw [Fv,Df h];rfl
theorem Su {aj:List Str}{a k:Nat}(h:aj≠[]):(rt aj a).getD ((k+1) % (rt aj a).length) Str.empty=aj.getD ((((a+k) % aj.length)+1) % aj.length) Str.empty:=by
 have hl:0<aj.length:=De.mpr h;rw [XQ,ZP (Jq (Nat.mod_lt (k+1) hl)),Nat.mod_add_mod,Nat.add_mod_mod,Nat.add_assoc]
theorem UO {aj:List Str}{a:Nat}(h:a<aj.length):rt aj a=aj.drop a++aj.take a:=by
 apply Eu;intro k;by_cases hk:k<aj.length
 ·rw [Jq hk];by_cases c:k<aj.length-a
  ·rw [Eh (by rw [F5];exact c),List.getElem?_drop,EV (by omega),FO,Fj (by omega)];rfl
  ·rw [Ee (by rw [F5];omega),F5,EU,Fk (by omega)];have e:(a+k) % aj.length=k-(aj.length-a):=by
    rw [show a+k=(k-(aj.length-a))+aj.length by omega,Nat.add_mod_right,EV (by omega)]
   rw [e,FO,Fj (by omega)];rfl
 ·rw [Ec (by rw [XQ];omega),Ec (by rw [Fo,F5,FN];omega)]
theorem NO {aj:List Str}{a:Nat}(h:a<aj.length):(rt aj a).Perm aj:=by
 rw [UO h];exact List.perm_append_comm.trans (by rw [Es])
def rwt (rs:List Rw) (x y:Str):Rat:=match rs.find? fun r=>decide (r.nm=x) with
 | some r=>gr r.os*((r.cs.find? fun c=>decide (c.1=y)).map (·.2)).getD 0
 | none=>0
def Zo (rs:List Rw) (ts:List Str):Nat->Rat
 | 0=>1
 | k+1=>Zo rs ts k*rwt rs (ts.getD k Str.empty) (ts.getD ((k+1) % ts.length) Str.empty)
def Fb (rs:List Rw) (x y:Str):Prop:=∃ r rr,(rs.find? fun r=>decide (r.nm=x))=some r/\r.cs.filter (fun c=>decide (c.1=y))=[(y,rr)]/\RB 14 rr/\0<=rr/\(∀ o∈r.os,0<=o.2/\RB 14 o.2)/\r.os.length<=60/\r.cs.length<=60/\True
def Rg (rs:List Rw) (ts:List Str):Prop:=ts≠[]/\ts.length<=8/\∀ (j:Nat) x,ts[j]?=some x->Fb rs x (ts.getD ((j+1) % ts.length) Str.empty)
theorem Jp {r:Rw}{rr:Rat}(h:(rs.find? fun r=>decide (r.nm=x))=some r) (h2:r.cs.filter (fun c=>decide (c.1=y))=[(y,rr)]):rwt rs x y=gr r.os*rr:=by
 unfold rwt;rw [h];show gr r.os*((r.cs.find? fun c=>decide (c.1=y)).map (·.2)).getD 0=_;rw [<-List.head?_filter,h2];rfl
theorem JD (h:∀ o∈os,0<=o.2/\RB 14 o.2):0<=gr os/\RB 14 (gr os)/\((∀ o∈os,o.2<1)->gr os<1):=by
 have key:∀ (l:List (Int×Rat)) (m:Rat),(∀ o∈l,0<=o.2/\RB 14 o.2)->0<=m->RB 14 m->0<=l.foldl mx m/\RB 14 (l.foldl mx m)/\(m<1->(∀ o∈l,o.2<1)->l.foldl mx m<1):=by
  intro l
  induction l with
  | nil=>intro m _ h1 h2;exact ⟨h1,h2,fun h _=>h⟩
  | cons o l ih=>
   intro m ho h1 h2;have o1:=ho o FU;have e0:0<=mx m o:=by
    unfold mx;split
    ·exact o1.1
    ·exact h1
   obtain ⟨a,b,c⟩:=ih (mx m o) (fun z hz=>ho z (FZ _ hz)) e0 (UV h2 o1.2);refine ⟨a,b,fun h hh=>c ?_ fun z hz=>hh z (FZ _ hz)⟩;unfold mx;split
   ·exact hh o FU
   ·exact h
 obtain ⟨a,b,c⟩:=key os 0 h (Rat.le_refl) (RB.zero (by decide));exact ⟨a,b,c (by decide)⟩
theorem Y3 {rs:List Rw}{ts:List Str}(h:Rg rs ts):∀ k,k<=ts.length->True/\True/\True/\RB (28*k+1) (Zo rs ts k)
 | 0,_=>⟨trivial,trivial,trivial,RB.one (by decide)⟩
 | k+1,hk=>by
  obtain ⟨_,_,_,d⟩:=Y3 h k (by omega);have hx:ts[k]?=some (ts.getD k Str.empty):=by rw [FO,Fj (by omega)];rfl
  obtain ⟨r,rr,h1,h2,h3,_,h5,_⟩:=h.2.2 k _ hx;obtain ⟨_,gB,_⟩:=JD h5;refine ⟨trivial,trivial,trivial,?_⟩;show RB _ (Zo rs ts k*rwt rs (ts.getD k Str.empty) (ts.getD ((k+1) % ts.length) Str.empty));rw [Jp h1 h2];exact (d.mul ((gB.mul h3).mono (by decide):RB 28 _)).mono (by omega)
theorem YG {α:Type}:∀ {l:List α}{x:α}{r:α->Bool},l.Nodup->x∈l->(∀ y∈l,r y=true↔y=x)->l.filter r=[x]
 | [],_,_,_,h,_=>absurd h (fun z=>nomatch z)
 | a :: l,x,r,nd,h,hr=>by
  have nd':=Ex.mp nd;rcases FF.mp h with e | hx
  ·subst e;rw [ED ((hr x FU).mpr rfl)]
   congr 1
   refine Dn.mpr fun y hy c=>?_
   have:=(hr y (FZ _ hy)).mp c;exact nd'.1 (this ▸ hy)
  ·rw [ET (fun c=>nd'.1 ((hr a FU).mp c ▸ hx))];exact YG nd'.2 hx fun y hy=>hr y (FZ _ hy)
theorem Wf {rr:Rat}(nd:(cs.map (·.1)).Nodup) (h:(y,rr)∈cs):cs.filter (fun c=>decide (c.1=y))=[(y,rr)]:=by
 have inj:∀ c∈cs,c.1=y->c=(y,rr):=fun c hc e=>by
  obtain ⟨i,hi⟩:=F4 hc;obtain ⟨j,hj⟩:=F4 h;have li:=Qx hi;have lj:=Qx hj;have:i=j:=(List.getElem_inj (h₀:=by rw [Fi];exact li) (h₁:=by rw [Fi];exact lj) nd).mp (by
   rw [Da,Da,Fy ((Fj li).symm.trans hi),Fy ((Fj lj).symm.trans hj),e])
  rw [this,hj] at hi;exact (Fy hi).symm
 exact YG ((List.pairwise_map.mp nd).imp fun n e=>n (by rw [e])) h fun c hc=>⟨fun e=>inj c hc (EO e),fun e=>by rw [e];simp⟩
theorem U5 (nd:(rs.map (·.nm)).Nodup) {i:Nat}{r:Rw}(h:rs[i]?=some r):(rs.find? fun r'=>decide (r'.nm=r.nm))=some r:=by
 have:rs.filter (fun r'=>decide (r'.nm=r.nm))=[r]:=by
  refine YG ((List.pairwise_map.mp nd).imp fun n e=>n (by rw [e])) (Fu h) fun y hy=>⟨fun e=>?_,fun e=>by rw [e];simp⟩
  have e:=EO e;obtain ⟨j,hj⟩:=F4 hy;have li:=Qx h;have lj:=Qx hj;have:i=j:=(List.getElem_inj (h₀:=by rw [Fi];exact li) (h₁:=by rw [Fi];exact lj) nd).mp (by
   rw [Da,Da,Fy ((Fj li).symm.trans h),Fy ((Fj lj).symm.trans hj),e])
  rw [<-this,h] at hj;exact (Fy hj).symm
 rw [<-List.head?_filter,this];rfl
structure ROk (rs:List Rw):Prop where
 rw:Rows rs
 ok:∀ r∈rs,(∀ c∈r.cs,0<=c.2/\RB 14 c.2)/\(∀ o∈r.os,0<=o.2/\RB 14 o.2)/\r.os.length<=60
theorem RC (h:Rows rs) {s:Str}(hs:s∈rs.map (·.nm)):∃ r,r∈rs/\r.nm=s/\(rs.find? fun r=>decide (r.nm=s))=some r/\nbR rs s=r.cs.map (·.1):=by
 obtain ⟨r,hr,rfl⟩:=Fw.mp hs;obtain ⟨i,hi⟩:=F4 hr;exact ⟨r,hr,rfl,U5 h.nd hi,Jx h.nd hi⟩
inductive BT where
 | al | tg | jp (ts:List Str) | wd (ts:List Str) (q:Rat) | rg (ts:List Str) (q:Rat)
def ZZ (rs:List Rw) (s:Str):Bool:=match rs.find? fun r=>decide (r.nm=s) with
 | some r=>r.un.isSome||r.lm.isSome
 | none=>false
def YA (rs:List Rw) (ts:List Str):Rat:=Zo rs ts ts.length
def bt (rs:List Rw) (kn:List Str):BT:=
 if (∃ s∈kn,1<(wi (nbR rs) kn s).length) then .tg
 else if (∀ s∈kn,wi (nbR rs) kn s=[]) then .al
 else if (rgo (nbR rs) kn).any (ZZ rs)=true then .jp (rgo (nbR rs) kn)
 else if (rgo (nbR rs) kn).length % 2=0/\¬ YA rs (rgo (nbR rs) kn)<1 then .wd (rgo (nbR rs) kn) (YA rs (rgo (nbR rs) kn))
 else .rg (rgo (nbR rs) kn) (YA rs (rgo (nbR rs) kn))
def BT.good:BT->Bool
 | .al=>true
 | .rg _ _=>true
 | _=>false
def BT.ts (kn:List Str):BT->List Str
 | .al=>kn
 | .tg=>kn
 | .jp ts=>ts
 | .wd ts _=>ts
 | .rg ts _=>ts
def BT.q:BT->Rat
 | .wd _ q=>q
 | .rg _ q=>q
 | _=>0
def BT.wd1:BT->Str
 | .al=>Str.ofString "alone"
 | .rg _ _=>Str.ofString "ring"
 | .tg=>Str.ofString "tangled"
 | .jp _=>Str.ofString "jumps"
 | .wd _ _=>Str.ofString "widens"
section
variable {rs:List Rw} {kn:List Str}
theorem Gi {s:Str}(hs:s∈kn) (h:1<(wi (nbR rs) kn s).length):bt rs kn=.tg:=by unfold bt;rw [Fk ⟨s,hs,h⟩]
theorem Gm (h:∀ s∈kn,wi (nbR rs) kn s=[]):bt rs kn=.al:=by
 unfold bt;rw [Fh (fun ⟨s,hs,c⟩=>by rw [h s hs] at c;exact absurd c (by decide)),Fk h]
theorem Gk (h1:∀ s∈kn,(wi (nbR rs) kn s).length<=1) (h2:∃ s∈kn,wi (nbR rs) kn s≠[]) (h3:(rgo (nbR rs) kn).any (ZZ rs)=true):bt rs kn=.jp (rgo (nbR rs) kn):=by
 obtain ⟨s,hs,c⟩:=h2;unfold bt;rw [Fh (fun ⟨s,hs,c⟩=>by have:=h1 s hs;omega),Fh (fun h=>c (h s hs)),Fk h3]
theorem Gh (h1:∀ s∈kn,(wi (nbR rs) kn s).length<=1) (h2:∃ s∈kn,wi (nbR rs) kn s≠[]) (h3:(rgo (nbR rs) kn).any (ZZ rs)=false) (h4:(rgo (nbR rs) kn).length % 2=0) (h5:¬ YA rs (rgo (nbR rs) kn)<1):bt rs kn=.wd (rgo (nbR rs) kn) (YA rs (rgo (nbR rs) kn)):=by
 obtain ⟨s,hs,c⟩:=h2;unfold bt;rw [Fh (fun ⟨s,hs,c⟩=>by have:=h1 s hs;omega),Fh (fun h=>c (h s hs)),Fh (by rw [h3];decide),Fk ⟨h4,h5⟩]
theorem Gj (h1:∀ s∈kn,(wi (nbR rs) kn s).length<=1) (h2:∃ s∈kn,wi (nbR rs) kn s≠[]) (h3:(rgo (nbR rs) kn).any (ZZ rs)=false) (h4:¬ ((rgo (nbR rs) kn).length % 2=0/\¬ YA rs (rgo (nbR rs) kn)<1)):bt rs kn=.rg (rgo (nbR rs) kn) (YA rs (rgo (nbR rs) kn)):=by
 obtain ⟨s,hs,c⟩:=h2;unfold bt;rw [Fh (fun ⟨s,hs,c⟩=>by have:=h1 s hs;omega),Fh (fun h=>c (h s hs)),Fh (by rw [h3];decide),Fh h4]
end
theorem NP (hR:ROk rs) {g:Str->Nat}(G:Gq (nbR rs) (rs.map (·.nm)) g) {f:Str}(hf:f∈rs.map (·.nm)) (hi:isF g (rs.map (·.nm)) f=true) (h1:∀ s∈kOf g (rs.map (·.nm)) (g f),(wi (nbR rs) (kOf g (rs.map (·.nm)) (g f)) s).length<=1) (h2:∃ s∈kOf g (rs.map (·.nm)) (g f),wi (nbR rs) (kOf g (rs.map (·.nm)) (g f)) s≠[]):Rg rs (rgo (nbR rs) (kOf g (rs.map (·.nm)) (g f))):=by
 obtain ⟨r1,r2,r3,r4,r5⟩:=KG G hf hi h1 h2;have hle:=hR.rw.le;have kl:(kOf g (rs.map (·.nm)) (g f)).length<=8:=FR (EG _ _) (by rw [Fi];exact hle);refine ⟨(fun e=>by rw [e] at r3;cases r3),by omega,fun j x hx=>?_⟩;have w:=r5 j x hx;have xk:=(r2 x).mp (Fu hx);obtain ⟨r,q1,q2,q3,q4⟩:=RC hR.rw (kOf_mem.mp xk).1;obtain ⟨y,hy⟩:∃ y,(rgo (nbR rs) (kOf g (rs.map (·.nm)) (g f))).getD ((j+1) % (rgo (nbR rs) (kOf g (rs.map (·.nm)) (g f))).length) Str.empty=y:=⟨_,rfl⟩
 rw [hy] at w ⊢;have yin:y∈wi (nbR rs) (kOf g (rs.map (·.nm)) (g f)) x:=by rw [w];exact FC.mpr rfl
 have ynb:=(F6.mp yin).1;rw [q4] at ynb;obtain ⟨c,c1,c2⟩:=Fw.mp ynb;obtain ⟨y',rr⟩:=c;have c2:y'=y:=c2;subst c2;obtain ⟨o1,o2,o3⟩:=hR.ok r q1;exact ⟨r,rr,q3,Wf (hR.rw.cn r q1) c1,(o1 _ c1).2,(o1 _ c1).1,o2,o3,hR.rw.cl r q1,trivial⟩
structure Fin (rs:List Rw) (g:Str->Nat) (ss:List Str) (e:Option Str):Prop where
 sq:Sqs (nbR rs) g (rs.map (·.nm)) ss
 gd:∀ f∈ss,(bt rs (kOf g (rs.map (·.nm)) (g f))).good=true
 nn:e=none->∀ x∈rs.map (·.nm),g x∈ss.map g
 bd:∀ z,e=some z->pkI (nbR rs) g (rs.map (·.nm)) (ss.map g)=some z/\(bt rs (kOf g (rs.map (·.nm)) (g z))).good=false
theorem Po {g:Str->Nat}(G:Gq (nbR rs) (rs.map (·.nm)) g):∃ ss e,Fin rs g ss e:=by
 have key:∀ (n:Nat) (ss:List Str),((rs.map (·.nm)).filter (isF g (rs.map (·.nm)))).length-ss.length=n->Sqs (nbR rs) g (rs.map (·.nm)) ss->(∀ f∈ss,(bt rs (kOf g (rs.map (·.nm)) (g f))).good=true)->∃ ss e,Fin rs g ss e:=by
  intro n
  induction n using Nat.strongRecOn with
  | ind n ih=>
   intro ss hn sq gd;by_cases c:∀ x∈rs.map (·.nm),g x∈ss.map g
   ·exact ⟨ss,none,sq,gd,fun _=>c,fun z h=>nomatch h⟩
   ·have:∃ x∈rs.map (·.nm),g x ∉ ss.map g:=Er fun no=>c fun x hx=>Er fun h=>no ⟨x,hx,h⟩
    obtain ⟨x,hx,no⟩:=this;obtain ⟨z,hz⟩:=VA G hx no;have sq1:=sq.snoc hz;have l1:=sq1.le;rw [Fo,Fz] at l1;cases b:(bt rs (kOf g (rs.map (·.nm)) (g z))).good with
    | true=>
     refine ih (((rs.map (·.nm)).filter (isF g (rs.map (·.nm)))).length-(ss++[z]).length) (by rw [Fo,Fz];omega) (ss++[z]) rfl sq1 fun f hf=>?_
     rcases FK.mp hf with h | h
     ·exact gd f h
     ·rw [FC.mp h];exact b
    | false=>exact ⟨ss,some z,sq,gd,(fun h=>nomatch h),fun y h=>by cases h;exact ⟨hz,b⟩⟩
 exact key _ [] rfl (fun j x h=>by simp at h) (fun f h=>nomatch h)
theorem Fin.at {rs:List Rw}{g:Str->Nat}{ss:List Str}{e:Option Str}(h:Fin rs g ss e) {j:Nat}{z:Str}(hj:j<=ss.length) (hz:pkI (nbR rs) g (rs.map (·.nm)) ((ss.take j).map g)=some z):(ss[j]?=some z/\(bt rs (kOf g (rs.map (·.nm)) (g z))).good=true)∨(j=ss.length/\e=some z/\(bt rs (kOf g (rs.map (·.nm)) (g z))).good=false):=by
 rcases EZ j ss.length with c | c
 ·have hx:ss[j]?=some ss[j]:=Fj c;have:=h.sq j _ hx;rw [hz] at this;cases this;exact .inl ⟨hx,h.gd _ (Fu hx)⟩
 ·have ej:j=ss.length:=by omega
  subst ej;rw [FI] at hz;cases e with
  | none=>
   obtain ⟨z1,_,z2,_⟩:=YB hz;exact absurd (h.nn rfl z z1) z2
  | some y=>
   obtain ⟨b1,b2⟩:=h.bd y rfl;rw [hz] at b1;cases b1;exact .inr ⟨rfl,rfl,b2⟩
inductive φtitI (K:W.Frag) (C:Addr) (x y:V) (H:Hp) (Q:VK):Prop
 | mk (e l:Addr) (vs:List V) (h1:x=.ref e) (h2:H e=some (.ext (Xx e C none))) (h3:y=.ref l) (h4:H l=some (.lst vs))
   (h5:∀ q d,H q=none->H d=none->d≠q->d≠e->Q .non (upd (upd (upd H q (.lst vs)) e (.ext (Xx e C (some d)))) d (.ext (XD d [(Str.ofString "titles",.ref q)])))):φtitI K C x y H Q
inductive φwidI (K:W.Frag) (C:Addr) (x y z:V) (H:Hp) (Q:VK):Prop
 | mk (e l:Addr) (vs:List V) (h1:x=.ref e) (h2:H e=some (.ext (Xx e C none))) (h3:y=.ref l) (h4:H l=some (.lst vs))
   (h5:∀ q d,H q=none->H d=none->d≠q->d≠e->Q .non (upd (upd (upd (upd H q (.lst vs)) e (.ext (Xx e C (some d)))) d (.ext (XD d [(Str.ofString "titles",.ref q)]))) d (.ext (XD d [(Str.ofString "titles",.ref q),(Str.ofString "pull",z)])))):φwidI K C x y z H Q
theorem Uz {q:Addr}{o:HO}(h:(upd H q o) d=none):H d=none/\d≠q:=by
 have ne:d≠q:=fun e=>by rw [e,Qe] at h;cases h
 rw [Qj ne] at h;exact ⟨h,ne⟩
theorem Yt (T:Tx K mg t) (F:Fun K "__init__" "Tangled.__init__" Q9 f fd):FnOk P w K mg base CX0 1 f fd ["self","titles"] (Sp2 (φtitI K t.aD)):=by
 refine F.ok Ys Z3 (fun cdv A outer s H vs Q E hr h=>?_);obtain ⟨_,v,rfl,e,l,vs,rfl,he,rfl,hl,q⟩:=h;refine ⟨_,((Qg (KM K rfl (pu 0) (QK (Zk K rfl) (by rfl) T.aP Ei (Qa (pu 1) Qc))))),?_⟩;unfold UN;nofun;refine Xs hl fun q0 hq0=>?_
 refine ⟨e,_,rfl,by rw [Qj (QJ he hq0).symm];exact he,T.dB,T.dC,fun d hd ne=>?_⟩;obtain ⟨d1,d2⟩:=Uz hd;exact q q0 d hq0 d1 d2 ne
theorem Wa (T:Tx K mg t) (F:Fun K "__init__" "Jumps.__init__" Zs f fd):FnOk P w K mg base CX0 1 f fd ["self","titles"] (Sp2 (φtitI K t.aB)):=by
 refine F.ok YQ Z3 (fun cdv A outer s H vs Q E hr h=>?_);obtain ⟨_,v,rfl,e,l,vs,rfl,he,rfl,hl,q⟩:=h;refine ⟨_,((Qg (KM K rfl (pu 0) (QK (Zk K rfl) (by rfl) T.aP Ei (Qa (pu 1) Qc))))),?_⟩;unfold UN;nofun;refine Xs hl fun q0 hq0=>?_
 refine ⟨e,_,rfl,by rw [Qj (QJ he hq0).symm];exact he,T.dD,T.dE,fun d hd ne=>?_⟩;obtain ⟨d1,d2⟩:=Uz hd;exact q q0 d hq0 d1 d2 ne
theorem YC (T:Tx K mg t) (F:Fun K "__init__" "Widens.__init__" Zh f fd):FnOk P w K mg base CX0 1 f fd ["self","titles","pull"] (Sp3 (φwidI K t.aA)):=by
 refine F.ok Yy GA (fun cdv A outer s H vs Q E hr h=>?_);obtain ⟨_,v,w,rfl,e,l,vs,rfl,he,rfl,hl,q⟩:=h;refine ⟨_,((Qd (KM K rfl (pu 0) (QK (Zk K rfl) (by rfl) T.aP Ei (Qa (pu 1) Qc)))
   (Qg (N2 K rfl (pu 0) (pu 2))))),?_⟩
 unfold UN;nofun;refine Xs hl fun q0 hq0=>?_
 refine ⟨e,_,rfl,by rw [Qj (QJ he hq0).symm];exact he,T.bM,T.dF,fun d hd ne=>?_⟩;obtain ⟨d1,d2⟩:=Uz hd;unfold NL;nofun;exact ⟨e,_,d,_,rfl,by rw [Qj ne.symm];exact Qe,Qe,ne,by show 1<1000;decide,T.bM,T.dX,q q0 d hq0 d1 d2 ne⟩
def XB (K:W.Frag) (H H':Hp) (d:Addr) (ts:List Str) (z:Option Rat):Prop:=∃ l fs,H' d=some (.ext (XD d fs))/\fs.lookup (Str.ofString "titles")=some (.ref l)/\H l=none/\H' l=some (.lst (ts.map V.str))/\∀ q,z=some q->∃ v,fs.lookup (Str.ofString "pull")=some v/\Fq K H' q v
theorem Nq {ts:List Str}(hl:H l=some (.lst (ts.map V.str))) (q:∀ d H',Same H H'->XB K H H' d ts none->E (.ref C) (some d) H'):1<=sizeLine/\∀ x,H x=none->φtitI K C (.ref x) (.ref l) (upd H x (.ext (Xx x C none))) (fun v H2=>v=.non/\∃ od,H2 x=some (.ext (Xx x C od))/\E (.ref C) od (WJ H2 x)):=by
 refine ⟨by decide,fun x hx=>⟨x,l,ts.map V.str,rfl,Qe,rfl,by rw [Qj (QJ hl hx).symm];exact hl,fun q0 d hq0 hd dq de=>⟨rfl,some d,by rw [Qj de.symm];exact Qe,?_⟩⟩⟩;have q0x:q0≠x:=fun e=>by rw [e,Qe] at hq0;cases hq0
 rw [Qj q0x] at hq0;rw [Qj de] at hd;refine q d _ (fun c o h=>?_) ⟨q0,_,by rw [Xr de];exact Qe,rfl,hq0,?_,fun _ h=>nomatch h⟩
 ·rw [Xr (QJ h hx).symm,Qj (QJ h hd).symm,Qj (QJ h hx).symm,Qj (QJ h hq0).symm,Qj (QJ h hx).symm];exact h
 ·rw [Xr q0x,Qj dq.symm,Qj q0x];exact Qe
theorem Ra {ts:List Str}{r:Rat}(hl:H l=some (.lst (ts.map V.str))) (hz:Fq K H r z) (q:∀ d H',Same H H'->XB K H H' d ts (some r)->E (.ref C) (some d) H'):2<=sizeLine/\∀ x,H x=none->φwidI K C (.ref x) (.ref l) z (upd H x (.ext (Xx x C none))) (fun v H2=>v=.non/\∃ od,H2 x=some (.ext (Xx x C od))/\E (.ref C) od (WJ H2 x)):=by
 refine ⟨by decide,fun x hx=>⟨x,l,ts.map V.str,rfl,Qe,rfl,by rw [Qj (QJ hl hx).symm];exact hl,fun q0 d hq0 hd dq de=>⟨rfl,some d,by rw [Qj de.symm,Qj de.symm];exact Qe,?_⟩⟩⟩;have q0x:q0≠x:=fun e=>by rw [e,Qe] at hq0;cases hq0
 rw [Qj q0x] at hq0;rw [Qj de] at hd;have g:Same H (WJ (upd (upd (upd (upd (upd H x (.ext (Xx x C none))) q0 (.lst (ts.map V.str))) x (.ext (Xx x C (some d)))) d (.ext (XD d [(Str.ofString "titles",.ref q0)]))) d (.ext (XD d [(Str.ofString "titles",.ref q0),(Str.ofString "pull",z)]))) x):=fun c o h=>by
  rw [Xr (QJ h hx).symm,Qj (QJ h hd).symm,Qj (QJ h hd).symm,Qj (QJ h hx).symm,Qj (QJ h hq0).symm,Qj (QJ h hx).symm];exact h
 refine q d _ g ⟨q0,_,by rw [Xr de];exact Qe,rfl,hq0,?_,fun r' h=>⟨z,rfl,?_⟩⟩
 ·rw [Xr q0x,Qj dq.symm,Qj dq.symm,Qj q0x];exact Qe
 ·cases h;exact hz.same g
local macro_rules | `(tactic| walk_at "dg") => `(tactic| ((try simp only [Px, d_ni', Pz, Pw, Py, PB, Pu, T2]); walk_at "go"))
inductive φcw (K:W.Frag) (x y z:V) (H:Hp) (Q:VK):Prop
 | mk (d l:Addr) (s:Str) (kn ak:List Str) (nb:Str->List Str) (h1:x=.ref d) (h2:y=.str s) (h3:z=.ref l) (h4:Nb H d ak nb) (h5:s∈ak) (h6:(nb s).length<=60) (h7:SqL K H l (kn.map V.str))
   (h8:∀ p,H p=none->Q (.ref p) (upd H p (.lst (((nb s).filter fun y=>decide (y∈kn)).map V.str)))):φcw K x y z H Q
theorem Y8 (T:Tx K mg t) (F:Fun K "counted_within" "counted_within" Zq f fd):FnOk P w K mg base CX0 1 f fd ["leaning","title","knot"] (Sp3 (φcw K)):=by
 refine F.ok YO GA (fun cdv A outer s H vs Q E hr h=>?_);obtain ⟨_,_,_,rfl,d,l,s,kn,ak,nb,rfl,rfl,rfl,⟨kvs,hd,hv⟩,hs,hn,hl,q⟩:=h;obtain ⟨a,va,ka⟩:=hv s hs;refine ⟨_,((Qg (Qu (Zd (N:=["counted","knot"]) (caps:=[none,some 2]) rfl ZY (piK K rfl (Xp (Z2 hr) (pu 0) (pu 1) (fun _ _=>rfl))) (fun _ _ _ _=>Qp (i:=0) (show (["counted","knot"]:List Str).Nodup by decide +kernel) rfl (Or.inl rfl) (.inr rfl)) (fun _ _ _ _=>XR (Qt (inK K rfl) (pu 0) (pu 1) (by with_unfolding_all rfl))) (fun _ _ _ _=>(pu 0)))))),?_⟩;nofun;simp only [QS];walk_at"dg";refine ⟨d,.ref a,rfl,by have:=DGet.k (k:=Sum.inr s) hd;rw [va] at this;exact this,a,rfl,⟨_,SqL.of ka⟩,ZS (xs:=(nb s).map V.str) (fun i acc σ' H'=>∃ x0:Option V,σ'=[x0,some (.ref l)]/\H'=H/\acc=(((nb s).take i).filter fun y=>decide (y∈kn)).map V.str) ⟨none,rfl,rfl,rfl⟩ (fun i acc σ' H' _ h=>by obtain ⟨_,_,rfl,_⟩:=h;exact SqL.of ka) (by rw [Fi];omega) ?_ ?_⟩
 ·rintro i v acc _ H2 hv hacc ⟨x0,rfl,e2,rfl⟩;rw [e2];rw [Fv] at hv;obtain ⟨y,hy,rfl⟩:=FW.mp hv;have hi:i<((nb s).map V.str).length:=by rw [Fi];exact Qx hy
  have st:((nb s).take (i+1)).filter (fun y=>decide (y∈kn))=((nb s).take i).filter (fun y=>decide (y∈kn))++[y].filter (fun y=>decide (y∈kn)):=by rw [FH,hy,Et];rfl
  nofun;refine Nv hl ?_;nofun;by_cases hm:y∈kn
  ·rw [Fk (by simp [hm])];nofun;refine CN.mk hi (by rw [Fo,Fz];omega) ⟨_,rfl,rfl,?_⟩;rw [st];simp [hm]
  ·rw [Fh (by simp [hm])];refine CN.mk hi (by omega) ⟨_,rfl,rfl,?_⟩;rw [st];simp [hm]
 ·rintro acc _ H2 ⟨x0,rfl,e2,rfl⟩ p hp;rw [e2] at hp ⊢;rw [Fi,FI];exact q p hp
inductive φfr (K:W.Frag) (x y z:V) (H:Hp) (Q:VK):Prop
 | mk (lk d lp:Addr) (ts pl ak:List Str) (nb:Str->List Str) (h1:x=.ref lk) (h2:y=.ref d) (h3:z=.ref lp) (h4:H lk=some (.lst (ts.map V.str))) (h5:Nb H d ak nb) (h6:H lp=some (.lst (pl.map V.str))) (h7:∀ s∈ts,s∈ak) (h8:∀ s∈ak,(nb s).length<=60) (h9:ts.length<=60) (h10:pl.length<=60)
   (h11:∀ H',Same H H'->Q (.bl (ts.all fun s=>(nb s).all fun y=>decide (y∈ts++pl))) H'):φfr K x y z H Q
theorem Bk {l:List Str}:decide (l.filter (fun y=>decide (y∈kn))=l)=l.all fun y=>decide (y∈kn):=by
 rw [F7,F9,List.filter_eq_self,Eo]
theorem txs_eq {l m:List Str}:l=m↔(D.lst (l.map D.str)=.lst (m.map D.str)):=⟨fun e=>by rw [e],fun e=>by
 injection e with e
 exact List.map_inj_right (fun a b h=>by injection h) |>.mp e⟩
theorem Ul (T:Tx K mg t) (F:Fun K "is_free" "is_free" Ym f fd) (bF:Cal P w K mg base 1 "counted_within" ["leaning","title","knot"] (Sp3M (φcw K))):FnOk P w K mg base CX0 2 f fd ["knot","leaning","placed"] (Sp3 (φfr K)):=by
 refine F.ok sc_is_free GA (fun cdv A outer s H vs Q E hr h=>?_);obtain ⟨_,_,_,rfl,lk,d,lp,ts,pl,ak,nb,rfl,rfl,rfl,hk,hN,hp,hts,hnl,tl,pll,q⟩:=h;refine ⟨_,((Qd (Qk (i:=3) sc_is_free.nd rfl (Or.inr rfl) (Qf Qq (pu 0) (pu 2)))
   (Qg (Qu (Qm (WM K rfl rfl) (by rfl) T.cR boot_all (Qa (Zd (N:=["title","leaning","reckoned"]) (caps:=[none,some 1,some 3]) rfl ZY (piK K rfl (pu 0)) (fun _ _ _ _=>Qp (i:=0) (show (["title","leaning","reckoned"]:List Str).Nodup by decide +kernel) rfl (Or.inl rfl) (.inr rfl)) (fun _ _ _ _=>QT) (fun _ _ _ _=>(Zw (eqM K rfl hr.units) (Qs bF (hrm hr) rfl (Qa (pu 1) (Qa (pu 0) (Qa (pu 2) Qc)))) (Xp (Z2 hr) (pu 1) (pu 0) (fun _ _=>rfl)) (Qw _)))) Qc)))))),?_⟩
 nofun;refine UF ⟨lk,lp,_,_,rfl,rfl,hk,hp,Kx (by rw [Fi,Fi];omega),fun lr hlr=>?_⟩;rw [<-Fx];generalize e_g1:upd H lr _=H1 at *;obtain ⟨g1,k1⟩:=nwH hlr e_g1;nofun;simp only [QS];nofun;refine ⟨lk,rfl,⟨_,SqL.of (g1 _ _ hk)⟩,ZS (xs:=ts.map V.str) (fun i acc σ' H'=>∃ x0:Option V,σ'=[x0,some (.ref d),some (.ref lr)]/\Same H1 H'/\acc=(ts.take i).map fun s=>V.bl ((nb s).all fun y=>decide (y∈ts++pl))) ⟨none,rfl,Same.refl _,rfl⟩ (fun i acc σ' H' _ h=>by obtain ⟨_,_,g,_⟩:=h;exact SqL.of (g _ _ (g1 _ _ hk))) (by rw [Fi];omega) ?_ ?_⟩
 ·rintro i v acc _ H2 hv hacc ⟨x0,rfl,g2,rfl⟩;rw [Fv] at hv;obtain ⟨s,hs,rfl⟩:=FW.mp hv;have hi:i<(ts.map V.str).length:=by rw [Fi];exact Qx hs
  have sn:=hts s (Fu hs);have g02:=g1.trans g2;obtain ⟨kvs,hd,hv⟩:=hN;obtain ⟨a,va,ka⟩:=hv s sn;simp only [ZR];walk_at"dg";refine ⟨d,lr,s,ts++pl,ak,nb,rfl,rfl,rfl,Nb.same ⟨kvs,hd,hv⟩ g02,sn,hnl s sn,SqL.of (g2 _ _ k1),fun p hp2=>?_⟩;have g3:=Qi hp2 (.lst (((nb s).filter fun y=>decide (y∈ts++pl)).map V.str));refine ⟨d,.ref a,rfl,by have:=DGet.k (k:=Sum.inr s) (g3 _ _ (g02 _ _ hd));rw [va] at this;exact this,?_⟩;refine Kb (b:=(nb s).all fun y=>decide (y∈ts++pl)) (ZW (SqL.of Qe)) (ZW (SqL.of (g3 _ _ (g02 _ _ ka)))) Vd (by rw [<-Bk,EL,txs_eq]) ?_;refine CN.mk hi (by rw [Fo,Fz];omega) ⟨_,rfl,g2.trans g3,?_⟩;rw [FH,hs,Fx];rfl
 ·rintro acc _ H2 ⟨x0,rfl,g2,rfl⟩ p hp2;rw [Fi,FI];refine ⟨p,ts.map fun s=>(nb s).all fun y=>decide (y∈ts++pl),rfl,SqL.of (by rw [Qe,Eg];rfl),?_⟩;have e:(ts.map fun s=>(nb s).all fun y=>decide (y∈ts++pl)).all id=ts.all fun s=>(nb s).all fun y=>decide (y∈ts++pl):=by rw [List.all_map];rfl
  rw [e];exact q _ ((g1.trans g2).trans (Qi hp2 _))
def BB (H:Hp) (ak:List Str) (nb:Str->List Str) (kvs:List (Key×V)):Prop:=kvs.length=ak.length/\∀ (i:Nat) s,ak[i]?=some s->∃ l,∃ ss:List Str,kvs[i]?=some (Sum.inr s,.ref l)/\H l=some (.lst (ss.map V.str))/\∀ x,x∈ss↔Rc nb (nb s) x
theorem UW {rk:Str->List Str}(h:BB H ak rk kvs):kvs.map (·.1)=ak.map Sum.inr:=by
 obtain ⟨kl,ko⟩:=h;apply Eu;intro n;rw [Fv,Fv];cases e:ak[n]? with
 | some r'=>obtain ⟨l',ss,h',_⟩:=ko n r' e;rw [h'];rfl
 | none=>
  have:kvs[n]?=none:=by rw [Dx] at e ⊢;omega
  rw [this];rfl
theorem L6 {H4:Hp}{rk:Str->List Str}{s:Str}(lo:BB H2 (ak.take i) rk kvs) (k2:H2 d=some (.dK kvs)) (hs:ak[i]?=some s) (hl:H2 l=none) (g3:Same H2 H4) (k3:H4 l=some (.lst (ss.map V.str))) (hr:∀ x,x∈ss↔Rc rk (rk s) x) :
  BB (upd H4 d (.dK (kvs++[(Sum.inr s,.ref l)]))) (ak.take (i+1)) rk (kvs++[(Sum.inr s,.ref l)]):=by
 obtain ⟨kl,ko⟩:=lo;have ld:l≠d:=fun e=>by rw [e,k2] at hl;cases hl
 refine ⟨?_,?_⟩
 ·rw [Fo,kl,FH,hs,Fo];rfl
 ·intro n r' hn;rw [FH,hs] at hn;rcases X2 hn with ⟨h1,hlt⟩ | ⟨h1,e⟩
  ·obtain ⟨l',ss',h',h'',h3⟩:=ko n r' h1;refine ⟨l',ss',by rw [Eh (by have:=Qx h1;omega)];exact h',?_,h3⟩;have:l'≠d:=fun e=>by rw [e,k2] at h'';cases h''
   rw [Qj this];exact g3 _ _ h''
  ·subst e;exact ⟨l,ss,by rw [h1,<-kl,Ee (Fl _),EN];rfl,by rw [Qj ld];exact k3,hr⟩
inductive φkn (K:W.Frag) (t:Adr) (x:V) (H:Hp) (Q:VK):Prop
 | mk (p:Addr) (rs:List Rw) (gg:Str->Nat) (h1:x=.ref p) (h2:Of K t H rs p) (h3:Rows rs) (h4:Gq (nbR rs) (rs.map (·.nm)) gg)
   (h5:∀ l vs H',H l=none->Same H H'->H' l=some (.lst vs)->All2 (fun (s:Str) v=>∃ q,v=V.ref q/\H q=none/\H' q=some (.lst ((kOf gg (rs.map (·.nm)) (gg s)).map V.str))) ((rs.map (·.nm)).filter (isF gg (rs.map (·.nm)))) vs->Q (.ref l) H'):φkn K t x H Q
inductive φokind (K:W.Frag) (t:Adr) (x y:V) (H:Hp) (Q:VK):Prop
 | mk (p:Addr) (rs:List Rw) (s:Str) (r:Rw) (h1:x=.ref p) (h2:Of K t H rs p) (h3:y=.str s) (h4:(rs.find? fun r=>decide (r.nm=s))=some r) (h5:∀ v,Kn K t.aE H r v->Q v H):φokind K t x y H Q
theorem Jv (T:Tx K mg t) (F:Fun K "kind" "Office.kind" ZV f fd):FnOk P w K mg base CX0 1 f fd ["self","title"] (Sp2 (φokind K t)):=by
 refine F.ok sc_Office_kind Z3 (fun cdv A outer s H vs Q E hr h=>?_);obtain ⟨_,_,rfl,p,rs,s,r,rfl,⟨dx,fs,lk,vs,hp,hf,hk,hA,_⟩,rfl,hfr,q⟩:=h;have hvl:=hA.1;refine ⟨_,((Qd (Za FX rfl (piK K rfl (Zv K rfl (pu 0))) (Qp (i:=2) sc_Office_kind.nd rfl (Or.inl rfl))
   (Qg (QM (Qt (eqM K rfl hr.units) (Zv K rfl (pu 2)) (pu 1) (Qw _)) (Qg (Qu (pu 2))) Qy)))
   (Qg Js))),?_⟩
 nofun;refine Jk hp T.bD T.cD hf ⟨lk,rfl,⟨_,SqL.of hk⟩,?_⟩;refine JE (xs:=vs) (fun i σ' H'=>∃ x2:Option V,σ'=[some (.ref p),some (.str s),x2]/\H'=H/\∀ r∈rs.take i,r.nm≠s) ⟨none,rfl,rfl,fun r h=>by simp at h⟩ (fun i σ' H' _ h=>by obtain ⟨_,_,rfl,_⟩:=h;exact SqL.of hk) ?_ ?_
 ·rintro i v _ H2 hv ⟨x2,rfl,e2,no⟩;rw [e2];obtain ⟨r',hr',hKn⟩:=hA.getV hv;obtain ⟨kp,kdx,kfs,lc,lo,rfl,h1,h2,_⟩:=id hKn;nofun;refine Jk h1 T.aL T.cA h2 ?_;nofun;refine QH (fun c=>?_) (fun c=>?_)
  ·nofun;refine q _ ?_;have e:r=r':=by
    have hi:=Qx hr';have es:rs=rs.take i++r' :: rs.drop (i+1):=by
     have:=Fy ((Fj hi).symm.trans hr');rw [<-this,<-List.drop_eq_getElem_cons hi,Es]
    rw [es,List.find?_append,Dy.mpr (fun x hx=>by simpa using no x hx),List.find?_cons_of_pos (by simpa using c)] at hfr;exact (Fy hfr).symm
   rw [e];exact hKn
  ·refine ⟨_,rfl,(by first | rfl | trivial),fun r hr=>?_⟩;rw [FH,hr'] at hr;rcases FK.mp hr with h | h
   ·exact no r h
   ·rw [show r=r' by simpa using h];exact c
 ·rintro _ H2 ⟨x2,rfl,e2,no⟩;rw [<-hvl,FI] at no;exact absurd (by simpa using Du hfr) (no r (Dt hfr))
theorem Mh (T:Tx K mg t) (F:Fun K "knots" "knots" Jb f fd) (eS:UD P w K mg base 1 t.aM "named" ["self"] (Sp1M (φnamed K t))) (eT:Cal P w K mg base 2 "leads_to" ["office","title"] (Sp2M (φlead K t))):FnOk P w K mg base CX0 3 f fd ["office"] (Sp1 (φkn K t)):=by
 refine F.ok sc_knots Wp (fun cdv A outer s H vs Q E hr h=>?_);obtain ⟨_,rfl,p,rs,gg,rfl,hO,hRs,G,q⟩:=h;have hle:=hRs.le;refine ⟨_,((Qd (Qk (i:=1) sc_knots.nd rfl (Or.inr rfl) X4)
   (Qd (Za FX rfl (piK K rfl (UR eS (hrm hr) T.bD (pu 0))) (Qp (i:=2) sc_knots.nd rfl (Or.inr rfl))
   (Qg (Yo (Z2 hr) (pu 1) (pu 2) (Qs eT (hrm hr) rfl (Qa (pu 0) (Qa (pu 2) Qc))) rfl)))
   (Qd (Qk (i:=3) sc_knots.nd rfl (Or.inl rfl) (QB Qc))
   (Qd (Za FX rfl (LM (pu 1)) (Qp (i:=2) sc_knots.nd rfl (Or.inr rfl))
   (Qd (Y4 (i:=4) sc_knots.nd rfl (Or.inl rfl) (N:=["other","title","leads"]) (caps:=[none,some 2,some 1]) rfl ZY (N4 (pu 1)) (fun _ _ _ _=>Qp (i:=0) (show (["other","title","leads"]:List Str).Nodup by decide +kernel) rfl (Or.inl rfl) (.inr rfl)) (fun _ _ _ _=>XR (PW.pt (Y1 (Qt (eqM K rfl hr.units) (pu 0) (pu 1) (Qw _)) (Wx (PW.pt (ZM (Qt (inK K rfl) (pu 0) (Xp (Z2 hr) (pu 2) (pu 1) (fun _ _=>rfl)) (by with_unfolding_all rfl)) (ZL (Qt (inK K rfl) (pu 1) (Xp (Z2 hr) (pu 2) (pu 0) (fun _ _=>rfl)) (by with_unfolding_all rfl))))))))) (fun _ _ _ _=>(pu 0)))
   (Qg (QM (Qt (eqM K rfl hr.units) (Qr (ixK K rfl) (pu 4) Qb (fun _ _=>rfl)) (pu 2) (Qw _)) (Qg (Zu (ZO K rfl Ej EA EB Zg (pu 3) (Qa (pu 4) Qc)))) Qy))))
   (Qg (Qu (pu 3)))))))),?_⟩
 generalize hR:ZX (Xe _ (Ze 3)) _=R;nofun;walk_at"dg";intro d hd;generalize e_g1:upd H d _=H1 at *;obtain ⟨g1,k1⟩:=nwH hd e_g1;obtain ⟨dx,fs,lk,vs0,hp,hf,hk,hA,hnn⟩:=id hO;refine Lh (g1 _ _ hp) hnn.1 ?_;nofun;refine ⟨p,rs,rfl,hO.same g1,by omega,fun l0 H2 g2 hl0 k2=>⟨l0,rfl,⟨_,SqL.of k2⟩,?_⟩⟩;have nd:=hRs.nd;obtain ⟨ak,hns⟩:∃ ak,rs.map (·.nm)=ak:=⟨_,rfl⟩
 rw [hns] at k2 nd q G;have nl:ak.length<=8:=by rw [<-hns,Fi];exact hle
 have l0d:l0≠d:=QJ k1 hl0;refine JE (xs:=ak.map V.str) (fun i σ' H'=>∃ (kvs:List (Key×V)) (x2:Option V),σ'=[some (.ref p),some (.ref d),x2,none,none]/\Same H H'/\H' l0=some (.lst (ak.map V.str))/\H' d=some (.dK kvs)/\BB H' (ak.take i) (nbR rs) kvs) ⟨[],none,rfl,g1.trans g2,k2,g2 _ _ k1,⟨rfl,fun i s h=>by simp at h⟩⟩ (fun i σ' H' _ h=>by obtain ⟨_,_,_,_,h,_⟩:=h;exact SqL.of h) ?_ ?_
 ·rintro i v _ H3 hv ⟨kvs,x2,rfl,g3,l3,d3,lo⟩;rw [Fv] at hv;obtain ⟨s,hs,rfl⟩:=FW.mp hv;have sn:s∈rs.map (·.nm):=by rw [hns];exact Fu hs
  have nin:s ∉ ak.take i:=by
   have:=Je (f:=id) (l:=ak) (by rw [E4];exact nd) hs;rwa [E4] at this
  have kl:=lo.1;rw [FN] at kl;nofun;walk_at"dg";refine ⟨p,rs,s,rfl,hO.same g3,hRs,rfl,sn,fun l ss H4 hl g4 k4 _ _ mem=>?_⟩;refine ⟨d,_,rfl,DPut.k (k:=Sum.inr s) (g4 _ _ d3) (by unfold sizeLine;omega),?_⟩;rw [Y2 _ (Yg (UW lo) nin)];exact ⟨_,_,rfl,QI (g3.trans g4) hd,by rw [Qj l0d];exact g4 _ _ l3,Qe,L6 lo d3 hs hl g4 k4 mem⟩
 ·rintro _ H3 ⟨kvs,x2,rfl,g3,l3,d3,lo⟩;rw [Fi,FI] at lo;have keys:=UW lo;have look:∀ s∈ak,∃ l,∃ ss:List Str,Q8 kvs (Sum.inr s:Key)=some (.ref l)/\H3 l=some (.lst (ss.map V.str))/\∀ x,x∈ss↔Rc (nbR rs) (nbR rs s) x:=fun s hs=>by
   obtain ⟨i,hi⟩:=F4 hs;obtain ⟨l,ss,h1,h2,h3⟩:=lo.2 i s hi;exact ⟨l,ss,Ky keys nd h1,h2,h3⟩
  have kat:∀ (i:Nat) kv,kvs[i]?=some kv->∃ s,ak[i]?=some s/\kv.1=Sum.inr s:=fun i kv h=>by
   have:=congrArg (fun l:List Key=>l[i]?) keys;simp only [Fv,h,EH] at this;obtain ⟨s,hs,e⟩:=FW.mp this.symm;exact ⟨s,hs,e.symm⟩
  have kvl:kvs.length=ak.length:=lo.1;show R _ _ _;subst hR;nofun;refine ⟨by decide,fun pf hpf=>?_⟩;generalize e_n4:upd H3 pf _=H4 at *;obtain ⟨n4,k4⟩:=nwH hpf e_n4;have pfd:pf≠d:=QJ d3 hpf;have pf0:H pf=none:=g3.free hpf;walk_at"dg";refine ⟨d,kvs,rfl,n4 _ _ d3,fun o=>?_⟩;have fz:(upd H4 d (.frz o (.dK kvs))) d=some (.frz o (.dK kvs)):=Qe;have g5:Same H (upd H4 d (.frz o (.dK kvs))):=QI (g3.trans n4) hd;have k5:(upd H4 d (.frz o (.dK kvs))) pf=some (.lst []):=by rw [Qj pfd];exact k4
  have look5:∀ s∈ak,∃ l,∃ ss:List Str,Q8 kvs (Sum.inr s:Key)=some (.ref l)/\l≠pf/\(upd H4 d (.frz o (.dK kvs))) l=some (.lst (ss.map V.str))/\∀ x,x∈ss↔Rc (nbR rs) (nbR rs s) x:=fun s hs=>by
   obtain ⟨l,ss,h1,h2,h3⟩:=look s hs;have ld:l≠d:=fun e=>by rw [e,d3] at h2;cases h2
   exact ⟨l,ss,h1,(QJ h2 hpf).symm,by rw [Qj ld];exact n4 _ _ h2,h3⟩
  generalize upd H4 d (.frz o (.dK kvs))=H5 at *;refine HQ (fun i σ' H'=>∃ (ws:List V) (x2 x4:Option V),σ'=[some (.ref p),some (.ref d),x2,some (.ref pf),x4]/\Same H H'/\Same (del H5 pf) (del H' pf)/\H' pf=some (.lst ws)/\All2 (fun (s:Str) v=>∃ q,v=V.ref q/\H q=none/\q≠pf/\H' q=some (.lst ((kOf gg ak (gg s)).map V.str))) ((ak.take i).filter (isF gg ak)) ws/\ws.length<=i) ⟨[],x2,none,rfl,g5,Same.refl _,k5,All2.nil,Fl _⟩ (fun i σ' H' _ h=>by obtain ⟨_,_,_,_,_,g,_⟩:=h;exact del_sub _ _ (g _ _ (Yc pfd.symm fz))) ?_ ?_
  ·rintro i kv _ H6 hkv ⟨ws,y2,y4,rfl,g6,o6,f6,hW,wl⟩;obtain ⟨s,hs,ek⟩:=kat i kv hkv;have fz6:H6 d=some (.frz o (.dK kvs)):=del_sub _ _ (o6 _ _ (Yc pfd.symm fz));have hi:=Qx hkv;rw [ek];show Ze 2 (V.str s) _ _ _;nofun;simp only [QS];walk_at"dg";refine ⟨d,o,kvs,rfl,fz6,S9 (fun j acc σ' H'=>∃ x0:Option V,σ'=[x0,some (.str s),some (.ref d)]/\H'=H6/\acc=((ak.take j).filter fun y=>decide (gg y=gg s)).map V.str) ⟨none,rfl,rfl,rfl⟩ (fun j acc σ' H' _ h=>by obtain ⟨_,_,e,_⟩:=h;rw [e];exact fz6) (by omega) ?_ ?_⟩
   ·rintro j kv' acc _ H7 hkv' hacc ⟨x0,rfl,e7,rfl⟩;rw [e7];obtain ⟨y,hy,ek'⟩:=kat j kv' hkv';rw [ek'];show Ze 0 (V.str y) _ _ _;nofun;have hj:=Qx hkv';have st:(ak.take (j+1)).filter (fun y=>decide (gg y=gg s))=(ak.take j).filter (fun y=>decide (gg y=gg s))++[y].filter (fun y=>decide (gg y=gg s)):=by rw [FH,hy,Et];rfl
    have sn:=Fu hs;have yn:=Fu hy;have yes:gg y=gg s->CN (fun j acc σ' H'=>∃ x0:Option V,σ'=[x0,some (.str s),some (.ref d)]/\H'=H6/\acc=((ak.take j).filter fun y=>decide (gg y=gg s)).map V.str) kvs.length j (((ak.take j).filter fun y=>decide (gg y=gg s)).map V.str++[V.str y]) [some (.str y),some (.str s),some (.ref d)] H6:=fun c=>by
     refine CN.mk hj (by rw [Fo,Fz];omega) ⟨_,rfl,rfl,?_⟩;rw [st];simp [c]
    have no:¬ gg y=gg s->CN (fun j acc σ' H'=>∃ x0:Option V,σ'=[x0,some (.str s),some (.ref d)]/\H'=H6/\acc=((ak.take j).filter fun y=>decide (gg y=gg s)).map V.str) kvs.length j (((ak.take j).filter fun y=>decide (gg y=gg s)).map V.str) [some (.str y),some (.str s),some (.ref d)] H6:=fun c=>by
     refine CN.mk hj (by omega) ⟨_,rfl,rfl,?_⟩;rw [st];simp [c]
    refine QH (fun c=>yes (by rw [c])) (fun c=>?_);have mu:=G.mu sn yn (fun e=>c e.symm);obtain ⟨l,ss,v1,v2,v3,v4⟩:=look5 s sn;obtain ⟨l',ss',w1,w2,w3,w4⟩:=look5 y yn;walk_at"dg";refine ⟨d,.ref l,rfl,by have:=DGet.r (k:=Sum.inr s) (.inr ⟨o,fz6⟩);rw [v1] at this;exact this,?_⟩;refine Nv (SqL.of (del_sub _ _ (o6 _ _ (Yc v2 v3)))) ?_;nofun;refine QH (fun c1=>?_) (fun c1=>no fun e=>c1 ((v4 y).mpr (mu.mpr e.symm).1));walk_at"dg";refine ⟨d,.ref l',rfl,by have:=DGet.r (k:=Sum.inr y) (.inr ⟨o,fz6⟩);rw [w1] at this;exact this,?_⟩;refine Nv (SqL.of (del_sub _ _ (o6 _ _ (Yc w2 w3)))) ?_;nofun;exact QH (fun c2=>yes (mu.mp ⟨(v4 y).mp c1,(w4 s).mp c2⟩).symm) (fun c2=>no fun e=>c2 ((w4 s).mpr (mu.mpr e.symm).2))
   ·rintro acc _ H7 ⟨x0,rfl,e7,rfl⟩ pk hpk;rw [e7] at hpk ⊢;rw [kvl,FI];have sn:=Fu hs;obtain ⟨f,fn,f2,f3,_⟩:=Ut (g:=gg) sn;obtain ⟨r,hkf⟩:=Wb f2;rw [f3] at hkf;have hko:ak.filter (fun y=>decide (gg y=gg s))=kOf gg ak (gg s):=rfl;rw [hko] at *;generalize e_np:upd H6 pk _=H7 at *;obtain ⟨np,k7⟩:=nwH hpk e_np;have pkf:pk≠pf:=QJ f6 hpk;have f7:=np _ _ f6;refine Q7 (SqL.of k7) (v:=.str f) (QL (j:=0) (by rw [hkf];rfl)) ?_;nofun;have tk:(ak.take (i+1)).filter (isF gg ak)=(ak.take i).filter (isF gg ak)++[s].filter (isF gg ak):=by rw [FH,hs,Et];rfl
    refine QH (fun c=>?_) (fun c=>?_)
    ·refine ⟨.inl ⟨rfl,_,SqL.of f7⟩,Zy f7 (QN (by omega)) ?_⟩;refine ⟨ws++[.ref pk],_,_,rfl,QI (g6.trans np) pf0,?_,Qe,?_,by rw [Fo,Fz];omega⟩
     ·rw [Vc];exact o6.trans (Yb np)
     ·rw [tk,ED (by rw [<-c];exact f2)];exact (hW.imp fun _ _ ⟨a,e,h1,h2,h3⟩=>⟨a,e,h1,h2,by rw [Qj h2];exact np _ _ h3⟩).snoc ⟨pk,rfl,g6.free hpk,pkf,by rw [Qj pkf];exact k7⟩
    ·refine ⟨ws,_,_,rfl,g6.trans np,o6.trans (Yb np),f7,?_,by omega⟩;rw [tk,ET (fun e=>c (Ms f2 e f3)),Dd,Ed];exact hW.imp fun _ _ ⟨a,e,h1,h2,h3⟩=>⟨a,e,h1,h2,np _ _ h3⟩
  ·rintro _ H6 ⟨ws,y2,y4,rfl,g6,o6,f6,hW,wl⟩;rw [kvl,FI] at hW;nofun;exact q pf ws H6 pf0 g6 f6 (hW.imp fun _ _ ⟨a,e,h1,_,h2⟩=>⟨a,e,h1,h2⟩)
local macro_rules | `(tactic| walk_at "dg") => `(tactic| ((try simp only [Px, d_ni', Pz, Pw, Py, PB, Pu]); walk_at "go"))
inductive φring (K:W.Frag) (x y z:V) (H:Hp) (Q:VK):Prop
 | mk (d l:Addr) (kn ak aj:List Str) (nb:Str->List Str) (a:Nat) (f:Str) (h1:x=.str f) (h2:y=.ref d) (h3:z=.ref l) (h4:Nb H d ak nb) (h5:∀ s∈aj,s∈ak/\(nb s).length<=60) (h6:SqL K H l (kn.map V.str)) (h7:aj.Nodup) (h8:aj.length<=8) (h9:aj[a]?=some f) (h10:∀ (j:Nat) s,aj[j]?=some s->(nb s).filter (fun y=>decide (y∈kn))=[aj.getD ((j+1) % aj.length) Str.empty])
   (h11:∀ q H',H q=none->Same H H'->H' q=some (.lst ((rt aj a).map V.str))->Q (.ref q) H'):φring K x y z H Q
def RiW (H:Hp) (d l pt:Addr) (f:Str) (aj:List Str) (a:Nat) (n:Nat) (σ':L2.St) (H':Hp):Prop:=∃ k,σ'=[some (.str f),some (.ref d),some (.ref l),some (.ref pt),some (.str (aj.getD ((a+k) % aj.length) Str.empty))]/\Same H H'/\H' pt=some (.lst (((rt aj a).take k).map V.str))/\k+n=aj.length
theorem KU (T:Tx K mg t) (F:Fun K "ring_from" "ring_from" Xl f fd) (bF:Cal P w K mg base 1 "counted_within" ["leaning","title","knot"] (Sp3M (φcw K))):FnOk P w K mg base CX0 2 f fd ["first","leaning","knot"] (Sp3 (φring K)):=by
 refine F.ok sc_ring_from GA (fun cdv A outer s H vs Q E hr h=>?_);obtain ⟨_,_,_,rfl,d,l,kn,ak,aj,nb,a,f,rfl,rfl,rfl,hN,hp,hl,pnd,pl8,ha,hfil,q⟩:=h;have al:=Qx ha;have pne:aj≠[]:=fun e=>by rw [e] at al;exact absurd al (by simp)
 refine ⟨_,((Qd (Qk (i:=3) sc_ring_from.nd rfl (Or.inl rfl) (QB Qc))
   (Qd (Qk (i:=4) sc_ring_from.nd rfl (Or.inl rfl) (pu 0))
   (Qd (XA FX (Qt (R6 K rfl) (pu 4) (pu 3) (by with_unfolding_all rfl)) (Qd (Zu (ZO K rfl Ej EA EB Zg (pu 3) (Qa (pu 4) Qc)))
   (Qg (Qk (i:=4) sc_ring_from.nd rfl (Or.inl rfl) (Qr (ixK K rfl) (Qs bF (hrm hr) rfl (Qa (pu 1) (Qa (pu 4) (Qa (pu 2) Qc)))) Qb (fun _ _=>rfl))))))
   (Qg (Qu (pu 3))))))),?_⟩
 nofun;refine ⟨by decide,fun pt hpt=>?_⟩;generalize e_g1:upd H pt _=H1 at *;obtain ⟨g1,k1⟩:=nwH hpt e_g1;have rnd:(rt aj a).Nodup:=(NO al).nodup_iff.mpr pnd;have e0:aj.getD ((a+0) % aj.length) Str.empty=f:=by rw [Nat.add_zero,EV al];exact ZP ha
 refine ⟨RiW H d l pt f aj a,⟨aj.length,0,by rw [e0],g1,k1,by omega⟩,?_⟩;rintro n _ H2 ⟨k,rfl,g2,k2,hk⟩;generalize hR:ZX (Kf _) _=R;nofun;refine Nr (SqL.of k2) ?_;nofun;by_cases c:k<aj.length
 ·have hk':=Jq (a:=a) c;have nin:aj.getD ((a+k) % aj.length) Str.empty ∉ (rt aj a).take k:=by
   have:=Je (f:=id) (l:=rt aj a) (by rw [E4];exact rnd) hk';rwa [E4] at this
  rw [Fk nin];refine ⟨_,fun _ _ z=>z,?_⟩;subst hR;nofun;have tl:((rt aj a).take k).length<=8:=by rw [FN,XQ];omega
  refine ⟨.inl ⟨rfl,_,SqL.of k2⟩,Zy k2 (QN (by rw [Fi];omega)) ?_⟩;have tk:((rt aj a).take k).map V.str++[.str (aj.getD ((a+k) % aj.length) Str.empty)]=((rt aj a).take (k+1)).map V.str:=by rw [FH,hk',Fx];rfl
  rw [tk];have g3:Same H (upd H2 pt (.lst (((rt aj a).take (k+1)).map V.str))):=QI g2 hpt;have k3:(upd H2 pt (.lst (((rt aj a).take (k+1)).map V.str))) pt=some (.lst (((rt aj a).take (k+1)).map V.str)):=Qe;generalize upd H2 pt (.lst (((rt aj a).take (k+1)).map V.str))=H3 at *;have hj:=U2 (d:=Str.empty) (a+k) pne;obtain ⟨s1,s2⟩:=hp _ (Fu hj);refine ⟨d,l,_,kn,ak,nb,rfl,rfl,rfl,hN.same g3,s1,s2,g3.seq hl,fun p4 hp4=>?_⟩;rw [hfil _ _ hj,Nat.mod_add_mod];have g4:=Qi hp4 (.lst (([aj.getD ((a+k+1) % aj.length) Str.empty]).map V.str));refine Q7 (SqL.of Qe) (v:=.str (aj.getD ((a+k+1) % aj.length) Str.empty)) rfl ?_;refine ⟨n-1,by omega,k+1,rfl,g3.trans g4,g4 _ _ k3,by omega⟩
 ·have ek:k=aj.length:=by omega
  subst ek;have yin:aj.getD ((a+aj.length) % aj.length) Str.empty∈(rt aj a).take aj.length:=by
   rw [show (rt aj a).take aj.length=rt aj a by rw [<-XQ (a:=a)];exact FI];rw [Nat.add_mod_right,EV al,ZP ha];exact (NO al).mem_iff.mpr (Fu ha)
  rw [Fh (fun h=>h yin)];nofun;rw [show (rt aj a).take aj.length=rt aj a by rw [<-XQ (a:=a)];exact FI] at k2;exact q pt H2 hpt g2 k2
inductive φpull (K:W.Frag) (t:Adr) (x y:V) (H:Hp) (Q:VK):Prop
 | mk (p l:Addr) (rs:List Rw) (ts:List Str) (h1:x=.ref p) (h2:y=.ref l) (h3:Of K t H rs p) (h4:SqL K H l (ts.map V.str)) (h5:Rg rs ts) (h6:∀ z H',Same H H'->Fq K H' (Zo rs ts ts.length) z->Q z H'):φpull K t x y H Q
theorem Ug (T:Tx K mg t) (F:Fun K "pull_of" "pull_of" Yh f fd) (dI:Cal P w K mg base 3 "times" ["one","other"] (Sp2M (Qop K (·*·)))) (eU:Cal P w K mg base 5 "count_rate" ["kind","title"] (Sp2M (φcr K t.aE))) (eV:UD P w K mg base 3 t.aE "greatest_rate" ["self"] (Sp1M (φgre K t.aE))) (bP:UD P w K mg base 1 t.aM "kind" ["self","title"] (Sp2M (φokind K t))):FnOk P w K mg base CX0 6 f fd ["office","titles"] (Sp2 (φpull K t)):=by
 refine F.ok sc_pull_of Z3 (fun cdv A outer s H vs Q E hr h=>?_);obtain ⟨_,_,rfl,p,l,rs,ts,rfl,rfl,hO,hl,hRg,q⟩:=h;have tl8:=hRg.2.1;refine ⟨_,((Qd (Qk (i:=2) sc_pull_of.nd rfl (Or.inl rfl) (GK T.bC))
   (Qd (Za FX rfl (LL K rfl rfl T.gJ (Qa (pu 1) Qc)) (pgK (n:=2) K rfl rfl (Qz (Qp (i:=3) sc_pull_of.nd rfl (Or.inl rfl)) (Qz (Qp (i:=4) sc_pull_of.nd rfl (Or.inl rfl)) Zp)))
   (Qd (Qk (i:=5) sc_pull_of.nd rfl (Or.inl rfl) (N6 bP (hrm hr) T.bD (pu 0) (Qa (pu 4) Qc)))
   (Qd (Qk (i:=6) sc_pull_of.nd rfl (Or.inl rfl) (Qr (ixK K rfl) (pu 1) (Qf Qn (Qf Qq (pu 3) Qb) (Qm (Xk K rfl) (by rfl) T.aK F0 (Qa (pu 1) Qc))) (fun _ _=>rfl)))
   (Qg (Qk (i:=2) sc_pull_of.nd rfl (Or.inl rfl) (Qs dI (hrm hr) rfl (Qa (pu 2) (Qa (Qs dI (hrm hr) rfl (Qa (UR eV (hrm hr) T.aL (pu 5)) (Qa (Qs eU (hrm hr) rfl (Qa (pu 5) (Qa (pu 6) Qc))) Qc))) Qc))))))))
   (Qg (Qu (pu 2)))))),?_⟩
 nofun;simp only [Lk];nofun;refine ⟨l,rfl,⟨_,hl⟩,?_⟩;refine HP (xs:=ts.map V.str) (fun i σ' H'=>∃ (z:V) (x3 x4 x5 x6:Option V),σ'=[some (.ref p),some (.ref l),some z,x3,x4,x5,x6]/\Same H H'/\Fq K H' (Zo rs ts i) z) ⟨_,none,none,none,none,rfl,Same.refl _,T.bC.fq1⟩ (fun i σ' H' _ h=>by obtain ⟨_,_,_,_,_,_,g,_⟩:=h;exact g.seq hl) ?_ ?_
 ·rintro i v _ H2 p2 hv ⟨z,x3,x4,x5,x6,rfl,g2,hF⟩ hp2;rw [Fv] at hv;obtain ⟨s,hs,rfl⟩:=FW.mp hv;have hi:=Qx hs;generalize e_n3:upd H2 p2 _=H3 at *;obtain ⟨n3,k_n3⟩:=nwH hp2 e_n3;have hT:SqT K H3 p2 [.int (i:Nat),.str s]:=SqT.of k_n3;have g3:=g2.trans n3;have hF3:=hF.same n3;refine Xc hT rfl ?_;nofun;obtain ⟨dx,fs,lk,vs0,op,of,ok,oA,onn⟩:=id hO;refine Lh (g3 _ _ op) onn.2 ?_;nofun;obtain ⟨r,rr,r1,r2,r3,r4,r5,r6,r7,_⟩:=hRg.2.2 i s hs;refine ⟨p,rs,s,r,rfl,hO.same g3,rfl,r1,fun v hv=>?_⟩;nofun;refine Q3 (g3.seq hl) ?_;rw [Fi];nofun;have eu:((i:Int)+1) % (ts.length:Int)=(((i+1) % ts.length:Nat):Int):=by rw [Int.natCast_emod,Int.natCast_add];rfl
  refine ⟨by omega,?_⟩;rw [eu];have hy:=U2 (d:=Str.empty) (i+1) hRg.1;refine Q7 (g3.seq hl) (v:=.str (ts.getD ((i+1) % ts.length) Str.empty)) (QL (by rw [Fv,hy];rfl)) ?_;nofun;obtain ⟨kp,kdx,kfs,kc,ko,rfl,h1,_,_,_,_,⟨_,h6⟩,_⟩:=id hv;refine Lh h1 h6 ?_;nofun;obtain ⟨gr0,grB,_⟩:=JD r5;refine ⟨r,hv,r5,r6,fun z1 f1=>⟨r,_,rr,hv,rfl,r2,r3,r7,fun z2 H4 g4 f2=>?_⟩⟩;refine ⟨gr r.os,rr,14,14,f1.same g4,f2,grB,r3,by decide,fun z3 H5 g5 f3=>?_⟩;obtain ⟨_,_,_,pB⟩:=Y3 hRg i (by omega);have g45:=g4.trans g5;refine ⟨Zo rs ts i,gr r.os*rr,28*i+1,28,hF3.same g45,f3,pB,(grB.mul r3).mono (by decide),by omega,fun z4 H6 g6 f4=>?_⟩;refine ⟨_,_,_,_,_,rfl,g3.trans (g45.trans g6),?_⟩;have e:Zo rs ts (i+1)=Zo rs ts i*(gr r.os*rr):=by
   show Zo rs ts i*rwt rs (ts.getD i Str.empty) (ts.getD ((i+1) % ts.length) Str.empty)=_;rw [ZP hs,Jp r1 r2]
  rw [e];exact f4
 ·rintro _ H2 ⟨z,x3,x4,x5,x6,rfl,g2,hF⟩;rw [Fi] at hF;nofun;exact q z H2 g2 hF
theorem XB.back {ts:List Str}{z:Option Rat}(h:XB K H1 H' d ts z) (g:Same H H1):XB K H H' d ts z:=by
 obtain ⟨l,fs,h1,h2,h3,h4⟩:=h;exact ⟨l,fs,h1,h2,g.free h3,h4⟩
inductive φchk (K:W.Frag) (t:Adr) (x y z:V) (H:Hp) (Q:VK) (E:XK):Prop
 | mk (p l:Addr) (rs:List Rw) (ts:List Str) (r:Rat) (m:Nat) (h1:x=.ref p) (h2:y=.ref l) (h3:Of K t H rs p) (h4:H l=some (.lst (ts.map V.str))) (h5:Rg rs ts) (h6:Fq K H r z) (h7:RB m r) (h8:m<=1000)
   (h9:ts.any (ZZ rs)=false->¬ (ts.length % 2=0/\¬ r<1)->∀ H',Same H H'->Q .non H')
   (h10:ts.any (ZZ rs)=true->∀ d H',Same H H'->XB K H H' d ts none->E (.ref t.aB) (some d) H')
   (h11:ts.any (ZZ rs)=false->ts.length % 2=0->¬ r<1->∀ d H',Same H H'->XB K H H' d ts (some r)->E (.ref t.aA) (some d) H'):φchk K t x y z H Q E
theorem JZ (T:Tx K mg t) (F:Fun K "check_ring" "check_ring" Z8 f fd) (bE:Cal P w K mg base 1 "below" ["one","other"] (Sp2M (Qlt K))) (eW:Lb P w K mg base 1 t.aA ["self","titles","pull"] (Sp3M (φwidI K t.aA))) (eX:Lb P w K mg base 1 t.aB ["self","titles"] (Sp2M (φtitI K t.aB))) (bP:UD P w K mg base 1 t.aM "kind" ["self","title"] (Sp2M (φokind K t))):FnOk P w K mg base (CXd P w) 3 f fd ["office","titles","pull"] (Rp3 (φchk K t)):=by
 refine F.okD sc_check_ring Sv (fun cdv A outer s H vs Q E hr h=>?_);obtain ⟨_,_,_,rfl,p,l,rs,ts,r,m,rfl,rfl,hO,hl,hRg,hF,hB,hm,q,qj,qw⟩:=h;have tl8:=hRg.2.1;obtain ⟨dx,fs,lk,vs0,op,of,ok,oA,onn⟩:=id hO;refine ⟨_,((Qd (Y4 (i:=3) sc_check_ring.nd rfl (Or.inl rfl) (N:=["title","office"]) (caps:=[none,some 0]) rfl ZY (piK K rfl (pu 1)) (fun _ _ _ _=>Qp (i:=0) (show (["title","office"]:List Str).Nodup by decide +kernel) rfl (Or.inl rfl) (.inr rfl)) (fun _ _ _ _=>QT) (fun _ _ _ _=>(N6 bP (hrm hr) T.bD (pu 1) (Qa (pu 0) Qc))))
   (Qd (QM (Zt (Qm (Nk K rfl rfl) (by rfl) T.gI boot_any (Qa (Zd (N:=["kind"]) (caps:=[none]) rfl ZY (piK K rfl (pu 3)) (fun _ _ _ _=>Qp (i:=0) (show (["kind"]:List Str).Nodup by decide +kernel) rfl (Or.inl rfl) (.inr rfl)) (fun _ _ _ _=>QT) (fun _ _ _ _=>(RR (Zw KQ (Zv K rfl (pu 0)) ZF (Qw _)) (Jt (Zw KQ (Zv K rfl (pu 0)) ZF (Qw _)))))) Qc))) (Qg (Wy V3 rfl rfl eX (hrm hr) rfl T.cW (Qa (pu 1) Qc))) Qy)
   (Qg (QM (PW.pt (ZM (Qt (eqM K rfl hr.units) (Qf Qn (Qm (Xk K rfl) (by rfl) T.aK F0 (Qa (pu 1) Qc)) Qb) Qb (Qw _)) (ZL (ZT (Zt (Qs bE (hrm hr) rfl (Qa (pu 2) (Qa (GK T.bC) Qc)))))))) (Qg (Wy V3 rfl rfl eW (hrm hr) rfl T.cX (Qa (pu 1) (Qa (pu 2) Qc)))) Qy))))),?_⟩
 nofun;simp only [QS];nofun;refine ⟨l,rfl,⟨_,SqL.of hl⟩,ZS (xs:=ts.map V.str) (fun i acc σ' H'=>∃ x0:Option V,σ'=[x0,some (.ref p)]/\H'=H/\All2 (fun (s:Str) v=>∃ r,(rs.find? fun r=>decide (r.nm=s))=some r/\Kn K t.aE H r v) (ts.take i) acc) ⟨none,rfl,rfl,All2.nil⟩ (fun i acc σ' H' _ h=>by obtain ⟨_,_,rfl,_⟩:=h;exact SqL.of hl) (by rw [Fi];omega) ?_ ?_⟩
 ·rintro i v acc _ H2 hv hacc ⟨x0,rfl,e2,hA⟩;rw [e2];rw [Fv] at hv;obtain ⟨s,hs,rfl⟩:=FW.mp hv;have hi:i<(ts.map V.str).length:=by rw [Fi];exact Qx hs
  simp only [ZR];nofun;refine Lh op onn.2 ?_;nofun;obtain ⟨r,rr,r1,_⟩:=hRg.2.2 i s hs;refine ⟨p,rs,s,r,rfl,hO,rfl,r1,fun v hv=>?_⟩;refine CN.mk hi (by rw [Fo,Fz];omega) ⟨_,rfl,(by first | rfl | trivial),?_⟩;rw [FH,hs];exact hA.snoc ⟨r,r1,hv⟩
 ·rintro acc _ H2 ⟨x0,rfl,e2,hA⟩ l3 hl3;rw [e2] at hl3 ⊢;rw [Fi,FI] at hA;have al:=hA.1;generalize e_g3:upd H l3 _=H3 at *;obtain ⟨g3,k3⟩:=nwH hl3 e_g3;refine ⟨l3,rfl,⟨_,SqL.of k3⟩,ZS (xs:=acc) (fun i acc2 σ' H'=>∃ x0:Option V,σ'=[x0]/\H'=H3/\acc2=((ts.take i).map (ZZ rs)).map V.bl) ⟨none,rfl,rfl,rfl⟩ (fun i acc σ' H' _ h=>by obtain ⟨_,_,rfl,_⟩:=h;exact SqL.of k3) (by omega) ?_ ?_⟩
  ·rintro i v acc2 _ H4 hv hacc ⟨x0,rfl,e4,rfl⟩;rw [e4];obtain ⟨s,hs,r,r1,hKn⟩:=hA.getV hv;obtain ⟨kp,kdx,kfs,kc,ko,rfl,h1,_,_,_,h5,⟨h6,_⟩,_⟩:=hKn.same g3;have ej:ZZ rs s=(r.un.isSome||r.lm.isSome):=by unfold ZZ;rw [r1]
   have put:∀ {bb:Bool},bb=ZZ rs s->CN (fun i acc2 σ' H'=>∃ x0:Option V,σ'=[x0]/\H'=H3/\acc2=((ts.take i).map (ZZ rs)).map V.bl) acc.length i (((ts.take i).map (ZZ rs)).map V.bl++[V.bl bb]) [some (.ref kp)] H3:=fun {bb} e=>by
    refine CN.mk (Qx hv) (by rw [Fo,Fz];omega) ⟨_,rfl,(by first | rfl | trivial),?_⟩;rw [FH,hs,Fx,Fx,e];rfl
   simp only [ZR];nofun;refine Jk h1 T.aL T.dU h6 ?_;nofun;refine ⟨trivial,?_⟩;cases hu:r.un with
   | some u=>
    rw [hu] at ej;refine (Fk ?_).mpr ?_
    ·exact fun h=>nomatch h
    ·refine put ?_;rw [ej];rfl
   | none=>
    rw [hu] at ej;rw [Fh (fun h=>h rfl)];refine Jk h1 T.aL T.dS h5 ⟨trivial,?_⟩;refine put ?_;rw [ej];cases r.lm with
    | none=>rfl
    | some _=>rfl
  ·rintro acc2 _ H4 ⟨x0,rfl,e4,rfl⟩ l5 hl5;rw [e4] at hl5 ⊢;rw [<-al,FI];refine ⟨l5,ts.map (ZZ rs),rfl,SqL.of Qe,?_⟩;generalize e_g5:upd H3 l5 _=H5 at *;obtain ⟨g5,k_g5⟩:=nwH hl5 e_g5;have en:(ts.map (ZZ rs)).any id=ts.any (ZZ rs):=by rw [List.any_map];rfl
   have g35:=g3.trans g5;rw [en];cases hj:ts.any (ZZ rs) with
   | true=>
    nofun;simp only [Jj];nofun;exact Nq (g35 _ _ hl) fun d H' g' x'=>qj hj d H' (g35.trans g') (x'.back g35)
   | false=>
    nofun;refine Q3 (SqL.of (g35 _ _ hl)) ?_;rw [Fi];nofun;have ev:((ts.length:Int) % 2=0)↔ts.length % 2=0:=by omega
    refine ⟨trivial,QH (fun c=>?_) (fun c=>q hj (fun h=>c (ev.mpr h.1)) _ g35)⟩;refine ⟨r,1,m,1,hF.same g35,T.bC.fq1,hB,RB.one (by decide),by omega,?_⟩;nofun;by_cases lt:r<1
    ·rw [Fh (fun h=>h lt)];try nofun
     exact q hj (fun h=>h.2 lt) _ g35
    ·rw [Fk lt];try nofun
     simp only [Jj];nofun;exact Ra (g35 _ _ hl) (hF.same g35) fun d H' g' x'=>qw hj (ev.mp c) lt d H' (g35.trans g') (x'.back g35)
def BT.qo:BT->Option Rat
 | .wd _ q=>some q
 | _=>none
def BT.cl (t:Adr):BT->Addr
 | .tg=>t.aD
 | .jp _=>t.aB
 | _=>t.aA
inductive φblk (K:W.Frag) (t:Adr) (x y z:V) (H:Hp) (Q:VK) (E:XK):Prop
 | mk (p lk d:Addr) (rs:List Rw) (gg:Str->Nat) (f:Str) (kn:List Str) (h1:x=.ref p) (h2:y=.ref lk) (h3:z=.ref d) (h4:Of K t H rs p) (h5:ROk rs) (h6:Gq (nbR rs) (rs.map (·.nm)) gg) (h0:kOf gg (rs.map (·.nm)) (gg f)=kn) (h7:H lk=some (.lst (kn.map V.str))) (h8:Nb H d (rs.map (·.nm)) (nbR rs)) (h9:f∈rs.map (·.nm)) (h10:isF gg (rs.map (·.nm)) f=true)
   (h13:(bt rs kn).good=true->∀ b q z H',H b=none->(q=lk∨H q=none)->Same H H'->H' b=some (.tup [.str (bt rs kn).wd1,.ref q,z])->H' q=some (.lst (((bt rs kn).ts kn).map V.str))->Fq K H' (bt rs kn).q z->Q (.ref b) H')
   (h14:(bt rs kn).good=false->∀ d H',Same H H'->XB K H H' d ((bt rs kn).ts kn) (bt rs kn).qo->E (.ref ((bt rs kn).cl t)) (some d) H'):φblk K t x y z H Q E
theorem VG (T:Tx K mg t) (F:Fun K "block_of" "block_of" XO f fd) (eY:Nn P w K mg base 3 "check_ring" ["office","titles","pull"] (Rp3M (φchk K t))) (eZ:Cal P w K mg base 6 "pull_of" ["office","titles"] (Sp2M (φpull K t))) (fG:Cal P w K mg base 2 "ring_from" ["first","leaning","knot"] (Sp3M (φring K))) (fI:Lb P w K mg base 1 t.aD ["self","titles"] (Sp2M (φtitI K t.aD))) (bF:Cal P w K mg base 1 "counted_within" ["leaning","title","knot"] (Sp3M (φcw K))):FnOk P w K mg base (CXd P w) 7 f fd ["office","knot","leaning"] (Rp3 (φblk K t)):=by
 refine F.okD sc_block_of Sv (fun cdv A outer s H vs Q E hr h=>?_);obtain ⟨_,_,_,rfl,p,lk,d,rs,gg,f,kn,rfl,rfl,rfl,hO,hRO,G,hkn,hk,hN,hfn,hf,q,qe⟩:=h;have hRs:=hRO.rw;have hle:=hRs.le;have nbn:=hRs.nb;obtain ⟨kt,hkt⟩:=Wb hf;have ring:=fun h1 h2=>KG G hfn hf h1 h2
 have rgof:=fun h1 h2=>NP hRO G hfn hf h1 h2
 rw [hkn] at hkt ring rgof;have knm:∀ s∈kn,s∈rs.map (·.nm):=fun s hs=>by rw [<-hkn] at hs;exact (kOf_mem.mp hs).1
 have kl:kn.length<=8:=by
  rw [<-hkn];exact FR (EG _ _) (by rw [Fi];exact hle)
 refine ⟨_,((Qd (Qk (i:=3) sc_block_of.nd rfl (Or.inl rfl) (Qm (Ng K rfl rfl) (by rfl) T.dM boot_max (Qa (Zd (N:=["title","leaning","knot"]) (caps:=[none,some 2,some 1]) rfl ZY (piK K rfl (pu 1)) (fun _ _ _ _=>Qp (i:=0) (show (["title","leaning","knot"]:List Str).Nodup by decide +kernel) rfl (Or.inl rfl) (.inr rfl)) (fun _ _ _ _=>QT) (fun _ _ _ _=>(Qm (Xk K rfl) (by rfl) T.aK F0 (Qa (Qs bF (hrm hr) rfl (Qa (pu 1) (Qa (pu 0) (Qa (pu 2) Qc)))) Qc)))) Qc)))
   (Qd (QM (Qt KR (pu 3) Qb (Qw _)) (Qg (Wy V3 rfl rfl fI (hrm hr) rfl T.cV (Qa (pu 1) Qc))) Qy)
   (Qd (QM (Qt (eqM K rfl hr.units) (pu 3) Qb (Qw _)) (Qg (Qu (QA (Qa Q5 (Qa (pu 1) (Qa (GK T.bB) Qc)))))) Qy)
   (Qd (Qk (i:=4) sc_block_of.nd rfl (Or.inl rfl) (Qs fG (hrm hr) rfl (Qa (Qr (ixK K rfl) (pu 1) Qb (fun _ _=>rfl)) (Qa (pu 2) (Qa (pu 1) Qc)))))
   (Qd (Qk (i:=5) sc_block_of.nd rfl (Or.inl rfl) (Qs eZ (hrm hr) rfl (Qa (pu 0) (Qa (pu 4) Qc))))
   (Qd (Zu (UT eY (hrm hr) rfl (BP fun _ _ _ h=>h) (Qa (pu 0) (Qa (pu 4) (Qa (pu 5) Qc)))))
   (Qg (Qu (QA (Qa Q5 (Qa (pu 4) (Qa (pu 5) Qc))))))))))))),?_⟩
 nofun;simp only [QS];nofun;refine ⟨lk,rfl,⟨_,SqL.of hk⟩,ZS (xs:=kn.map V.str) (fun i acc σ' H'=>∃ x0:Option V,σ'=[x0,some (.ref d),some (.ref lk)]/\Same H H'/\acc=((kn.take i).map fun s=>((wi (nbR rs) kn s).length:Int)).map V.int) ⟨none,rfl,Same.refl _,rfl⟩ (fun i acc σ' H' _ h=>by obtain ⟨_,_,g,_⟩:=h;exact SqL.of (g _ _ hk)) (by rw [Fi];omega) ?_ ?_⟩
 ·rintro i v acc _ H2 hv hacc ⟨x0,rfl,g2,rfl⟩;rw [Fv] at hv;obtain ⟨s,hs,rfl⟩:=FW.mp hv;have hi:i<(kn.map V.str).length:=by rw [Fi];exact Qx hs
  have sm:=Fu hs;simp only [ZR];nofun;refine ⟨d,lk,s,kn,rs.map (·.nm),nbR rs,rfl,rfl,rfl,hN.same g2,knm s sm,(nbn s (knm s sm)).2.1,SqL.of (g2 _ _ hk),fun p hp2=>?_⟩;refine Q3 (SqL.of Qe) ?_;have el:(((((nbR rs s).filter fun y=>decide (y∈kn)).map V.str).length:Nat):Int)=((wi (nbR rs) kn s).length:Int):=by rw [Fi];rfl
  rw [el];refine CN.mk hi (by rw [Fo,Fz];omega) ⟨_,rfl,g2.trans (Qi hp2 _),?_⟩;rw [FH,hs,Fx,Fx];rfl
 ·rintro acc _ H2 ⟨x0,rfl,g2,rfl⟩ p2 hp2;rw [Fi,FI];have g3:=g2.trans (Qi hp2 (.lst ((kn.map fun s=>((wi (nbR rs) kn s).length:Int)).map V.int)));refine ⟨p2,_,rfl,SqL.of Qe,by rw [Fi,hkt];simp,fun M hM hmax=>?_⟩;generalize upd H2 p2 (.lst ((kn.map fun s=>((wi (nbR rs) kn s).length:Int)).map V.int))=H3 at *;obtain ⟨s,hs,eM⟩:=Fw.mp hM;have hmx:∀ u∈kn,((wi (nbR rs) kn u).length:Int)<=M:=fun u hu=>hmax _ (Fw.mpr ⟨u,hu,rfl⟩)
  nofun;refine QH (fun c=>?_) (fun c=>?_)
  ·have e:=Gi (rs:=rs) hs (by omega);rw [e] at qe;simp only [Jj];nofun;exact Nq (g3 _ _ hk) fun d H' g' x'=>qe rfl d H' (g3.trans g') (x'.back g3)
  refine QH (fun c0=>?_) (fun c0=>?_)
  ·have e:=Gm (rs:=rs) (kn:=kn) fun u hu=>Dk.mp (by have:=hmx u hu;omega)
   rw [e] at q;refine ⟨by decide,fun p4 hp4=>?_⟩;exact q rfl p4 lk _ _ (g3.free hp4) (.inl rfl) (g3.trans (Qi hp4 _)) Qe ((g3.trans (Qi hp4 _)) _ _ hk) T.bB.fq0
  have b1:∀ u∈kn,(wi (nbR rs) kn u).length<=1:=fun u hu=>by have:=hmx u hu;omega
  have b2:∃ u∈kn,wi (nbR rs) kn u≠[]:=⟨s,hs,fun e=>by rw [e] at eM;exact c0 eM.symm⟩
  obtain ⟨r1,r2,r3,r4,r5⟩:=ring b1 b2;have rg:=rgof b1 b2;refine Q7 (SqL.of (g3 _ _ hk)) (v:=.str f) (QL (j:=0) (by rw [hkt];rfl)) ?_;nofun;have r0:rt (rgo (nbR rs) kn) 0=rgo (nbR rs) kn:=by
   rw [UO (De.mpr rg.1)];simp
  refine ⟨d,lk,kn,rs.map (·.nm),rgo (nbR rs) kn,nbR rs,0,f,rfl,rfl,rfl,hN.same g3,fun u hu=>⟨knm u ((r2 u).mp hu),(nbn u (knm u ((r2 u).mp hu))).2.1⟩,SqL.of (g3 _ _ hk),r1,by omega,r3,r5,fun lr H4 hlr g4 k4=>?_⟩;rw [r0] at k4;have g04:=g3.trans g4;have rl8:=rg.2.1;obtain ⟨_,_,_,plB⟩:=Y3 rg _ (Fl _);nofun;refine ⟨p,lr,rs,rgo (nbR rs) kn,rfl,rfl,hO.same g04,SqL.of k4,rg,fun z H5 g5 f5=>?_⟩;nofun;have g05:=g04.trans g5;refine ⟨p,lr,rs,rgo (nbR rs) kn,_,_,rfl,rfl,hO.same g05,g5 _ _ k4,rg,f5,plB,by omega,fun hj hn H6 g6=>?_,fun hj d H6 g6 x6=>?_,fun hj h2 hw d H6 g6 x6=>?_⟩
  ·have e:=Gj b1 b2 hj hn;rw [e] at q;nofun;refine ⟨by decide,fun p7 hp7=>?_⟩;have g46:=g5.trans g6;have n7:=Qi hp7 (.tup [.str (Str.ofString "ring"),.ref lr,z]);exact q rfl p7 lr z _ ((g04.trans g46).free hp7) (.inr (g3.free hlr)) ((g04.trans g46).trans n7) Qe ((g46.trans n7) _ _ k4) (f5.same (g6.trans n7))
  ·have e:=Gk b1 b2 hj;rw [e] at qe;exact qe rfl d H6 (g05.trans g6) (x6.back g05)
  ·have e:=Gh b1 b2 hj h2 hw;rw [e] at qe;exact qe rfl d H6 (g05.trans g6) (x6.back g05)
def BkQ (K:W.Frag) (rs:List Rw) (gg:Str->Nat) (ak:List Str) (H':Hp) (f:Str) (v:V) (N:Addr->Prop):Prop:=∃ b q z,v=V.ref b/\SqT K H' b [.str (bt rs (kOf gg ak (gg f))).wd1,.ref q,z]/\H' q=some (.lst (((bt rs (kOf gg ak (gg f))).ts (kOf gg ak (gg f))).map V.str))/\Fq K H' (bt rs (kOf gg ak (gg f))).q z/\N q
theorem BkQ.same {f:Str}{N:Addr->Prop}(h:BkQ K rs gg ak H f v N) (g:Same H H'):BkQ K rs gg ak H' f v N:=by
 obtain ⟨b,q,z,h1,h4,h5,h6,h7⟩:=h;exact ⟨b,q,z,h1,g.sqT h4,g _ _ h5,h6.same g,h7⟩
theorem BkQ.put {f:Str}{N:Addr->Prop}(h:BkQ K rs gg ak H f v N) (k:H l=some (.lst xs)) (n:∀ q,N q->q≠l):BkQ K rs gg ak (upd H l (.lst ys)) f v N:=by
 obtain ⟨b,q,z,h1,h4,h5,h6,h7⟩:=h;have gw:=XF (ys:=ys) k;exact ⟨b,q,z,h1,gw.sqT h4,by rw [Qj (n q h7)];exact h5,h6.grow gw,h7⟩
inductive φord (K:W.Frag) (t:Adr) (x:V) (H:Hp) (Q:VK) (E:XK):Prop
 | mk (p:Addr) (rs:List Rw) (gg:Str->Nat) (S:List Str) (en:Option Str) (h1:x=.ref p) (h2:Of K t H rs p) (h3:ROk rs) (h4:Gq (nbR rs) (rs.map (·.nm)) gg) (h5:Fin rs gg S en)
   (h6:en=none->∀ l vs H',H l=none->Same H H'->H' l=some (.lst vs)->All2 (fun f v=>BkQ K rs gg (rs.map (·.nm)) H' f v fun q=>H q=none/\q≠l) S vs->Q (.ref l) H')
   (h7:∀ z,en=some z->∀ d H',Same H H'->XB K H H' d ((bt rs (kOf gg (rs.map (·.nm)) (gg z))).ts (kOf gg (rs.map (·.nm)) (gg z))) (bt rs (kOf gg (rs.map (·.nm)) (gg z))).qo->E (.ref ((bt rs (kOf gg (rs.map (·.nm)) (gg z))).cl t)) (some d) H'):φord K t x H Q E
theorem Fin.all {rs:List Rw}{gg:Str->Nat}{S:List Str}{en:Option Str}(h:Fin rs gg S en) {j:Nat}(hj:j<=S.length) (all:∀ x∈rs.map (·.nm),gg x∈(S.take j).map gg):j=S.length/\en=none:=by
 have e:j=S.length:=by
  rcases EZ j S.length with c | c
  ·obtain ⟨z1,_,z2,_⟩:=YB (h.sq j _ (Fj c));exact absurd (all _ z1) z2
  ·omega
 subst e;rw [FI] at all;refine ⟨rfl,?_⟩;cases en with
 | none=>rfl
 | some z=>
  obtain ⟨z1,_,z2,_⟩:=YB (h.bd z rfl).1;exact absurd (all _ z1) z2
theorem Sqs.take {nb:Str->List Str}(h:Sqs nb gg ak S) (j:Nat):Sqs nb gg ak (S.take j):=fun i x hi=>by
 have hl:=Qx hi;rw [FN] at hl;rw [EU,Fk (by omega)] at hi;rw [List.take_take,Nat.min_eq_left (by omega)];exact h i x hi
def plc (gg:Str->Nat) (ak ss:List Str):List Str:=(ss.map fun f=>kOf gg ak (gg f)).flatten
theorem plc_mem:y∈plc gg ak ss↔y∈ak/\gg y∈ss.map gg:=by
 unfold plc;rw [Do];constructor
 ·rintro ⟨l,hl,hy⟩;obtain ⟨f,hf,rfl⟩:=Fw.mp hl;obtain ⟨h1,h2⟩:=kOf_mem.mp hy;exact ⟨h1,Fw.mpr ⟨f,hf,h2.symm⟩⟩
 ·rintro ⟨h1,h2⟩;obtain ⟨f,hf,e⟩:=Fw.mp h2;exact ⟨_,Fw.mpr ⟨f,hf,rfl⟩,kOf_mem.mpr ⟨h1,e.symm⟩⟩
theorem Vz {f:Str}:plc gg ak (ss++[f])=plc gg ak ss++kOf gg ak (gg f):=by
 unfold plc;rw [Fx,Dc];simp
theorem fr_eq {nb:Str->List Str}(G:Gq nb ak gg) {ss:List Str}{i:Nat}:((kOf gg ak i).all fun s=>(nb s).all fun y=>decide (y∈kOf gg ak i++plc gg ak ss))=frI nb gg ak (ss.map gg) i:=by
 unfold frI;rw [F7,Eo,Eo];have key:∀ s∈kOf gg ak i,((nb s).all fun y=>decide (y∈kOf gg ak i++plc gg ak ss))=(nb s).all fun y=>decide (gg y=i∨gg y∈ss.map gg):=fun s hs=>by
  rw [F7,Eo,Eo];refine forall_congr' fun y=>forall_congr' fun hy=>?_
  have yn:=G.cn _ (kOf_mem.mp hs).1 _ hy;rw [F9,F9,FK,kOf_mem,plc_mem];simp only [yn,true_and]
 exact ⟨fun h s hs=>by rw [<-key s hs];exact h s hs,fun h s hs=>by rw [key s hs];exact h s hs⟩
def Kt (gg:Str->Nat) (ak:List Str) (H0 H:Hp) (s:Str) (v:V):Prop:=∃ q,v=V.ref q/\H0 q=none/\H q=some (.lst ((kOf gg ak (gg s)).map V.str))
def OrW (K:W.Frag) (rs:List Rw) (gg:Str->Nat) (S:List Str) (H0 H2:Hp) (p d lp lb:Addr) (ak:List Str) (n:Nat) (σ':L2.St) (H':Hp):Prop:=∃ (j:Nat) (ss:List Str) (lw:Addr) (ws bs:List V) (x5:Option V),(j<=S.length/\ss=S.take j)/\σ'=[some (.ref p),some (.ref d),some (.ref lw),some (.ref lp),some (.ref lb),x5]/\Same H2 H'/\H' lw=some (.lst ws)/\H' lp=some (.lst ((plc gg ak ss).map V.str))/\H' lb=some (.lst bs) /\
 All2 (Kt gg ak H0 H2) ((ak.filter (isF gg ak)).filter fun s=>!decide (gg s∈ss.map gg)) ws/\All2 (fun f v=>BkQ K rs gg ak H' f v fun q=>(q≠lp/\q≠lb)/\H0 q=none) ss bs/\(plc gg ak ss).Nodup/\lw≠lp/\lw≠lb/\n=ws.length
theorem Md (T:Tx K mg t) (F:Fun K "order" "order" W7 f fd) (fJ:Nn P w K mg base 7 "block_of" ["office","knot","leaning"] (Rp3M (φblk K t))) (fK:Cal P w K mg base 2 "is_free" ["knot","leaning","placed"] (Sp3M (φfr K))) (fM:Cal P w K mg base 3 "knots" ["office"] (Sp1M (φkn K t))) (bN:Cal P w K mg base 1 "leans" ["office"] (Sp1M (φleans K t))):FnOk P w K mg base (CXd P w) 8 f fd ["office"] (Rp1 (φord K t)):=by
 refine F.okD sc_order Hz (fun cdv A outer s H vs Q E hr h=>?_);obtain ⟨_,rfl,p,rs,gg,S,en,rfl,hO,hRO,G,hFin,q,qe⟩:=h;have hRs:=hRO.rw;have hle:=hRs.le;refine ⟨_,((Qd (Qk (i:=1) sc_order.nd rfl (Or.inr rfl) (Qs bN (hrm hr) rfl (Qa (pu 0) Qc)))
   (Qd (Qk (i:=2) sc_order.nd rfl (Or.inl rfl) (Qs fM (hrm hr) rfl (Qa (pu 0) Qc)))
   (Qd (Qk (i:=3) sc_order.nd rfl (Or.inr rfl) (QB Qc))
   (Qd (Qk (i:=4) sc_order.nd rfl (Or.inl rfl) (QB Qc))
   (Qd (XA PassesOwn.leaving (ZN (pu 2) (fun _=>rfl)) (Qd (Qk (i:=5) sc_order.nd rfl (Or.inr rfl) (Qr (ixK K rfl) (Zd (N:=["one","leaning","placed"]) (caps:=[none,some 1,some 3]) rfl ZY (piK K rfl (pu 2)) (fun _ _ _ _=>Qp (i:=0) (show (["one","leaning","placed"]:List Str).Nodup by decide +kernel) rfl (Or.inl rfl) (.inr rfl)) (fun _ _ _ _=>XR (Zt (Qs fK (hrm hr) rfl (Qa (pu 0) (Qa (pu 1) (Qa (pu 2) Qc)))))) (fun _ _ _ _=>(pu 0))) Qb (fun _ _=>rfl)))
   (Qd (Zu (ZO K rfl Ej EA EB Zg (pu 4) (Qa (UT fJ (hrm hr) rfl (BP fun _ _ _ h=>h) (Qa (pu 0) (Qa (pu 5) (Qa (pu 1) Qc)))) Qc)))
   (Qd (Zu (ZO K rfl Ej PySem.F.slot_list_extend PySem.F.type_list_extend GX (pu 3) (Qa (pu 5) Qc)))
   (Qg (Y4 (i:=2) sc_order.nd rfl (Or.inl rfl) (N:=["one","knot"]) (caps:=[none,some 5]) rfl ZY (piK K rfl (pu 2)) (fun _ _ _ _=>Qp (i:=0) (show (["one","knot"]:List Str).Nodup by decide +kernel) rfl (Or.inl rfl) (.inr rfl)) (fun _ _ _ _=>XR (Qt (neM K rfl hr.units) (pu 0) (pu 1) (Qw _))) (fun _ _ _ _=>(pu 0))))))))
   (Qg (Qu (pu 4))))))))),?_⟩
 nofun;refine ⟨p,rs,rfl,hO,hRs.nd,by omega,hRs.cl,fun d kvs H1 hd g1 kd lo _=>?_⟩;have hNb:=K2 kd lo hRs.nd;nofun;refine ⟨p,rs,gg,rfl,hO.same g1,hRs,G,fun lw0 ws0 H2 hlw0 g2 kw0 hW0=>?_⟩;have hNb2:=hNb.same g2;have nbn:=hRs.nb;have nml:(rs.map (·.nm)).length=rs.length:=Fi _;have hW0:All2 (Kt gg (rs.map (·.nm)) H H2) ((rs.map (·.nm)).filter (isF gg (rs.map (·.nm)))) ws0:=hW0.imp fun _ _ ⟨a,e,h1,h2⟩=>⟨a,e,g1.free h1,h2⟩
 have gl8:∀ ss,Sqs (nbR rs) gg (rs.map (·.nm)) ss->ss.length<=8:=fun ss h=>by
  have:=Xf (l:=ss) (m:=rs.map (·.nm)) ((List.pairwise_map.mp h.nd).imp fun h e=>h (by rw [e])) fun z hz=>(h.mem hz).1
  omega
 obtain ⟨ak,hns⟩:∃ ak,rs.map (·.nm)=ak:=⟨_,rfl⟩
 have hO2:=hO.same (g1.trans g2);have all:=fun {j}=>hFin.all (j:=j)
 have at':=fun {j z}=>hFin.at (j:=j) (z:=z)
 have sqS:=hFin.sq;rw [hns] at hNb2 nbn nml hW0 gl8 q qe G all at' sqS;have nl:ak.length<=8:=by omega
 have g02:=g1.trans g2;nofun;refine ⟨by decide,fun lp hlp=>⟨by decide,fun lb hlb=>?_⟩⟩;generalize e_n3:upd H2 lp _=H3 at *;obtain ⟨n3,kp3⟩:=nwH hlp e_n3;generalize e_n4:upd H3 lb _=H4 at *;obtain ⟨n4,kb4⟩:=nwH hlb e_n4;have kp4:=n4 _ _ kp3;have lb2:H2 lb=none:=n3.free hlb;have bp:lb≠lp:=QJ kp3 hlb;have g24:=n3.trans n4;refine ⟨OrW K rs gg S H H2 p d lp lb ak,⟨_,0,[],lw0,ws0,[],none,⟨F1 _,rfl⟩,rfl,g24,g24 _ _ kw0,kp4,kb4,by rw [List.filter_eq_self.mpr (fun a _=>by simp)];exact hW0,All2.nil,List.nodup_nil,(QJ kw0 hlp).symm,(QJ kw0 lb2).symm,rfl⟩,?_⟩;rintro n _ H5 ⟨j,ss,lw,ws,bs,x5,⟨hj,ess⟩,rfl,g5,kw5,kp5,kb5,hW,hB,pnd,lwp,lwb,rfl⟩;have sqs:Sqs (nbR rs) gg ak ss:=by rw [ess];exact sqS.take j
 have sl8:=gl8 ss sqs;have pl8:(plc gg ak ss).length<=8:=by
  have:=Xf pnd (m:=ak) fun z hz=>(plc_mem.mp hz).1
  omega
 generalize hR:ZX (Kf _) _=R;nofun;refine ⟨!ws.isEmpty,.inl ⟨_,SqL.of kw5,rfl⟩,?_⟩;by_cases he:ws=[]
 ·subst he;rw [Fh (by simp)];nofun;have al:∀ x∈ak,gg x∈ss.map gg:=fun x hx=>by
   obtain ⟨f,f1,f2,f3,_⟩:=Ut (g:=gg) hx;have e:(ak.filter (isF gg ak)).filter (fun s=>!decide (gg s∈ss.map gg))=[]:=Dk.mp hW.1;have:=Dn.mp e f (F6.mpr ⟨f1,f2⟩);rw [<-f3];simpa using this
  rw [ess] at al hB;obtain ⟨ej,ee⟩:=all hj al;rw [ej,FI] at hB;exact q ee lb bs H5 (g02.free lb2) (g02.trans g5) kb5 (hB.imp fun _ _ ⟨b,q,z,h1,h4,h5,h6,h7,h8⟩=>⟨b,q,z,h1,h4,h5,h6,h8,h7.2⟩)
 ·rw [Fk (by simp [he])];refine ⟨_,fun _ _ z=>z,?_⟩;obtain ⟨wn,hwn⟩:∃ wn,(ak.filter (isF gg ak)).filter (fun s=>!decide (gg s∈ss.map gg))=wn:=⟨_,rfl⟩
  rw [hwn] at hW;have hwl:=hW.1;have wl8:wn.length<=8:=by rw [<-hwn];exact FR (EG _ _) (FR (EG _ _) nl)
  have win:∀ s∈wn,s∈ak/\gg s ∉ ss.map gg/\isF gg ak s=true:=fun s hs=>by
   rw [<-hwn] at hs;have h1:=F6.mp hs;have h2:=F6.mp h1.1;exact ⟨h2.1,by have:=h1.2;rwa [E3,Dj] at this,h2.2⟩
  obtain ⟨z,hz⟩:∃ z,pkI (nbR rs) gg ak (ss.map gg)=some z:=by
   cases wn with
   | nil=>exact absurd (Dk.mp hwl.symm) he
   | cons s _=>exact VA G (win s FU).1 (win s FU).2.1
  obtain ⟨zn,zf,zp,za⟩:=YB hz;have sq1:=sqs.snoc hz;have hfz:(wn.filter fun s=>frI (nbR rs) gg ak (ss.map gg) (gg s)).head?=some z:=by
   rw [<-hwn,List.filter_filter,List.filter_filter,List.head?_filter];refine Eq.trans (congrArg (fun f=>ak.find? f) (funext fun s=>?_)) hz;show (_&&(!decide _)&&_)=_;cases isF gg ak s <;> simp [Bool.and_comm]
  simp only [QS];nofun;refine ⟨lw,rfl,⟨_,SqL.of kw5⟩,ZS (xs:=ws) (fun i acc σ' H'=>∃ x0:Option V,σ'=[x0,some (.ref d),some (.ref lp)]/\Same H5 H'/\All2 (Kt gg ak H H2) ((wn.take i).filter fun s=>frI (nbR rs) gg ak (ss.map gg) (gg s)) acc) ⟨none,rfl,Same.refl _,All2.nil⟩ (fun i acc σ' H' _ h=>by obtain ⟨_,_,g,_⟩:=h;exact SqL.of (g _ _ kw5)) (by omega) ?_ ?_⟩
  ·rintro i v acc _ H6 hv hacc ⟨x0,rfl,g6,hA⟩;obtain ⟨s,hs,a,rfl,a1,a2⟩:=hW.getV hv;have hi:=Qx hv;have sn:=(win s (Fu hs)).1;have g26:=g5.trans g6;have st:(wn.take (i+1)).filter (fun s=>frI (nbR rs) gg ak (ss.map gg) (gg s))=(wn.take i).filter (fun s=>frI (nbR rs) gg ak (ss.map gg) (gg s))++[s].filter (fun s=>frI (nbR rs) gg ak (ss.map gg) (gg s)):=by rw [FH,hs,Et];rfl
   nofun;have kl8:(kOf gg ak (gg s)).length<=8:=FR (EG _ _) nl;refine ⟨a,d,lp,kOf gg ak (gg s),plc gg ak ss,ak,nbR rs,rfl,rfl,rfl,g26 _ _ a2,hNb2.same g26,g6 _ _ kp5,fun y hy=>(kOf_mem.mp hy).1,fun y hy=>(nbn y hy).2.1,by omega,by omega,fun H7 g7=>?_⟩;rw [fr_eq G];nofun;by_cases c:frI (nbR rs) gg ak (ss.map gg) (gg s)=true
   ·rw [Fk c];refine CN.mk hi (by rw [Fo,Fz];omega) ⟨_,rfl,g6.trans g7,?_⟩;rw [st,ED (p:=fun s=>frI (nbR rs) gg ak (ss.map gg) (gg s)) c];exact hA.snoc ⟨a,rfl,a1,a2⟩
   ·rw [Fh c];refine CN.mk hi (by omega) ⟨_,rfl,g6.trans g7,?_⟩;rw [st,ET (p:=fun s=>frI (nbR rs) gg ak (ss.map gg) (gg s)) c,Dd,Ed];exact hA
  rintro acc _ H6 ⟨x0,rfl,g6,hA⟩ l7 hl7;rw [<-hwl,FI] at hA;obtain ⟨rest,hrest⟩:∃ rest,(wn.filter fun s=>frI (nbR rs) gg ak (ss.map gg) (gg s))=z :: rest:=by
   cases e:wn.filter fun s=>frI (nbR rs) gg ak (ss.map gg) (gg s) with
   | nil=>rw [e] at hfz;cases hfz
   | cons x r=>rw [e] at hfz;cases hfz;exact ⟨r,rfl⟩
  rw [hrest] at hA;obtain ⟨v0,hv0⟩:∃ v0,acc[0]?=some v0:=⟨_,Fj (by rw [<-hA.1];simp)⟩
  obtain ⟨qz,rfl,qz1,qz2⟩:=hA.2 0 z v0 rfl hv0;generalize e_n7:upd H6 l7 _=H7 at *;obtain ⟨n7,k_n7⟩:=nwH hl7 e_n7;refine Q7 (SqL.of k_n7) (v:=.ref qz) (QL (j:=0) hv0) ?_;have g57:=g6.trans n7;have g27:=g5.trans g57;subst hR;nofun;refine ⟨.inl ⟨rfl,_,SqL.of (g57 _ _ kb5)⟩,?_⟩;have knz:(kOf gg ak (gg z)).length<=8:=FR (EG _ _) nl;have hzj:pkI (nbR rs) gg ak ((S.take j).map gg)=some z:=by rw [<-ess];exact hz
  refine ⟨p,qz,d,rs,gg,z,kOf gg ak (gg z),rfl,rfl,rfl,hO2.same g27,hRO,by rw [hns];exact G,by rw [hns],g27 _ _ qz2,by rw [hns];exact hNb2.same g27,by rw [hns];exact zn,by rw [hns];exact zf,fun hgd b lq zz H8 hb hlq g8 k8 kq8 fz8=>?_,fun hbd dd H8 g8 x8=>?_⟩
  rotate_left
  ·rcases at' hj hzj with ⟨_,h⟩ | ⟨_,ee,_⟩
   ·rw [hbd] at h;cases h
   ·exact qe z ee dd H8 ((g02.trans g27).trans g8) (x8.back (g02.trans g27))
  obtain ⟨hSj,_⟩:S[j]?=some z/\True:=by
   rcases at' hj hzj with ⟨h,_⟩ | ⟨_,_,h⟩
   ·exact ⟨h,trivial⟩
   ·rw [hgd] at h;cases h
  have hj1:j+1<=S.length:=Qx hSj;have ess1:ss++[z]=S.take (j+1):=by rw [FH,hSj,<-ess];rfl
  have g58:=g57.trans g8;have kb8:=g58 _ _ kb5;have kp7:=g57 _ _ kp5;have kb7:=g57 _ _ kb5;have lqp:(lq≠lp/\lq≠lb)/\H lq=none:=by
   rcases hlq with rfl | hlq
   ·exact ⟨⟨(QJ qz2 hlp).symm,(QJ qz2 lb2).symm⟩,qz1⟩
   ·exact ⟨⟨(fun e=>by rw [e,kp7] at hlq;cases hlq),(fun e=>by rw [e,kb7] at hlq;cases hlq)⟩,(g02.trans g27).free hlq⟩
  have bsl:bs.length<=8:=by rw [<-hB.1];omega
  refine Zy kb8 (QN (by omega)) ?_;have g29:Same H2 (upd H8 lb (.lst (bs++[.ref b]))):=QI (g27.trans g8) lb2;have kp9:(upd H8 lb (.lst (bs++[.ref b]))) lp=some (.lst ((plc gg ak ss).map V.str)):=by rw [Qj bp.symm];exact g58 _ _ kp5
  have kw9:(upd H8 lb (.lst (bs++[.ref b]))) lw=some (.lst ws):=by rw [Qj lwb];exact g58 _ _ kw5
  have kb9:(upd H8 lb (.lst (bs++[.ref b]))) lb=some (.lst (bs++[.ref b])):=Qe;have new8:BkQ K rs gg ak H8 z (.ref b) (fun q=>(q≠lp/\q≠lb)/\H q=none):=⟨b,lq,zz,rfl,SqT.of k8,kq8,fz8,lqp⟩
  have hB9:All2 (fun f v=>BkQ K rs gg ak (upd H8 lb (.lst (bs++[.ref b]))) f v fun q=>(q≠lp/\q≠lb)/\H q=none) (ss++[z]) (bs++[.ref b]):=
   (hB.imp fun _ _ h=>(h.same g58).put kb8 fun _ n=>n.1.2).snoc (new8.put kb8 fun _ n=>n.1.2)
  generalize upd H8 lb (.lst (bs++[.ref b]))=H9 at *;have kzl:(kOf gg ak (gg z)).length<=8:=FR (EG _ _) nl;refine ⟨.inl ⟨rfl,_,SqL.of kp9⟩,lp,qz,_,_,rfl,rfl,kp9,g29 _ _ qz2,by simp only [Fi];unfold sizeLine;omega,?_⟩;have e10:(plc gg ak ss).map V.str++(kOf gg ak (gg z)).map V.str=(plc gg ak (ss++[z])).map V.str:=by rw [Vz,Fx]
  rw [e10];have pnd1:(plc gg ak (ss++[z])).Nodup:=by
   rw [Vz];refine Ds.mpr ⟨pnd,G.nd.sublist Dm,fun a ha b hb e=>?_⟩;subst e;have h1:=(plc_mem.mp ha).2;rw [(kOf_mem.mp hb).2] at h1;exact zp h1
  have g210:Same H2 (upd H9 lp (.lst ((plc gg ak (ss++[z])).map V.str))):=QI g29 hlp;have kp10:(upd H9 lp (.lst ((plc gg ak (ss++[z])).map V.str))) lp=some (.lst ((plc gg ak (ss++[z])).map V.str)):=Qe;have kw10:(upd H9 lp (.lst ((plc gg ak (ss++[z])).map V.str))) lw=some (.lst ws):=by rw [Qj lwp];exact kw9
  have kb10:(upd H9 lp (.lst ((plc gg ak (ss++[z])).map V.str))) lb=some (.lst (bs++[.ref b])):=by rw [Qj bp];exact kb9
  have hB10:All2 (fun f v=>BkQ K rs gg ak (upd H9 lp (.lst ((plc gg ak (ss++[z])).map V.str))) f v fun q=>(q≠lp/\q≠lb)/\H q=none) (ss++[z]) (bs++[.ref b]):=hB9.imp fun _ _ h=>h.put kp9 fun _ n=>n.1.1
  generalize upd H9 lp (.lst ((plc gg ak (ss++[z])).map V.str))=H10 at *;simp only [QS];nofun;refine ⟨lw,rfl,⟨_,SqL.of kw10⟩,ZS (xs:=ws) (fun i acc σ' H'=>∃ x0:Option V,σ'=[x0,some (.ref qz)]/\H'=H10/\All2 (Kt gg ak H H2) ((wn.take i).filter fun s=>!decide (gg s=gg z)) acc) ⟨none,rfl,rfl,All2.nil⟩ (fun i acc σ' H' _ h=>by obtain ⟨_,_,e,_⟩:=h;rw [e];exact SqL.of kw10) (by omega) ?_ ?_⟩
  ·rintro i v acc _ H11 hv hacc ⟨x0,rfl,e11,hA⟩;rw [e11];obtain ⟨s,hs,a,rfl,a1,a2⟩:=hW.getV hv;have hi:=Qx hv;have st:(wn.take (i+1)).filter (fun s=>!decide (gg s=gg z))=(wn.take i).filter (fun s=>!decide (gg s=gg z))++[s].filter (fun s=>!decide (gg s=gg z)):=by rw [FH,hs,Et];rfl
   nofun;refine Nt (b:=decide (gg s=gg z)) (ZW (SqL.of (g210 _ _ a2))) (ZW (SqL.of (g210 _ _ qz2))) Vd (by rw [F9,<-txs_eq,L7 (win s (Fu hs)).1 zn]) ?_;nofun;by_cases c:gg s=gg z
   ·rw [Fh (by simpa using c)];refine CN.mk hi (by omega) ⟨_,rfl,rfl,?_⟩;rw [st,ET (by simpa using c),Dd,Ed];exact hA
   ·rw [Fk (by simpa using c)];refine CN.mk hi (by rw [Fo,Fz];omega) ⟨_,rfl,rfl,?_⟩;rw [st,ED (by simpa using c)];exact hA.snoc ⟨a,rfl,a1,a2⟩
  ·rintro acc2 _ H11 ⟨x0,rfl,e11,hA2⟩ l12 hl12;rw [e11] at hl12 ⊢;rw [<-hwl,FI] at hA2;have n12:=Qi hl12 (.lst acc2);have zw:z∈wn:=by
    rw [<-hwn];exact F6.mpr ⟨F6.mpr ⟨zn,zf⟩,by rw [E3,Dj];exact zp⟩
   have lt:acc2.length<ws.length:=by
    rw [<-hA2.1,<-hwl];exact List.length_filter_lt_length_iff_exists.mpr ⟨z,zw,by simp⟩
   refine ⟨acc2.length,lt,j+1,ss++[z],l12,acc2,_,_,⟨hj1,ess1⟩,rfl,g210.trans n12,Qe,n12 _ _ kp10,n12 _ _ kb10,?_,hB10.imp fun _ _ h=>h.same n12,pnd1,QJ kp10 hl12,QJ kb10 hl12,rfl⟩;have e:(ak.filter (isF gg ak)).filter (fun s=>!decide (gg s∈(ss++[z]).map gg))=wn.filter fun s=>!decide (gg s=gg z):=by
    rw [<-hwn,List.filter_filter (l:=ak.filter (isF gg ak))];refine List.filter_congr fun s _=>?_
    rw [<-Bool.not_or]
    congr 1
    rw [F7,Fx];simp [or_comm]
   rw [e];exact hA2
def Tb (K:W.Frag) (H:Hp) (rs:List Rw) (d:Addr):Prop:=∃ kvs:List (Key×V),H d=some (.dK kvs)/\∀ x r,(rs.find? fun r=>decide (r.nm=x))=some r->∃ v,Q8 kvs (Sum.inr x:Key)=some v/\Rr K H r v
theorem Tb.same (h:Tb K H rs d) (g:Same H H'):Tb K H' rs d:=by
 obtain ⟨kvs,h1,h2⟩:=h;refine ⟨kvs,g _ _ h1,fun x r hx=>?_⟩;obtain ⟨v,h3,h4⟩:=h2 x r hx;exact ⟨v,h3,h4.same g⟩
theorem nx1 {ts:List Str}(h:ts≠[]):ts.drop 1++ts.take 1=rt ts 1:=by
 cases ts with
 | nil=>exact absurd rfl h
 | cons x r=>
  cases r with
  | nil=>
   show []++[x]=rt [x] 1;unfold rt;simp
  | cons y r=>exact (UO (by simp)).symm
theorem LW {ts:List Str}(h:ts≠[]) {i:Nat}{v:V}(hv:((rt ts 1).map V.str)[i]?=some v):v=.str (ts.getD ((i+1) % ts.length) Str.empty):=by
 rw [Fv] at hv;obtain ⟨y,hy,rfl⟩:=FW.mp hv;have hl:=Qx hy;rw [XQ] at hl;rw [Jq hl,Nat.add_comm 1 i] at hy;rw [Fy hy]
theorem V0 {ts:List Str}(hl:H l=some (.lst (ts.map V.str))) (ne:ts≠[]) (tl:ts.length<=8) (q:∀ a H',Same H H'->H' a=some (.lst ((rt ts 1).map V.str))->Q (.ref a) H'):NV K (.ref l) (some 1) none H fun x H1=>NV K (.ref l) none (some 1) H1 fun y H2=>sAdd x y H2 Q:=by
 refine Xb (SqL.of hl) fun a2 ha2=>?_
 have e1:YI (ts.map V.str) (some 1) none=(ts.drop 1).map V.str:=by rw [show (some (1:Int))=some ((1:Nat):Int) from rfl,Yd,List.map_drop]
 have e2:YI (ts.map V.str) none (some 1)=(ts.take 1).map V.str:=by rw [show (some (1:Int))=some ((1:Nat):Int) from rfl,YH,List.map_take]
 rw [e1];generalize e_g2:upd H a2 _=H2 at *;obtain ⟨g2,k2⟩:=nwH ha2 e_g2;refine Xb (SqL.of (g2 _ _ hl)) fun a3 ha3=>?_
 rw [e2];generalize e_g3:upd H2 a3 _=H3 at *;obtain ⟨g3,k3⟩:=nwH ha3 e_g3;have b1:(ts.drop 1).length<=8:=by rw [F5];omega
 have b2:(ts.take 1).length<=8:=by rw [FN];omega
 refine UF ⟨a2,a3,_,_,rfl,rfl,g3 _ _ k2,k3,Kx (by rw [Fi,Fi];omega),fun a4 ha4=>?_⟩;rw [<-Fx,nx1 ne];exact q a4 _ (g2.trans (g3.trans (Qi ha4 _))) Qe
inductive φlp (K:W.Frag) (x y:V) (H:Hp) (Q:VK):Prop
 | mk (d l:Addr) (rs:List Rw) (ts:List Str) (h1:x=.ref d) (h2:y=.ref l) (h3:Tb K H rs d) (h4:H l=some (.lst (ts.map V.str))) (h5:Rg rs ts) (h6:∀ z H',Same H H'->Fq K H' (Zo rs ts ts.length) z->Q z H'):φlp K x y H Q
theorem GQ (T:Tx K mg t) (F:Fun K "_law_pull" "_law_pull" YV f fd) (dJ:Cal P w K mg base 3 "_law_times" ["_law_one","_law_other"] (Sp2M (Qop K (·*·)))) (fQ:Cal P w K mg base 1 "_law_greatest" ["_law_offs_here"] (Sp1M (φlgr K))):FnOk P w K mg base CX0 4 f fd ["_law_table","_law_ring"] (Sp2 (φlp K)):=by
 refine F.ok sc_l_pull Z3 (fun cdv A outer s H vs Q E hr h=>?_);obtain ⟨_,_,rfl,d,l,rs,ts,rfl,rfl,hTb,hl,hRg,q⟩:=h;have tl8:=hRg.2.1;refine ⟨_,((Qd (Qk (i:=2) sc_l_pull.nd rfl (Or.inl rfl) (QA (Qa Qb (Qa Qb Qc))))
   (Qd (Za FX rfl (RN K rfl rfl T.gM (Qa (pu 1) (Qa (Qf Qq (QW (slK K rfl) (pu 1) (Zb Qb) Zc) (QW (slK K rfl) (pu 1) Zc (Zb Qb))) Qc))) (pgK (n:=2) K rfl rfl (Qz (Qp (i:=3) sc_l_pull.nd rfl (Or.inl rfl)) (Qz (Qp (i:=4) sc_l_pull.nd rfl (Or.inr rfl)) Zp)))
   (Qd (Qk (i:=5) sc_l_pull.nd rfl (Or.inl rfl) (Xp (Z2 hr) (pu 0) (pu 3) (fun _ _=>rfl)))
   (Qd (Qk (i:=6) sc_l_pull.nd rfl (Or.inl rfl) (Qr (ixK K rfl) (Y6 (N:=["_law_other","_law_rate_here","_law_beyond"]) (caps:=[none,none,some 4]) rfl ZY (piK K rfl (Qr (ixK K rfl) (pu 5) Qb (fun _ _=>rfl))) (fun _ _ _ _=>pgK (n:=2) K rfl rfl (Qz (Qp (i:=0) (show (["_law_other","_law_rate_here","_law_beyond"]:List Str).Nodup by decide +kernel) rfl (Or.inl rfl) (.inr rfl)) (Qz (Qp (i:=1) (show (["_law_other","_law_rate_here","_law_beyond"]:List Str).Nodup by decide +kernel) rfl (Or.inl rfl) (.inr rfl)) Zp))) (fun _ _ _ _=>XR (Qt (eqM K rfl hr.units) (pu 0) (pu 2) (Qw _))) (fun _ _ _ _=>(pu 1))) Qb (fun _ _=>rfl)))
   (Qg (Qk (i:=2) sc_l_pull.nd rfl (Or.inl rfl) (Qs dJ (hrm hr) rfl (Qa (pu 2) (Qa (Qs dJ (hrm hr) rfl (Qa (Qs fQ (hrm hr) rfl (Qa (Qr (ixK K rfl) (pu 5) Qb (fun _ _=>rfl)) Qc)) (Qa (pu 6) Qc))) Qc))))))))
   (Qg (Qu (pu 2)))))),?_⟩
 nofun;refine ⟨by decide,fun p0 hp0=>?_⟩;generalize e_g1:upd H p0 _=H1 at *;obtain ⟨g1,k_g1⟩:=nwH hp0 e_g1;have f1:Fq K H1 1 (.ref p0):=Fq.int (i:=1) (SqT.of k_g1);unfold SR;nofun;refine V0 (g1 _ _ hl) hRg.1 tl8 fun a4 H4 g4 k4=>?_
 have g04:=g1.trans g4;refine ⟨l,a4,rfl,⟨_,SqL.of (g04 _ _ hl)⟩,⟨_,SqL.of k4⟩,?_⟩;refine HN (xs:=ts.map V.str) (ys:=(rt ts 1).map V.str) (fun i σ' H'=>∃ (z:V) (x3 x4 x5 x6:Option V),σ'=[some (.ref d),some (.ref l),some z,x3,x4,x5,x6]/\Same H4 H'/\Fq K H' (Zo rs ts i) z) ts.length (by rw [Fi,Fi,XQ,Nat.min_self]) ⟨_,none,none,none,none,rfl,Same.refl _,f1.same g4⟩ (fun i σ' H' h=>by obtain ⟨_,_,_,_,_,_,g,_⟩:=h;exact ⟨SqL.of (g _ _ (g04 _ _ hl)),SqL.of (g _ _ k4)⟩) ?_ ?_
 ·rintro i v u _ H5 pp hv hu ⟨z,x3,x4,x5,x6,rfl,g5,hF⟩ hpp;rw [Fv] at hv;obtain ⟨s,hs,rfl⟩:=FW.mp hv;have hi:=Qx hs;obtain rfl:=LW hRg.1 hu;obtain ⟨r,rr,r1,r2,r3,r4,r5,r6,r7,_⟩:=hRg.2.2 i s hs;generalize hy:ts.getD ((i+1) % ts.length) Str.empty=y at *;generalize e_n6:upd H5 pp _=H6 at *;obtain ⟨n6,k_n6⟩:=nwH hpp e_n6;have hT:SqT K H6 pp [.str s,.str y]:=SqT.of k_n6;have g46:=g5.trans n6;have g06:=g04.trans g46;have hF6:=hF.same n6;obtain ⟨kvs,kd,hrow⟩:=hTb;obtain ⟨v,hv1,hRr⟩:=hrow s r r1;obtain ⟨pr,lc,lo,rfl,hTr,⟨cv,kc,hC⟩,hOl⟩:=hRr.same g06;refine Xc hT rfl ?_;walk_at"dg";refine ⟨d,.ref pr,rfl,by have:=DGet.k (k:=Sum.inr s) (g06 _ _ kd);rw [hv1] at this;exact this,?_⟩;nofun;try simp only [QS]
  nofun;refine ⟨lc,rfl,⟨_,SqL.of kc⟩,ZS (xs:=cv) (fun i acc σ' H'=>∃ x0 x1:Option V,σ'=[x0,x1,some (.str y)]/\H'=H6/\All2 (fun (c:Str×Rat) v=>Fq K H6 c.2 v) ((r.cs.take i).filter fun c=>decide (c.1=y)) acc) ⟨none,none,rfl,rfl,All2.nil⟩ (fun i acc σ' H' _ h=>by obtain ⟨_,_,_,rfl,_⟩:=h;exact SqL.of kc) (by rw [<-hC.1];omega) ?_ ?_⟩
  ·rintro j u acc _ H7 hu hacc ⟨x0,x1,rfl,e3,hA⟩;rw [e3];obtain ⟨c,hc,pc,zc,rfl,hTc,hz⟩:=hC.getV hu;have hj:=Qx hu;have st:(r.cs.take (j+1)).filter (fun c=>decide (c.1=y))=(r.cs.take j).filter (fun c=>decide (c.1=y))++[c].filter (fun c=>decide (c.1=y)):=by rw [FH,hc,Et];rfl
   refine Xc hTc rfl ?_;nofun;by_cases e:c.1=y
   ·rw [Fk e];refine CN.mk hj (by rw [Fo,Fz];omega) ⟨_,_,rfl,rfl,?_⟩;rw [st,ED (by simpa using e)];exact hA.snoc hz
   ·rw [Fh e];refine CN.mk hj (by omega) ⟨_,_,rfl,rfl,?_⟩;rw [st,ET (by simpa using e),Dd,Ed];exact hA
  ·rintro acc _ H7 ⟨x0,x1,rfl,e3,hA⟩ l8 hl8;rw [e3] at hl8 ⊢;rw [<-hC.1,FI,r2] at hA;obtain ⟨v,rfl⟩:∃ v,acc=[v]:=by
    have:=hA.1
    match acc,this with
    | [v],_=>exact ⟨v,rfl⟩
   generalize e_n8:upd H6 l8 _=H8 at *;obtain ⟨n8,k_n8⟩:=nwH hl8 e_n8;have fv:=(hA.2 0 (y,rr) v rfl rfl).same n8;refine Q7 (SqL.of k_n8) (v:=v) rfl ?_;nofun;obtain ⟨gr0,grB,_⟩:=JD r5;refine YL (n8.sqT hTr) rfl ?_;refine ⟨lo,r.os,rfl,hOl.same n8,r5,fun z1 H9 g9 fz1=>?_⟩;refine ⟨gr r.os,rr,14,14,fz1,fv.same g9,grB,r3,by decide,fun z3 Ha ga f3=>?_⟩;obtain ⟨_,_,_,pB⟩:=Y3 hRg i (by omega);have g6a:=n8.trans (g9.trans ga);refine ⟨Zo rs ts i,gr r.os*rr,28*i+1,28,hF6.same g6a,f3,pB,(grB.mul r3).mono (by decide),by omega,fun z4 Hb gb f4=>?_⟩;refine ⟨_,_,_,_,_,rfl,g46.trans (g6a.trans gb),?_⟩;have e:Zo rs ts (i+1)=Zo rs ts i*(gr r.os*rr):=by
    show Zo rs ts i*rwt rs (ts.getD i Str.empty) (ts.getD ((i+1) % ts.length) Str.empty)=_;rw [ZP hs,hy,Jp r1 r2]
   rw [e];exact f4
 ·rintro _ H5 ⟨z,x3,x4,x5,x6,rfl,g5,hF⟩;nofun;exact q z H5 (g04.trans g5) hF
inductive φshape (K:W.Frag) (x:V) (H:Hp) (Q:VK):Prop
 | mk (b q:Addr) (s:Str) (z:V) (r:Rat) (ts:List Str) (h1:x=.ref b) (h2:SqT K H b [.str s,.ref q,z]) (h3:H q=some (.lst (ts.map V.str))) (h4:ts≠[]) (h5:ts.length<=8) (h6:Fq K H r z) (h7:∀ H',Same H H'->Q (.bl true) H'):φshape K x H Q
theorem Uj (T:Tx K mg t) (F:Fun K "_law_shape" "_law_shape" Yk f fd):FnOk P w K mg base CX0 1 f fd ["_law_block"] (Sp1 (φshape K)):=by
 refine F.ok sc_l_shape Wp (fun cdv A outer s H vs Q E hr h=>?_);obtain ⟨_,rfl,b,qq,s,z,r,ts,rfl,hT,hq,tne,tl8,hF,q⟩:=h;obtain ⟨pz,rfl,hz⟩:=hF;refine ⟨_,((Qd (QM (PW.pt (Y1 (ZT (Zt (Qm (J0 K rfl) (by rfl) T.aJ boot_isinstance (Qa (pu 0) (Qa (X3 T.dO boot_tuple) Qc))))) (Y1 (Qt (neM K rfl hr.units) (Qm (Xk K rfl) (by rfl) T.aK F0 (Qa (pu 0) Qc)) Qb (Qw _)) (Wx (ZT (Zt (Qm (J0 K rfl) (by rfl) T.aJ boot_isinstance (Qa (Qr (ixK K rfl) (pu 0) Qb (fun _ _=>rfl)) (Qa (X3 T.dN boot_str) Qc))))))))) (Qg (Qu Z1)) Qy)
   (Qd (QM (PW.pt (Y1 (ZT (Zt (Qm (J0 K rfl) (by rfl) T.aJ boot_isinstance (Qa (Qr (ixK K rfl) (pu 0) Qb (fun _ _=>rfl)) (Qa (X3 T.aP boot_list) Qc))))) (Wx (ZT (Zt (Qm (WM K rfl rfl) (by rfl) T.cR boot_all (Qa (Zd (N:=["_law_title"]) (caps:=[none]) rfl ZY (piK K rfl (Qr (ixK K rfl) (pu 0) Qb (fun _ _=>rfl))) (fun _ _ _ _=>Qp (i:=0) (show (["_law_title"]:List Str).Nodup by decide +kernel) rfl (Or.inl rfl) (.inr rfl)) (fun _ _ _ _=>QT) (fun _ _ _ _=>(Qm (J0 K rfl) (by rfl) T.aJ boot_isinstance (Qa (pu 0) (Qa (X3 T.dN boot_str) Qc))))) Qc))))))) (Qg (Qu Z1)) Qy)
   (Qd (Qk (i:=1) sc_l_shape.nd rfl (Or.inl rfl) (Qr (ixK K rfl) (pu 0) Qb (fun _ _=>rfl)))
   (Qd (QM (PW.pt (Y1 (ZT (Zt (Qm (J0 K rfl) (by rfl) T.aJ boot_isinstance (Qa (pu 1) (Qa (X3 T.dO boot_tuple) Qc))))) (Y1 (Qt (neM K rfl hr.units) (Qm (Xk K rfl) (by rfl) T.aK F0 (Qa (pu 1) Qc)) Qb (Qw _)) (Wx (Qt (eqM K rfl hr.units) (Qr (ixK K rfl) (pu 0) Qb (fun _ _=>rfl)) (QB Qc) (Qw _)))))) (Qg (Qu Z1)) Qy)
   (Qg (Qu (Jd (UQ (Qm (J0 K rfl) (by rfl) T.aJ boot_isinstance (Qa (Qr (ixK K rfl) (pu 1) Qb (fun _ _=>rfl)) (Qa (X3 T.cS boot_bool) Qc)))) (Jt (UQ (Qm (J0 K rfl) (by rfl) T.aJ boot_isinstance (Qa (Qr (ixK K rfl) (pu 1) Qb (fun _ _=>rfl)) (Qa (X3 T.cS boot_bool) Qc))))))))))))),?_⟩
 generalize hR:ZX (Xe _ _) _=R;nofun;refine YM (TyOf.str _) (by rfl) ?_;nofun;refine YM (.lst hq) (by rfl) ?_;nofun;try simp only [QS]
 nofun;refine ⟨qq,rfl,⟨_,SqL.of hq⟩,ZS (xs:=ts.map V.str) (fun i acc σ' H'=>∃ x0:Option V,σ'=[x0]/\H'=H/\acc=((ts.take i).map fun _=>true).map V.bl) ⟨none,rfl,rfl,rfl⟩ (fun i acc σ' H' _ h=>by obtain ⟨_,_,rfl,_⟩:=h;exact SqL.of hq) (by rw [Fi];omega) ?_ ?_⟩
 ·rintro i v acc _ H2 hv hacc ⟨x0,rfl,e2,rfl⟩;rw [e2];rw [Fv] at hv;obtain ⟨s,hs,rfl⟩:=FW.mp hv;have hi:i<(ts.map V.str).length:=by rw [Fi];exact Qx hs
  simp only [ZR];nofun;refine YM (TyOf.str _) (by rfl) ?_;refine CN.mk hi (by rw [Fo,Fz];omega) ⟨_,rfl,(by first | rfl | trivial),?_⟩;rw [FH,hs,Fx,Fx];rfl
 ·rintro acc _ H2 ⟨x0,rfl,e2,rfl⟩ l3 hl3;rw [e2] at hl3 ⊢;rw [Fi,FI];refine ⟨l3,ts.map fun _=>true,rfl,SqL.of Qe,?_⟩;generalize e_g3:upd H l3 _=H3 at *;obtain ⟨g3,k_g3⟩:=nwH hl3 e_g3;have en:(ts.map fun _=>true).all id=true:=by rw [List.all_map];simp
  rw [en];have hT3:=g3.sqT hT;have hz3:=g3.sqT hz;nofun;subst hR;nofun;refine ⟨by decide,fun p4 hp4=>?_⟩;generalize e_g4:upd H3 p4 _=H4 at *;obtain ⟨g4,k_g4⟩:=nwH hp4 e_g4;refine Kb (b:=decide (ts=[])) (ZW (SqL.of (g4 _ _ (g3 _ _ hq)))) (ZW (l:=[]) (SqL.of k_g4)) Vd (by rw [EL,txs_eq]) ?_;rw [FQ tne];have hz4:=g4.sqT hz3;nofun;try refine YM (T:="bool") (TyOf.int _) (by rfl) ?_
  nofun;exact q H4 (g3.trans g4)
def PwV (K:W.Frag) (H:Hp) (b:BT) (w:V):Prop:=match b.qo with
 | some r=>Fq K H r w
 | none=>w=.non
structure JC (K:W.Frag) (t:Adr) (C:Addr) (f1 f2 f3:Bool):Prop where
 e:Q6 K C
 x:WU K C
 n:NoAttr K C "titles"
 y1:W.kitOne K (.ref C) (.ref t.aD)=some f1
 y2:W.kitOne K (.ref C) (.ref t.aB)=some f2
 y3:W.kitOne K (.ref C) (.ref t.aA)=some f3
 y4:W.kitOne K (.ref C) (.ref t.bU)=some false
 y5:W.kitOne K (.ref C) (.ref t.bV)=some false
 y6:W.kitOne K (.ref C) (.ref t.bX)=some false
 y7:W.kitOne K (.ref C) (.ref t.bY)=some false
 y8:W.kitOne K (.ref C) (.ref t.bS)=some false
 y9:W.kitOne K (.ref C) (.ref t.bR)=some false
 ya:W.kitOne K (.ref C) (.ref t.bT)=some false
 yb:W.kitOne K (.ref C) (.ref t.bW)=some false
 yc:W.kitOne K (.ref C) (.ref t.bZ)=some false
 yh:W.kitOne K (.ref C) (.ref t.bQ)=some true
 yv:W.kitOne K (.ref C) (.type "ValueError")=some true
def bI (b:Bool):Int:=if b=true then 1 else 0
inductive φjust (K:W.Frag) (t:Adr) (ea:Addr) (x:V) (H:Hp) (Q:VK):Prop
 | mk (C d l:Addr) (f1 f2 f3:Bool) (fs:List (Str×V)) (vs:List V) (h1:x=.ref ea) (h2:H ea=some (.ext (ExcD ea (.ref C) (some d)))) (h3:JC K t C f1 f2 f3) (h4:bI f1+bI f2+bI f3=1) (h5:H d=some (.ext (XD d fs))) (h6:fs.lookup (Str.ofString "titles")=some (.ref l)) (h7:H l=some (.lst vs))
   (h8:∀ H',Same H H'->Q (.bl true) H'):φjust K t ea x H Q
theorem GT (T:Tx K mg t) (F:Fun K "_law_just" "_law_just" YY f fd):FnOkH P w K mg base 1 f fd ["_law_e"] (fun ea=>Sp1 (φjust K t ea)):=by
 refine F.okH sc_l_just (fun _=>Wp) (fun cdv A ea outer s H vs Q E hr h=>?_);obtain ⟨_,rfl,C,d,l,f1,f2,f3,fs,vs,rfl,he,J,hs,hd,hfl,hl,q⟩:=h;refine ⟨_,((Qd (Qk (i:=1) sc_l_just.nd rfl (Or.inl rfl) (QB (Qa (Qm (Xq K rfl) (by rfl) T.aJ boot_isinstance (Qa (pu 0) (Qa (Zj (v:=.ref _) rfl T.cV rfl) Qc))) (Qa (Qm (Xq K rfl) (by rfl) T.aJ boot_isinstance (Qa (pu 0) (Qa (Zj (v:=.ref _) rfl T.cW rfl) Qc))) (Qa (Qm (Xq K rfl) (by rfl) T.aJ boot_isinstance (Qa (pu 0) (Qa (Zj (v:=.ref _) rfl T.cX rfl) Qc))) (Qa (Qm (Xq K rfl) (by rfl) T.aJ boot_isinstance (Qa (pu 0) (Qa (Zj (v:=.ref _) rfl T.gR rfl) Qc))) Qc))))))
   (Qd (Qk (i:=1) sc_l_just.nd rfl (Or.inl rfl) (Qf Qq (pu 1) (QB (Qa (Qm (Xq K rfl) (by rfl) T.aJ boot_isinstance (Qa (pu 0) (Qa (Zj (v:=.ref _) rfl T.gS rfl) Qc))) (Qa (Qm (Xq K rfl) (by rfl) T.aJ boot_isinstance (Qa (pu 0) (Qa (Zj (v:=.ref _) rfl T.gU rfl) Qc))) (Qa (Qm (Xq K rfl) (by rfl) T.aJ boot_isinstance (Qa (pu 0) (Qa (Zj (v:=.ref _) rfl T.gV rfl) Qc))) (Qa (Qm (Xq K rfl) (by rfl) T.aJ boot_isinstance (Qa (pu 0) (Qa (Zj (v:=.ref _) rfl T.gP rfl) Qc))) Qc)))))))
   (Qd (Qk (i:=1) sc_l_just.nd rfl (Or.inl rfl) (Qf Qq (pu 1) (QB (Qa (Qm (Xq K rfl) (by rfl) T.aJ boot_isinstance (Qa (pu 0) (Qa (Zj (v:=.ref _) rfl T.gO rfl) Qc))) (Qa (Qm (Xq K rfl) (by rfl) T.aJ boot_isinstance (Qa (pu 0) (Qa (Zj (v:=.ref _) rfl T.gQ rfl) Qc))) (Qa (Qm (Xq K rfl) (by rfl) T.aJ boot_isinstance (Qa (pu 0) (Qa (Zj (v:=.ref _) rfl T.gT rfl) Qc))) (Qa (Qm (Xq K rfl) (by rfl) T.aJ boot_isinstance (Qa (pu 0) (Qa (Zj (v:=.ref _) rfl T.gW rfl) Qc))) Qc)))))))
   (Qd (QM (PW.pt (Y1 (ZT (Zt (Qm (Xq K rfl) (by rfl) T.aJ boot_isinstance (Qa (pu 0) (Qa (Zj (v:=.ref _) rfl T.gN rfl) Qc))))) (Wx (ZT (Zt (Qm (Xq K rfl) (by rfl) T.aJ boot_isinstance (Qa (pu 0) (Qa (X3 T.gH W4) Qc)))))))) (Qg (Qu Z1)) Qy)
   (Qg (Qu (Jd (Qm (J0 K rfl) (by rfl) T.aJ boot_isinstance (Qa (Y5 K rfl (pu 0)) (Qa (X3 T.aP boot_list) Qc))) (Jt (Zw (eqM K rfl hr.units) (Qm (Nd (ea:=ea) K rfl hr.hd) (by rfl) T.gL boot_sum (Qa (N9 (ea:=ea) (N:=["_law_flag"]) (caps:=[none]) hr.hd ZY (SI (ea:=ea) K rfl (pu 1)) (fun _ _ _ _=>Qp (i:=0) (show (["_law_flag"]:List Str).Nodup by decide +kernel) rfl (Or.inl rfl) (.inr rfl)) (fun _ _ _ _=>QT) (fun _ _ _ _=>(QK WL (by rfl) T.cT boot_int (Qa (pu 0) Qc)))) Qc)) Qb (Qw _))))))))))),?_⟩
 nofun;refine Xy he J.e J.y1 ?_;refine Xy he J.e J.y2 ?_;refine Xy he J.e J.y3 ?_;refine Xy he J.e J.y4 ?_;refine ⟨by show 4<=sizeLine;decide,fun p1 hp1=>?_⟩;generalize e_n1:upd H p1 _=H1 at *;obtain ⟨n1,k1⟩:=nwH hp1 e_n1;have he1:=n1 _ _ he;nofun;refine Xy he1 J.e J.y5 ?_;refine Xy he1 J.e J.y6 ?_;refine Xy he1 J.e J.y7 ?_;refine Xy he1 J.e J.y8 ?_;refine ⟨by show 4<=sizeLine;decide,fun p2 hp2=>?_⟩;generalize e_n2:upd H1 p2 _=H2 at *;obtain ⟨n2,k2⟩:=nwH hp2 e_n2;refine UF ⟨p1,p2,_,_,rfl,rfl,n2 _ _ k1,k2,by show 8<=sizeLine;decide,fun p3 hp3=>?_⟩;generalize e_n3:upd H2 p3 _=H3 at *;obtain ⟨n3,k3⟩:=nwH hp3 e_n3;have k3:H3 p3=some (.lst [.bl f1,.bl f2,.bl f3,.bl false,.bl false,.bl false,.bl false,.bl false]):=k3;have g3:=n1.trans (n2.trans n3);have he3:=g3 _ _ he;nofun;refine Xy he3 J.e J.y9 ?_;refine Xy he3 J.e J.ya ?_;refine Xy he3 J.e J.yb ?_;refine Xy he3 J.e J.yc ?_;refine ⟨by show 4<=sizeLine;decide,fun p4 hp4=>?_⟩;generalize e_n4:upd H3 p4 _=H4 at *;obtain ⟨n4,k4⟩:=nwH hp4 e_n4;refine UF ⟨p3,p4,_,_,rfl,rfl,n4 _ _ k3,k4,by show 12<=sizeLine;decide,fun p5 hp5=>?_⟩;generalize e_n5:upd H4 p5 _=H5 at *;obtain ⟨n5,k5⟩:=nwH hp5 e_n5;have k5:H5 p5=some (.lst ([f1,f2,f3,false,false,false,false,false,false,false,false,false].map V.bl)):=k5;have g5:=g3.trans (n4.trans n5);have he5:=g5 _ _ he;obtain ⟨fl,hfl'⟩:∃ fl,[f1,f2,f3,false,false,false,false,false,false,false,false,false]=fl:=⟨_,rfl⟩
 have fll:fl.length=12:=by rw [<-hfl'];rfl
 have fls:(fl.map bI).sum=1:=by
  rw [<-hfl'];show bI f1+(bI f2+(bI f3+(0+(0+(0+(0+(0+(0+(0+(0+(0+0)))))))))))=1;omega
 rw [hfl'] at k5;nofun;refine Xy he5 J.e J.yh ?_;nofun;refine Rl he5 J.e J.yv ?_;nofun;refine ⟨ea,C,d,fs,.ref l,rfl,he5,g5 _ _ hd,J.e,J.x,J.n,hfl,?_⟩;refine YM (.lst (g5 _ _ hl)) (by rfl) ?_;nofun;simp only [QS,Nw];nofun;refine ⟨p5,rfl,⟨_,SqL.of k5⟩,PF (xs:=fl.map V.bl) (fun i acc σ' H'=>∃ x0:Option V,σ'=[x0]/\H'=H5/\acc=((fl.take i).map bI).map V.int) ⟨none,rfl,rfl,rfl⟩ (fun i acc σ' H' _ h=>by obtain ⟨_,_,e,_⟩:=h;rw [e];exact SqL.of k5) (fun i acc σ' H' h=>by obtain ⟨_,_,e,_⟩:=h;rw [e];exact MC he5) (by rw [Fi];omega) ?_ ?_⟩
 ·rintro i v acc _ H6 hv hacc ⟨x0,rfl,e6,rfl⟩;rw [e6];rw [Fv] at hv;obtain ⟨b,hb,rfl⟩:=FW.mp hv;have hi:i<(fl.map V.bl).length:=by rw [Fi];exact Qx hb
  simp only [ZR];nofun;refine .inr ⟨b,rfl,?_⟩;refine CN.mk hi (by rw [Fo,Fz];omega) ⟨_,rfl,(by first | rfl | trivial),?_⟩;rw [FH,hb,Fx,Fx];rfl
 ·rintro acc _ H6 ⟨x0,rfl,e6,rfl⟩ p6 hp6;rw [e6] at hp6 ⊢;rw [Fi,FI];have n6:=Qi hp6 (.lst ((fl.map bI).map V.int));refine ⟨p6,fl.map bI,rfl,SqL.of Qe,MC (n6 _ _ he5),?_⟩;rw [fls];nofun;exact q _ (g5.trans n6)
inductive φtold (K:W.Frag) (t:Adr) (x:V) (H:Hp) (Q:VK):Prop
 | mk (p:Addr) (rs:List Rw) (gg:Str->Nat) (S:List Str) (en:Option Str) (h1:x=.ref p) (h2:Of K t H rs p) (h3:ROk rs) (h4:Gq (nbR rs) (rs.map (·.nm)) gg) (h5:Fin rs gg S en)
   (h6:en=none->∀ pt l vs H',Same H H'->H l=none->SqT K H' pt [.str (Str.ofString "told"),.ref l,.non,.bl true]->H' l=some (.lst vs)->All2 (fun f v=>BkQ K rs gg (rs.map (·.nm)) H' f v fun q=>H q=none/\q≠l) S vs->Q (.ref pt) H')
   (h7:∀ z,en=some z->∀ pt l w H',Same H H'->H l=none->SqT K H' pt [.str (bt rs (kOf gg (rs.map (·.nm)) (gg z))).wd1,.ref l,w,.bl true]->H' l=some (.lst (((bt rs (kOf gg (rs.map (·.nm)) (gg z))).ts (kOf gg (rs.map (·.nm)) (gg z))).map V.str))->PwV K H' (bt rs (kOf gg (rs.map (·.nm)) (gg z))) w->Q (.ref pt) H'):φtold K t x H Q
theorem GN (T:Tx K mg t) (F:Fun K "_law_told" "_law_told" YS f fd) (fR:Nn P w K mg base 8 "order" ["office"] (Rp1M (φord K t))) (cE:PR P w K mg base 1 "_law_just" ["_law_e"] (fun ea=>Sp1M (φjust K t ea))):FnOk P w K mg base CX0 10 f fd ["_law_office_here"] (Sp1 (φtold K t)):=by
 refine F.ok sc_l_told Wp (fun cdv A outer s H vs Q E hr h=>?_);obtain ⟨_,rfl,p,rs,gg,S,en,rfl,hO,hRO,G,hFin,q,qb⟩:=h;refine ⟨_,((Qd (N1 (i:=2) Us Us Us ⟨rfl,rfl,rfl⟩ rfl T.cV rfl T.cW rfl T.cX sc_l_told.nd rfl rfl (LI (i:=1) sc_l_told.nd rfl (Or.inl rfl) (LH fR (hrm hr) rfl rfl (Qa (pu 0) Qc))) (fun ea=>(Qg (Qu (QA (Qa Q5 (Qa (Y5 K rfl (pu 2)) (Qa ZF (Qa (KO cE (hr.hand ea (by decide)) rfl (Qa (pu 2) Qc)) Qc)))))))) (fun ea=>(Qg (Qu (QA (Qa Q5 (Qa (Y5 K rfl (pu 2)) (Qa ZF (Qa (KO cE (hr.hand ea (by decide)) rfl (Qa (pu 2) Qc)) Qc)))))))) (fun ea=>(Qg (Qu (QA (Qa Q5 (Qa (Y5 K rfl (pu 2)) (Qa (Y5 K rfl (pu 2)) (Qa (KO cE (hr.hand ea (by decide)) rfl (Qa (pu 2) Qc)) Qc)))))))))
   (Qg (Qu (QA (Qa Q5 (Qa (pu 1) (Qa ZF (Qa Z1 Qc))))))))),?_⟩
 have jt:JC K t t.aD true false false:=⟨T.dQ,T.dB,T.dC,T.iJ,T.iK,T.iL,T.iF,T.iG,T.iI,T.iM,T.iD,T.iC,T.iE,T.iH,T.iN,T.iO,T.jM⟩
 have jj:JC K t t.aB false true false:=⟨T.dR,T.dD,T.dE,T.iX,T.iY,T.iZ,T.iS,T.iT,T.iW,T.j6,T.iQ,T.iP,T.iR,T.iV,T.j7,T.j8,T.jN⟩
 have jw:JC K t t.aA false false true:=⟨T.cY,T.bM,T.dF,T.jG,T.jH,T.jI,T.jC,T.jD,T.jF,T.jJ,T.jA,T.j9,T.jB,T.jE,T.jK,T.jL,T.jO⟩
 nofun;simp only [Ld];nofun;refine ⟨p,rs,gg,S,en,rfl,hO,hRO,G,hFin,fun ee l vs H1 hl g1 kl hB=>?_,fun z ee d H1 g1 xb=>?_⟩
 ·nofun;refine ⟨by show 4<=sizeLine;decide,fun pt hpt=>?_⟩;have n2:=Qi hpt (.tup [.str (Str.ofString "told"),.ref l,.non,.bl true]);exact q ee pt l vs _ (g1.trans n2) hl (SqT.of Qe) (n2 _ _ kl) (hB.imp fun _ _ h=>h.same n2)
 ·have qb:=qb z ee;have bad:=(hFin.bd z ee).2;obtain ⟨l,fs,h1,h2,h3,h4,h5⟩:=xb;cases hb:bt rs (kOf gg (rs.map (·.nm)) (gg z)) with
  | al=>rw [hb] at bad;cases bad
  | rg _ _=>rw [hb] at bad;cases bad
  | tg=>
   rw [hb] at h4 h5 qb;rw [show BT.cl t BT.tg=t.aD from rfl];refine ⟨true,T.hZ,?_⟩;rw [Fk rfl];intro e he;generalize e_n2:upd H1 e _=H2 at *;obtain ⟨n2,ke⟩:=nwH he e_n2;have ke:H2 e=some (.ext (ExcD e (.ref t.aD) (some d))):=ke;simp only [Wg];nofun;refine ⟨e,t.aD,d,fs,.ref l,rfl,ke,n2 _ _ h1,T.dQ,T.dB,T.dC,h2,?_⟩;nofun;refine ⟨t.aD,d,l,true,false,false,fs,_,rfl,ke,jt,by decide,n2 _ _ h1,h2,n2 _ _ h4,fun H3 g3=>?_⟩;nofun;refine ⟨by show 4<=sizeLine;decide,fun pt hpt=>?_⟩;have n4:=Qi hpt (.tup [.str (Str.ofString "tangled"),.ref l,.non,.bl true]);exact qb pt l .non _ (g1.trans (n2.trans (g3.trans n4))) h3 (SqT.of Qe) ((n2.trans (g3.trans n4)) _ _ h4) rfl
  | jp ts=>
   rw [hb] at h4 h5 qb;rw [show BT.cl t (BT.jp ts)=t.aB from rfl];refine ⟨false,T.i7,?_⟩;rw [Fh (by decide)];refine ⟨true,T.i8,?_⟩;rw [Fk rfl];intro e he;generalize e_n2:upd H1 e _=H2 at *;obtain ⟨n2,ke⟩:=nwH he e_n2;have ke:H2 e=some (.ext (ExcD e (.ref t.aB) (some d))):=ke;simp only [Wg];nofun;refine ⟨e,t.aB,d,fs,.ref l,rfl,ke,n2 _ _ h1,T.dR,T.dD,T.dE,h2,?_⟩;nofun;refine ⟨t.aB,d,l,false,true,false,fs,_,rfl,ke,jj,by decide,n2 _ _ h1,h2,n2 _ _ h4,fun H3 g3=>?_⟩;nofun;refine ⟨by show 4<=sizeLine;decide,fun pt hpt=>?_⟩;have n4:=Qi hpt (.tup [.str (Str.ofString "jumps"),.ref l,.non,.bl true]);exact qb pt l .non _ (g1.trans (n2.trans (g3.trans n4))) h3 (SqT.of Qe) ((n2.trans (g3.trans n4)) _ _ h4) rfl
  | wd ts r=>
   rw [hb] at h4 h5 qb;rw [show BT.cl t (BT.wd ts r)=t.aA from rfl];obtain ⟨v,v1,v2⟩:=h5 r rfl;refine ⟨false,T.i9,?_⟩;rw [Fh (by decide)];refine ⟨false,T.iA,?_⟩;rw [Fh (by decide)];refine ⟨T.iB,fun e he=>?_⟩;generalize e_n2:upd H1 e _=H2 at *;obtain ⟨n2,ke⟩:=nwH he e_n2;have ke:H2 e=some (.ext (ExcD e (.ref t.aA) (some d))):=ke;simp only [Wg];nofun;refine ⟨e,t.aA,d,fs,.ref l,rfl,ke,n2 _ _ h1,T.cY,T.bM,T.dF,h2,?_⟩;nofun;refine ⟨e,t.aA,d,fs,v,rfl,ke,n2 _ _ h1,T.cY,T.bM,T.dX,v1,?_⟩;nofun;refine ⟨t.aA,d,l,false,false,true,fs,_,rfl,ke,jw,by decide,n2 _ _ h1,h2,n2 _ _ h4,fun H3 g3=>?_⟩;nofun;refine ⟨by show 4<=sizeLine;decide,fun pt hpt=>?_⟩;have n4:=Qi hpt (.tup [.str (Str.ofString "widens"),.ref l,v,.bl true]);exact qb pt l v _ (g1.trans (n2.trans (g3.trans n4))) h3 (SqT.of Qe) ((n2.trans (g3.trans n4)) _ _ h4) (v2.same (n2.trans (g3.trans n4)))
structure Pk (ak:List Str) (m:Nat) (af:List (Bool×List Int)) (ib:Nat) (bad:List Int) (way c:Int) (rs:List Rw):Prop where
 nl:ak.length=8
 nd:ak.Nodup
 hm:m<=8
 rn:rs.map (·.nm)=ak.take m
 pm:(af.map (·.2)).flatten.Perm ((List.range m).map fun (i:Nat)=>(i:Int))
 ne:∀ s∈af,s.2≠[]
 sb:af[ib]?=some (true,bad)
 q:∀ (k:Nat) r,rs[k]?=some r->RwQ ak af bad way c k r
section
variable {ak:List Str} {m:Nat} {af:List (Bool×List Int)} {ib:Nat} {bad:List Int} {way c:Int} {rs:List Rw} (Z:Pk ak m af ib bad way c rs)
include Z
theorem Pk.fnd:((af.map (·.2)).flatten).Nodup:=Z.pm.nodup_iff.mpr (List.pairwise_map.mpr (List.nodup_range.imp fun h e=>h (Int.ofNat.inj e)))
theorem Pk.len:rs.length=m:=by
 have:=congrArg List.length Z.rn;rw [Fi,FN,Z.nl] at this;have:=Z.hm;omega
theorem Pk.in_ {s:Bool×List Int}(h:af[i]?=some s) {k:Int}(hk:k∈s.2):∃ n:Nat,k=n/\n<m:=by
 have:k∈(af.map (·.2)).flatten:=Do.mpr ⟨s.2,List.mem_map_of_mem (Fu h),hk⟩;obtain ⟨n,hn,e⟩:=Fw.mp (Z.pm.mem_iff.mp this);exact ⟨n,e.symm,List.mem_range.mp hn⟩
theorem Pk.at_ (h:n<m):ak[n]?=some (nmJ ak n):=by
 have hn:n<ak.length:=by rw [Z.nl];have:=Z.hm;omega
 rw [K0 (Fj hn)];exact Fj hn
theorem Pk.mem_ (h:n<m):nmJ ak n∈rs.map (·.nm):=by rw [Z.rn];exact Pa (Z.at_ h) h
theorem Pk.inj {n':Nat}(h:n<m) (h':n'<m) (e:nmJ ak n=nmJ ak n'):n=n':=by
 have a:=Z.at_ h;have b:=Z.at_ h';rw [e] at a;have l1:=Qx a;have l2:=Qx b;exact (List.getElem_inj (h₀:=l1) (h₁:=l2) Z.nd).mp (Fy ((Fj l1).symm.trans (a.trans (b.symm.trans (Fj l2)))))
theorem Pk.injI {i':Nat}{s s':Bool×List Int}(h:af[i]?=some s) (h':af[i']?=some s') {k k':Int}(hk:k∈s.2) (hk':k'∈s'.2) (e:nmJ ak k=nmJ ak k'):k=k':=by
 obtain ⟨n,rfl,n1⟩:=Z.in_ h hk;obtain ⟨n',rfl,n2⟩:=Z.in_ h' hk';rw [Z.inj n1 n2 e]
theorem Pk.one {i':Nat}{s s':Bool×List Int}(h:af[i]?=some s) (h':af[i']?=some s') {k:Int}(hk:k∈s.2) (hk':k∈s'.2):i=i':=by
 have pw:=(List.pairwise_flatten.mp Z.fnd).2;have key:∀ (a b:Nat) (sa sb:Bool×List Int),a<b->af[a]?=some sa->af[b]?=some sb->k∈sa.2->k∈sb.2->False:=fun a b sa sb lt ha hb h1 h2=>by
  have la:a<(af.map (·.2)).length:=by rw [Fi];exact Qx ha
  have lb:b<(af.map (·.2)).length:=by rw [Fi];exact Qx hb
  have:=List.pairwise_iff_getElem.mp pw a b la lb lt;have ea:(af.map (·.2))[a]=sa.2:=by
   have:=Fj la;rw [Fv,ha] at this;exact (Fy this).symm
  have eb:(af.map (·.2))[b]=sb.2:=by
   have:=Fj lb;rw [Fv,hb] at this;exact (Fy this).symm
  rw [ea,eb] at this;exact this k h1 k h2 rfl
 rcases Nat.lt_trichotomy i i' with lt | e | lt
 ·exact (key _ _ _ _ lt h h' hk hk').elim
 ·exact e
 ·exact (key _ _ _ _ lt h' h hk' hk).elim
theorem Pk.pnd {s:Bool×List Int}(h:af[i]?=some s):s.2.Nodup:=(List.pairwise_flatten.mp Z.fnd).1 s.2 (List.mem_map_of_mem (Fu h))
theorem Pk.bad_ {ring:Bool}(h:af[i]?=some (ring,aj)) (e:aj=bad):ring=true/\i=ib:=by
 subst e;obtain ⟨k,hk⟩:=List.exists_mem_of_ne_nil _ (Z.ne _ (Fu h));have:=Z.one h Z.sb hk hk;subst this;have z:=Z.sb;rw [h] at z;cases z;exact ⟨rfl,rfl⟩
end
def pN (ak:List Str) (aj:List Int):List Str:=aj.map (nmJ ak)
def sgI (ak:List Str) (af:List (Bool×List Int)) (x:Str):Nat:=af.findIdx fun s=>decide (x∈pN ak s.2)
section
variable {ak:List Str} {m:Nat} {af:List (Bool×List Int)} {ib:Nat} {bad:List Int} {way c:Int} {rs:List Rw} (Z:Pk ak m af ib bad way c rs)
include Z
theorem Pk.sg {s:Bool×List Int}(h:af[i]?=some s) {k:Int}(hk:k∈s.2):sgI ak af (nmJ ak k)=i:=by
 unfold sgI;have hi:=Qx h;have ex:∃ s∈af,decide (nmJ ak k∈pN ak s.2)=true:=⟨s,Fu h,FT (List.mem_map_of_mem hk)⟩
 have lt:=List.findIdx_lt_length_of_exists ex;have hg:=List.findIdx_getElem (w:=lt);have hm:=EO hg;obtain ⟨k',hk',e⟩:=Fw.mp hm;have:=Z.injI h (Fj lt) hk hk' e.symm;subst this;exact (Z.one h (Fj lt) hk hk').symm
theorem Pk.earl_ (h:y∈(earl af i).map (nmJ ak)):∃ (i':Nat) (s:Bool×List Int) (k:Int),i'<i/\af[i']?=some s/\k∈s.2/\y=nmJ ak k:=by
 obtain ⟨k,hk,rfl⟩:=Fw.mp h;obtain ⟨l,hl,hkl⟩:=Do.mp hk;obtain ⟨s,hs,rfl⟩:=Fw.mp hl;obtain ⟨i',hi'⟩:=F4 hs;rw [EU] at hi';split at hi'
 ·exact ⟨i',s,k,by assumption,hi',hkl,rfl⟩
 ·cases hi'
theorem Pk.row {ring:Bool}{k:Int}(h:af[i]?=some (ring,aj)) (hk:aj[j]?=some k):∃ r,r∈rs/\r.nm=nmJ ak k/\(rs.find? fun r=>decide (r.nm=nmJ ak k))=some r/\nbR rs (nmJ ak k)=r.cs.map (·.1)/\RwP ak af bad way c i j ring aj r:=by
 obtain ⟨n,rfl,hn⟩:=Z.in_ h (Fu hk);have hnr:n<rs.length:=by rw [Z.len];exact hn
 have hr:rs[n]?=some rs[n]:=Fj hnr;obtain ⟨q1,i',j',ring',part',s1,s2,s3⟩:=Z.q n _ hr;have rnd:(rs.map (·.nm)).Nodup:=by rw [Z.rn];exact Z.nd.sublist (List.take_sublist _ _)
 have enm:rs[n].nm=nmJ ak n:=by
  rw [Int.toNat_natCast,Z.at_ hn] at q1;exact (Fy q1).symm
 have ei:=Z.one h s1 (Fu hk) (Fu s2);subst ei;rw [h] at s1;cases s1;have ej:j=j':=(List.getElem_inj (h₀:=Qx hk) (h₁:=Qx s2) (Z.pnd h)).mp (by
  have a:=Fj (Qx hk);have b:=Fj (Qx s2);rw [hk] at a;rw [s2] at b;exact (Fy a).symm.trans (Fy b))
 subst ej;refine ⟨rs[n],Fu hr,enm,?_,?_,s3⟩
 ·rw [<-enm];exact U5 rnd hr
 ·rw [<-enm];exact Jx rnd hr
theorem Pk.place (h:x∈rs.map (·.nm)):∃ (i j:Nat) (ring:Bool) (aj:List Int) (k:Int),af[i]?=some (ring,aj)/\aj[j]?=some k/\x=nmJ ak k:=by
 obtain ⟨r,hr,rfl⟩:=Fw.mp h;obtain ⟨n,hn⟩:=F4 hr;obtain ⟨q1,i,j,ring,aj,s1,s2,_⟩:=Z.q n r hn;have hm':n<m:=by rw [<-Z.len];exact Qx hn
 rw [Int.toNat_natCast,Z.at_ hm'] at q1;exact ⟨i,j,ring,aj,n,s1,s2,(Fy q1).symm⟩
end
inductive CnN (ak:List Str) (af:List (Bool×List Int)) (bad:List Int) (way c:Int) (i j:Nat) (ring:Bool) (aj:List Int) (ns:List Str):Prop
 | no (h:ring=false) (h1:ns.Sublist ((earl af i).map (nmJ ak))):CnN ak af bad way c i j ring aj ns
 | rg (h:ring=true) (cs0:List Str) (k:Nat) (h1:cs0.Sublist ((earl af i).map (nmJ ak))) (h2:ns=cs0.take k++nmJ ak (aj.getD ((j+1) % aj.length) 0) :: cs0.drop k) (h3:aj=bad->(tgB way&&(hrB c aj.length j&&decide (1<aj.length)))=false):CnN ak af bad way c i j ring aj ns
 | tg (h:ring=true) (cs0 n0:List Str) (k k2:Nat) (h1:cs0.Sublist ((earl af i).map (nmJ ak))) (h2:n0=cs0.take k++nmJ ak (aj.getD ((j+1) % aj.length) 0) :: cs0.drop k) (h3:ns=n0.take k2++nmJ ak (moJ c aj j) :: n0.drop k2) (h4:aj=bad) (h5:(tgB way&&(hrB c aj.length j&&decide (1<aj.length)))=true):CnN ak af bad way c i j ring aj ns
section
variable {ak:List Str} {m:Nat} {af:List (Bool×List Int)} {ib:Nat} {bad:List Int} {way c:Int} {rs:List Rw} (Z:Pk ak m af ib bad way c rs)
include Z
theorem Pk.cn {ring:Bool}{r:Rw}(h:af[i]?=some (ring,aj)) (hr:RwP ak af bad way c i j ring aj r):CnN ak af bad way c i j ring aj (r.cs.map (·.1)):=by
 obtain ⟨r0,rb,e1,e2,e3⟩:=hr;cases ring with
 | false=>
  have nb:aj≠bad:=fun e=>by have:=(Z.bad_ h e).1;cases this
  rw [e2 nb];exact .no rfl (rb.no rfl)
 | true=>
  obtain ⟨cs0,k,q,h1,h2,_⟩:=rb.rg rfl;have en:r0.cs.map (·.1)=(cs0.map (·.1)).take k++nmJ ak (aj.getD ((j+1) % aj.length) 0) :: (cs0.map (·.1)).drop k:=by
   rw [h1,Fx,F3,List.map_take,List.map_drop]
  by_cases eb:aj=bad
  ·have sp:=e3 eb;obtain ⟨cs1,c1,_,_,_,c5,c6⟩:=sp.cs;cases ht:(tgB way&&(hrB c aj.length j&&decide (1<aj.length))) with
   | false=>
    rw [c5 ht,c1,en];exact .rg rfl _ k h2 rfl (fun _=>ht)
   | true=>
    obtain ⟨k2,q2,c7,_⟩:=c6 ht;rw [c7,Fx,F3,List.map_take,List.map_drop,c1];exact .tg rfl _ _ k k2 h2 en rfl eb ht
  ·rw [e2 eb,en];exact .rg rfl _ k h2 rfl (fun e=>absurd e eb)
theorem Pk.nx_in {ring:Bool}(h:af[i]?=some (ring,aj)):∃ n:Nat,n<aj.length/\n=(j+1) % aj.length/\aj[n]?=some (aj.getD ((j+1) % aj.length) 0):=by
 have hp:0<aj.length:=De.mpr (Z.ne _ (Fu h));have hl:=Nat.mod_lt (j+1) hp;exact ⟨_,hl,rfl,by rw [FO,Fj hl];rfl⟩
theorem Pk.mo_in {ring:Bool}(h:af[i]?=some (ring,aj)) (h1:1<aj.length):moJ c aj j∈aj/\(j<aj.length->moJ c aj j≠aj.getD ((j+1) % aj.length) 0):=by
 have u0:=FM ((j:Int)+2+c.fdiv 8 % ((aj.length:Int)-1)) (show (aj.length:Int)≠0 by omega);have u1:=FP ((j:Int)+2+c.fdiv 8 % ((aj.length:Int)-1)) (show 0<(aj.length:Int) by omega);have v0:=FM (c.fdiv 8) (show ((aj.length:Int)-1)≠0 by omega);have v1:=FP (c.fdiv 8) (show 0<((aj.length:Int)-1) by omega);have gl:(((j:Int)+2+c.fdiv 8 % ((aj.length:Int)-1)) % (aj.length:Int)).toNat<aj.length:=by omega
 have eg:aj[(((j:Int)+2+c.fdiv 8 % ((aj.length:Int)-1)) % (aj.length:Int)).toNat]?=some (moJ c aj j):=by
  unfold moJ;rw [FO,Fj gl];rfl
 refine ⟨Fu eg,fun hj e=>?_⟩;obtain ⟨n,n1,n2,n3⟩:=Z.nx_in (j:=j) h;rw [<-e] at n3;have:=(List.getElem_inj (h₀:=gl) (h₁:=n1) (Z.pnd h)).mp (by
  have a:=Fj gl;have b:=Fj n1;rw [eg] at a;rw [n3] at b;exact (Fy a).symm.trans (Fy b))
 rw [n2] at this;generalize c.fdiv 8 % ((aj.length:Int)-1)=e8 at *;obtain ⟨e9,rfl⟩:=Ep v0;have ec:(((j:Int)+2+(e9:Int)) % (aj.length:Int)).toNat=(j+2+e9) % aj.length:=by
  rw [show (j:Int)+2+(e9:Int)=((j+2+e9:Nat):Int) by omega,<-Int.natCast_emod,Int.toNat_natCast]
 rw [ec] at this;have d:=Nat.div_add_mod (j+2+e9) aj.length;have d':=Nat.div_add_mod (j+1) aj.length;have w:aj.length*((j+2+e9) / aj.length)=aj.length*((j+1) / aj.length)+(1+e9):=by omega
 have:aj.length ∣ 1+e9:=by
  refine (Nat.dvd_add_right (Nat.dvd_mul_right aj.length ((j+1) / aj.length))).mp ?_;rw [<-w];exact Nat.dvd_mul_right _ _
 have:=Nat.le_of_dvd (by omega) this;omega
theorem Pk.low {ring:Bool}{ns:List Str}(h:af[i]?=some (ring,aj)) (hc:CnN ak af bad way c i j ring aj ns):∀ y∈ns,(∃ (i':Nat) (s:Bool×List Int) (k:Int),i'<i/\af[i']?=some s/\k∈s.2/\y=nmJ ak k)∨(ring=true/\∃ k∈aj,y=nmJ ak k):=by
 have base:∀ (cs0:List Str) (k:Nat),cs0.Sublist ((earl af i).map (nmJ ak))->∀ y∈cs0.take k++nmJ ak (aj.getD ((j+1) % aj.length) 0) :: cs0.drop k,(∃ (i':Nat) (s:Bool×List Int) (k:Int),i'<i/\af[i']?=some s/\k∈s.2/\y=nmJ ak k)∨(∃ k∈aj,y=nmJ ak k):=fun cs0 k hs y hy=>by
  rcases FK.mp hy with h' | h'
  ·exact .inl (Z.earl_ (hs.subset (List.mem_of_mem_take h')))
  ·rcases FF.mp h' with rfl | h'
   ·obtain ⟨n,_,_,n3⟩:=Z.nx_in (j:=j) h;exact .inr ⟨_,Fu n3,rfl⟩
   ·exact .inl (Z.earl_ (hs.subset (List.mem_of_mem_drop h')))
 cases hc with
 | no h0 h1=>exact fun y hy=>.inl (Z.earl_ (h1.subset hy))
 | rg h0 cs0 k h1 h2 _=>
  subst h2;exact fun y hy=>(base cs0 k h1 y hy).imp id fun h=>⟨h0,h⟩
 | tg h0 cs0 n0 k k2 h1 h2 h3 _ h5=>
  subst h3;intro y hy;have hb:y∈n0∨y=nmJ ak (moJ c aj j):=by
   rcases FK.mp hy with h' | h'
   ·exact .inl (List.mem_of_mem_take h')
   ·rcases FF.mp h' with rfl | h'
    ·exact .inr rfl
    ·exact .inl (List.mem_of_mem_drop h')
  rcases hb with hb | rfl
  ·subst h2;exact (base cs0 k h1 y hb).imp id fun h=>⟨h0,h⟩
  ·have l1:1<aj.length:=by
    simp only [Eb,F9] at h5;exact h5.2.2
   exact .inr ⟨h0,_,(Z.mo_in (j:=j) h l1).1,rfl⟩
end
theorem Mt {l:List α}{x:α}{k:Nat}(h:l.Nodup) (hx:x ∉ l):(l.take k++x :: l.drop k).Nodup:=by
 refine List.perm_middle.nodup_iff.mpr (Ex.mpr ⟨?_,?_⟩)
 ·rw [Es];exact hx
 ·rw [Es];exact h
section
variable {ak:List Str} {m:Nat} {af:List (Bool×List Int)} {ib:Nat} {bad:List Int} {way c:Int} {rs:List Rw} (Z:Pk ak m af ib bad way c rs)
include Z
theorem Pk.end_ (hi:i<af.length):((earl af i).map (nmJ ak)).Nodup:=by
 have e:(af.map (·.2)).flatten=earl af i++((af.drop i).map (·.2)).flatten:=by unfold earl;rw [<-Dc,<-Fx,Es]
 have h1:=Z.fnd;rw [e] at h1;refine List.pairwise_map.mpr ((Ds.mp h1).1.imp_of_mem fun {a b} ha hb ne e'=>ne ?_);obtain ⟨i1,s1,k1,_,h1',m1,e1⟩:=Z.earl_ (i:=i) (List.mem_map_of_mem (f:=nmJ ak) ha);obtain ⟨l,hl,hal⟩:=Do.mp ha;obtain ⟨s,hs,rfl⟩:=Fw.mp hl;obtain ⟨l',hl',hbl⟩:=Do.mp hb;obtain ⟨s',hs',rfl⟩:=Fw.mp hl';obtain ⟨a1,ha1⟩:=F4 (List.mem_of_mem_take hs);obtain ⟨b1,hb1⟩:=F4 (List.mem_of_mem_take hs');exact Z.injI ha1 hb1 hal hbl e'
theorem Pk.out {ring:Bool}(h:af[i]?=some (ring,aj)) {k:Int}(hk:k∈aj):nmJ ak k ∉ (earl af i).map (nmJ ak):=fun hm=>by
 obtain ⟨i',s,k',lt,h1,h2,e⟩:=Z.earl_ hm;have:=Z.injI h h1 hk h2 e;subst this;have:=Z.one h h1 hk h2;omega
theorem Pk.cnd {ring:Bool}{ns:List Str}(h:af[i]?=some (ring,aj)) (hj:j<aj.length) (hc:CnN ak af bad way c i j ring aj ns):ns.Nodup:=by
 have en:=Z.end_ (Qx h);have base:∀ (cs0:List Str) (k:Nat),cs0.Sublist ((earl af i).map (nmJ ak))->(cs0.take k++nmJ ak (aj.getD ((j+1) % aj.length) 0) :: cs0.drop k).Nodup:=fun cs0 k hs=>by
  obtain ⟨n,_,_,n3⟩:=Z.nx_in (j:=j) h;exact Mt (en.sublist hs) fun hm=>Z.out h (Fu n3) (hs.subset hm)
 cases hc with
 | no h0 h1=>exact en.sublist h1
 | rg h0 cs0 k h1 h2 _=>subst h2;exact base cs0 k h1
 | tg h0 cs0 n0 k k2 h1 h2 h3 _ h5=>
  subst h3;subst h2;have l1:1<aj.length:=by
   simp only [Eb,F9] at h5;exact h5.2.2
  obtain ⟨m1,m2⟩:=Z.mo_in (j:=j) h l1;refine Mt (base cs0 k h1) fun hm=>?_
  rcases FK.mp hm with h' | h'
  ·exact Z.out h m1 (h1.subset (List.mem_of_mem_take h'))
  ·rcases FF.mp h' with e | h'
   ·obtain ⟨n,_,_,n3⟩:=Z.nx_in (j:=j) h;exact m2 hj (Z.injI h h m1 (Fu n3) e)
   ·exact Z.out h m1 (h1.subset (List.mem_of_mem_drop h'))
theorem Pk.rok:ROk rs:=by
 have rnd:(rs.map (·.nm)).Nodup:=by rw [Z.rn];exact Z.nd.sublist (List.take_sublist _ _)
 have fact:∀ r∈rs,∃ (i j:Nat) (ring:Bool) (aj:List Int) (k:Int),af[i]?=some (ring,aj)/\aj[j]?=some k/\RwP ak af bad way c i j ring aj r:=fun r hr=>by
  obtain ⟨n,hn⟩:=F4 hr;obtain ⟨_,i,j,ring,aj,s1,s2,s3⟩:=Z.q n r hn;exact ⟨i,j,ring,aj,_,s1,s2,s3⟩
 have sz:∀ r∈rs,r.cs.length<=60/\(∀ c∈r.cs,0<=c.2/\RB 14 c.2)/\(∀ o∈r.os,0<=o.2/\RB 14 o.2)/\r.os.length<=60:=fun r hr=>by
  obtain ⟨i,j,ring,aj,k,s1,s2,r0,rb,_,e2,e3⟩:=fact r hr;by_cases eb:aj=bad
  ·have sp:=e3 eb;obtain ⟨cs1,c1,_,_,c4,c5,c6⟩:=sp.cs;have cl1:cs1.length<=50:=by
    have:=congrArg List.length c1;rw [Fi,Fi] at this;have:=rb.cl;omega
   obtain ⟨_,_,o3,o4⟩:=sp.os;cases ht:(tgB way&&(hrB c aj.length j&&decide (1<aj.length))) with
   | false=>rw [c5 ht];exact ⟨by omega,c4,o3,by omega⟩
   | true=>
    obtain ⟨k2,q2,c7,c8,c9⟩:=c6 ht;rw [c7];refine ⟨by simp;omega,fun q hq=>?_,o3,by omega⟩;rcases FK.mp hq with h | h
    ·exact c4 q (List.mem_of_mem_take h)
    ·rcases FF.mp h with rfl | h
     ·exact ⟨c8,c9⟩
     ·exact c4 q (List.mem_of_mem_drop h)
  ·rw [e2 eb];exact ⟨by have:=rb.cl;omega,rb.cs,fun o ho=>⟨(rb.os o ho).1,(rb.os o ho).2.1⟩,by have:=rb.ol;omega⟩
 refine ⟨⟨rnd,by rw [Z.len];exact Z.hm,fun r hr=>(sz r hr).1,fun r hr=>?_,fun r hr q hq=>?_⟩,fun r hr=>(sz r hr).2⟩
 ·obtain ⟨i,j,ring,aj,k,s1,s2,s3⟩:=fact r hr;exact Z.cnd s1 (Qx s2) (Z.cn s1 s3)
 ·obtain ⟨i,j,ring,aj,k,s1,s2,s3⟩:=fact r hr;rcases Z.low s1 (Z.cn s1 s3) q.1 (List.mem_map_of_mem hq) with ⟨i',s,k',_,h1,h2,e⟩ | ⟨_,k',h2,e⟩
  ·obtain ⟨n,rfl,hn⟩:=Z.in_ h1 h2;rw [e];exact Z.mem_ hn
  ·obtain ⟨n,rfl,hn⟩:=Z.in_ s1 h2;rw [e];exact Z.mem_ hn
theorem Pk.step {ring:Bool}{k:Int}(h:af[i]?=some (ring,aj)) (hk:aj[j]?=some k) {y:Str}(hy:y∈nbR rs (nmJ ak k)):y∈rs.map (·.nm)/\(sgI ak af y<i∨(sgI ak af y=i/\ring=true/\y∈pN ak aj)):=by
 obtain ⟨r,_,_,_,e,hr⟩:=Z.row h hk;rw [e] at hy;rcases Z.low h (Z.cn h hr) y hy with ⟨i',s,k',lt,h1,h2,rfl⟩ | ⟨hr,k',h2,rfl⟩
 ·obtain ⟨n,rfl,hn⟩:=Z.in_ h1 h2;exact ⟨Z.mem_ hn,.inl (by rw [Z.sg h1 h2];exact lt)⟩
 ·obtain ⟨n,rfl,hn⟩:=Z.in_ h h2;exact ⟨Z.mem_ hn,.inr ⟨Z.sg h h2,hr,List.mem_map_of_mem h2⟩⟩
theorem Pk.rc (hx:x∈rs.map (·.nm)) (h:Rc (nbR rs) (nbR rs x) y):y∈rs.map (·.nm)/\sgI ak af y<=sgI ak af x:=by
 induction h with
 | start a=>
  obtain ⟨i,j,ring,aj,k,s1,s2,rfl⟩:=Z.place hx;have:=Z.step s1 s2 a;rw [Z.sg s1 (Fu s2)];exact ⟨this.1,by rcases this.2 with h | h <;> omega⟩
 | step _ a ih=>
  obtain ⟨i,j,ring,aj,k,s1,s2,e⟩:=Z.place ih.1;rw [e] at a ih;have:=Z.step s1 s2 a;rw [Z.sg s1 (Fu s2)] at ih;exact ⟨this.1,by rcases this.2 with h | h <;> omega⟩
theorem Pk.nx {k:Int}(h:af[i]?=some (true,aj)) (hk:aj[j]?=some k):nmJ ak (aj.getD ((j+1) % aj.length) 0)∈nbR rs (nmJ ak k):=by
 obtain ⟨r,_,_,_,e,hr⟩:=Z.row h hk;rw [e];cases Z.cn h hr with
 | no h0=>cases h0
 | rg _ cs0 k h1 h2 _=>rw [h2];simp
 | tg _ cs0 n0 k k2 h1 h2 h3 _ _=>
  rw [h3];have:nmJ ak (aj.getD ((j+1) % aj.length) 0)∈n0:=by rw [h2];simp
  rw [<-Es k2 n0] at this;rcases FK.mp this with h | h
  ·exact FK.mpr (.inl h)
  ·exact FK.mpr (.inr (FZ _ h))
theorem Pk.round (h:af[i]?=some (true,aj)) {j:Nat}(hj:j<aj.length):∀ d,Rc (nbR rs) (nbR rs (nmJ ak (aj.getD j 0))) (nmJ ak (aj.getD ((j+1+d) % aj.length) 0))
 | 0=>.start (Z.nx h (by rw [FO,Fj hj];rfl))
 | d+1=>by
  have ih:=Pk.round h hj d;have hl:=Nat.mod_lt (j+1+d) (show 0<aj.length by omega);have:=Z.nx h (j:=(j+1+d) % aj.length) (k:=aj.getD ((j+1+d) % aj.length) 0) (by rw [FO,Fj hl];rfl);rw [Nat.mod_add_mod] at this;exact .step ih this
theorem Pk.reach (h:af[i]?=some (true,aj)) {k k':Int}(hk:k∈aj) (hk':k'∈aj):Rc (nbR rs) (nbR rs (nmJ ak k)) (nmJ ak k'):=by
 obtain ⟨j,hj⟩:=F4 hk;obtain ⟨j',hj'⟩:=F4 hk';have l1:=Qx hj;have l2:=Qx hj';have:=Z.round h l1 (j'+(aj.length-1-j));rw [ZP hj,show j+1+(j'+(aj.length-1-j))=j'+aj.length by omega,Nat.add_mod_right,EV l2,ZP hj'] at this;exact this
theorem Pk.knot (G:Gq (nbR rs) (rs.map (·.nm)) gg) {i:Nat}{aj:List Int}(h:af[i]?=some (true,aj)) {k:Int}(hk:k∈aj):kOf gg (rs.map (·.nm)) (gg (nmJ ak k))=(rs.map (·.nm)).filter fun o=>decide (o∈pN ak aj):=by
 obtain ⟨n,hn1,hn⟩:=Z.in_ h hk;have km:nmJ ak k∈rs.map (·.nm):=by rw [hn1];exact Z.mem_ hn
 unfold kOf;refine List.filter_congr fun o ho=>decide_eq_decide.mpr ⟨fun e=>?_,fun hm=>?_⟩
 ·by_cases eo:o=nmJ ak k
  ·rw [eo];exact List.mem_map_of_mem hk
  ·have mu:=(G.mu ho km eo).mpr e;have a:=(Z.rc ho mu.1).2;have b:=(Z.rc km mu.2).2;obtain ⟨i',j',ring',part',k',s1,s2,rfl⟩:=Z.place ho;rw [Z.sg s1 (Fu s2),Z.sg h hk] at a b;have:i=i':=by omega
   subst this;rw [h] at s1;cases s1;exact List.mem_map_of_mem (Fu s2)
 ·obtain ⟨k',hk',rfl⟩:=Fw.mp hm;by_cases eo:nmJ ak k'=nmJ ak k
  ·rw [eo]
  ·exact (G.mu ho km eo).mp ⟨Z.reach h hk' hk,Z.reach h hk hk'⟩
theorem Pk.lone (G:Gq (nbR rs) (rs.map (·.nm)) gg) {i j:Nat}{aj:List Int}{k:Int}(h:af[i]?=some (false,aj)) (hk:aj[j]?=some k):bt rs (kOf gg (rs.map (·.nm)) (gg (nmJ ak k)))=.al:=by
 refine Gm fun s hs=>?_
 obtain ⟨s1,s2⟩:=kOf_mem.mp hs;have km:=Fu hk;obtain ⟨n,hn1,hn⟩:=Z.in_ h km;have kn:nmJ ak k∈rs.map (·.nm):=by rw [hn1];exact Z.mem_ hn
 have low:∀ y,Rc (nbR rs) (nbR rs (nmJ ak k)) y->sgI ak af y<i:=fun y hy=>by
  induction hy with
  | start a=>
   rcases (Z.step h hk a).2 with h' | ⟨_,h',_⟩
   ·exact h'
   ·cases h'
  | @step x z hx a ih=>
   have xm:=(Z.rc kn hx).1;have:=(Z.rc xm (.start a)).2;omega
 have es:s=nmJ ak k:=Er fun ne=>by
  have mu:=(G.mu s1 kn ne).mpr s2;have a:=low s mu.2;have b:=(Z.rc s1 mu.1).2;rw [Z.sg h km] at b;omega
 subst es;unfold wi;refine Dn.mpr fun y hy hc=>?_
 have hc:y∈kOf gg (rs.map (·.nm)) (gg (nmJ ak k)):=EO hc;obtain ⟨y1,y2⟩:=kOf_mem.mp hc;have lt:=low y (.start hy);by_cases ey:y=nmJ ak k
 ·rw [ey,Z.sg h km] at lt;omega
 ·have mu:=(G.mu y1 kn ey).mpr y2;have b:=(Z.rc y1 mu.1).2;rw [Z.sg h km] at b;omega
end
theorem SU:∀ o∈os,o.2<=gr os:=by
 have gen:∀ (l:List (Int×Rat)) (m:Rat),m<=l.foldl mx m/\∀ o∈l,o.2<=l.foldl mx m:=by
  intro l
  induction l with
  | nil=>intro m;exact ⟨Rat.le_refl,fun r hr=>nomatch hr⟩
  | cons a t ih=>
   intro m;obtain ⟨i1,i2⟩:=ih (mx m a);have a1:m<=mx m a/\a.2<=mx m a:=by unfold mx;split <;> constructor <;> grind
   refine ⟨Dz a1.1 i1,fun r hr=>?_⟩;rcases FF.mp hr with rfl | hr
   ·exact Dz a1.2 i1
   ·exact i2 r hr
 exact (gen os 0).2
theorem UP {rs:List Rw}{ts:List Str}(h:∀ j,j<ts.length->0<=rwt rs (ts.getD j Str.empty) (ts.getD ((j+1) % ts.length) Str.empty)/\rwt rs (ts.getD j Str.empty) (ts.getD ((j+1) % ts.length) Str.empty)<1):∀ k,k<=ts.length->0<=Zo rs ts k/\Zo rs ts k<=1/\(0<k->Zo rs ts k<1)
 | 0,_=>⟨by show (0:Rat)<=1;decide,Rat.le_refl,fun z=>absurd z (by decide)⟩
 | k+1,hk=>by
  obtain ⟨a,b,_⟩:=UP h k (by omega);obtain ⟨f0,f1⟩:=h k (by omega);show 0<=Zo rs ts k*_/\Zo rs ts k*_<=1/\(_->Zo rs ts k*_<1);generalize rwt rs (ts.getD k Str.empty) (ts.getD ((k+1) % ts.length) Str.empty)=f at *;generalize Zo rs ts k=p at *;have m1:=Rat.mul_nonneg a f0;have m2:=Rat.mul_nonneg (show 0<=1-p by grind) f0;exact ⟨m1,by grind,fun _=>by grind⟩
def tgA (bad:List Int) (way c:Int) (aj:List Int) (j:Nat):Bool:=decide (aj=bad)&&(tgB way&&(hrB c aj.length j&&decide (1<aj.length)))
section
variable {ak:List Str} {m:Nat} {af:List (Bool×List Int)} {ib:Nat} {bad:List Int} {way c:Int} {rs:List Rw} (Z:Pk ak m af ib bad way c rs)
include Z
theorem Pk.kmem {ring:Bool}(h:af[i]?=some (ring,aj)) {x:Str}:x∈(rs.map (·.nm)).filter (fun o=>decide (o∈pN ak aj))↔x∈pN ak aj:=by
 rw [F6,F9];refine ⟨fun h=>h.2,fun hx=>⟨?_,hx⟩⟩;obtain ⟨k,hk,rfl⟩:=Fw.mp hx;obtain ⟨n,rfl,hn⟩:=Z.in_ h hk;exact Z.mem_ hn
theorem Pk.pNd {ring:Bool}(h:af[i]?=some (ring,aj)):(pN ak aj).Nodup:=List.pairwise_map.mpr ((Z.pnd h).imp_of_mem fun {a b} ha hb ne e=>ne (Z.injI h h ha hb e))
theorem Pk.klen {ring:Bool}(h:af[i]?=some (ring,aj)):((rs.map (·.nm)).filter (fun o=>decide (o∈pN ak aj))).length=aj.length:=by
 have rnd:(rs.map (·.nm)).Nodup:=by rw [Z.rn];exact Z.nd.sublist (List.take_sublist _ _)
 have a:=Xf (rnd.sublist Dm) fun x hx=>(Z.kmem h).mp hx
 have b:=Xf (Z.pNd h) fun x hx=>(Z.kmem h).mpr hx
 have pl:(pN ak aj).length=aj.length:=Fi _;omega
theorem Pk.fe {ring:Bool}(h:af[i]?=some (ring,aj)) {l:List Str}(hl:∀ y∈l,y∈(earl af i).map (nmJ ak)):l.filter (fun y=>decide (y∈(rs.map (·.nm)).filter (fun o=>decide (o∈pN ak aj))))=[]:=by
 refine Dn.mpr fun y hy hc=>?_
 have hc:=(Z.kmem h).mp (EO hc);obtain ⟨k,hk,rfl⟩:=Fw.mp hc;exact Z.out h hk (hl _ hy)
theorem Pk.wi_ {k:Int}(h:af[i]?=some (true,aj)) (hk:aj[j]?=some k):(tgA bad way c aj j=false->wi (nbR rs) ((rs.map (·.nm)).filter (fun o=>decide (o∈pN ak aj))) (nmJ ak k)=[nmJ ak (aj.getD ((j+1) % aj.length) 0)])/\(tgA bad way c aj j=true->1<(wi (nbR rs) ((rs.map (·.nm)).filter (fun o=>decide (o∈pN ak aj))) (nmJ ak k)).length):=by
 obtain ⟨r,_,_,_,e,hr⟩:=Z.row h hk;unfold wi;rw [e];obtain ⟨n,_,_,n3⟩:=Z.nx_in (j:=j) h;have nin:decide (nmJ ak (aj.getD ((j+1) % aj.length) 0)∈(rs.map (·.nm)).filter (fun o=>decide (o∈pN ak aj)))=true:=FT ((Z.kmem h).mpr (List.mem_map_of_mem (Fu n3)));have base:∀ (cs0:List Str) (k:Nat),cs0.Sublist ((earl af i).map (nmJ ak))->(cs0.take k++nmJ ak (aj.getD ((j+1) % aj.length) 0) :: cs0.drop k).filter (fun y=>decide (y∈(rs.map (·.nm)).filter (fun o=>decide (o∈pN ak aj))))=[nmJ ak (aj.getD ((j+1) % aj.length) 0)]:=fun cs0 k hs=>by
  rw [Et,ED (p:=fun y=>decide (y∈(rs.map (·.nm)).filter (fun o=>decide (o∈pN ak aj)))) nin,Z.fe h fun y hy=>hs.subset (List.mem_of_mem_take hy),Z.fe h fun y hy=>hs.subset (List.mem_of_mem_drop hy)];rfl
 cases Z.cn h hr with
 | no h0=>cases h0
 | rg _ cs0 k' h1 h2 h3=>
  rw [h2];refine ⟨fun _=>base cs0 k' h1,fun ht=>?_⟩;unfold tgA at ht;rw [Eb,F9] at ht;rw [h3 ht.1] at ht;cases ht.2
 | tg _ cs0 n0 k' k2 h1 h2 h3 h4 h5=>
  refine ⟨fun ht=>?_,fun _=>?_⟩
  ·unfold tgA at ht;rw [FT h4,h5] at ht;cases ht
  ·have l1:1<aj.length:=by
    simp only [Eb,F9] at h5;exact h5.2.2
   have mi:decide (nmJ ak (moJ c aj j)∈(rs.map (·.nm)).filter (fun o=>decide (o∈pN ak aj)))=true:=FT ((Z.kmem h).mpr (List.mem_map_of_mem (Z.mo_in (j:=j) h l1).1));rw [h3,Et,ED (p:=fun y=>decide (y∈(rs.map (·.nm)).filter (fun o=>decide (o∈pN ak aj)))) mi];have b:=congrArg List.length (base cs0 k' h1);rw [<-h2] at b;rw [<-Es k2 n0,Et,Fo,Fz] at b;rw [Fo,El];omega
theorem Pk.ring (h:af[i]?=some (true,aj)) (nt:∀ j,j<aj.length->tgA bad way c aj j=false) {t:Nat}{f:Str}{kt:List Str}(ht:t<aj.length) (hf:f=nmJ ak (aj.getD t 0)) (hk:(rs.map (·.nm)).filter (fun o=>decide (o∈pN ak aj))=f :: kt):rgo (nbR rs) ((rs.map (·.nm)).filter (fun o=>decide (o∈pN ak aj)))=rt (pN ak aj) t:=by
 have pl:(pN ak aj).length=aj.length:=Fi _;have gd:∀ n,n<aj.length->(pN ak aj).getD n Str.empty=nmJ ak (aj.getD n 0):=fun n hn=>by
  unfold pN;rw [FO,Fv,FO,Fj hn];rfl
 have it:∀ d,itO (nbR rs) ((rs.map (·.nm)).filter (fun o=>decide (o∈pN ak aj))) f d=nmJ ak (aj.getD ((t+d) % aj.length) 0):=by
  intro d
  induction d with
  | zero=>rw [Nat.add_zero,EV ht,hf];rfl
  | succ d ih=>
   show nxO _ _ (itO _ _ f d)=_;rw [ih];have hl:=Nat.mod_lt (t+d) (show 0<aj.length by omega);unfold nxO;rw [(Z.wi_ h (j:=(t+d) % aj.length) (k:=aj.getD ((t+d) % aj.length) 0) (by rw [FO,Fj hl];rfl)).1 (nt _ hl),Nat.mod_add_mod];rfl
 unfold rgo rt;rw [Z.klen h,pl,hk];refine List.map_congr_left fun d hd=>?_
 show itO _ _ f d=_;rw [<-hk,it d,gd _ (Nat.mod_lt _ (by omega))]
theorem Pk.rrow {k:Int}(h:af[i]?=some (true,aj)) (hk:aj[j]?=some k) (nt:tgA bad way c aj j=false):∃ r rr,(rs.find? fun r=>decide (r.nm=nmJ ak k))=some r/\rwt rs (nmJ ak k) (nmJ ak (aj.getD ((j+1) % aj.length) 0))=gr r.os*rr/\0<=rr/\0<=gr r.os/\(¬ (aj=bad/\wdB way=true)->rr<1/\gr r.os<1)/\((aj=bad/\wdB way=true)->1<=rr/\1<=gr r.os)/\ZZ rs (nmJ ak k)=(decide (aj=bad)&&(jpB way&&hrB c aj.length j)):=by
 obtain ⟨r,hr,en,hfi,e,r0,rb,_,e2,e3⟩:=Z.row h hk;have cnd:=Z.cnd h (Qx hk) (Z.cn h ⟨r0,rb,by assumption,e2,e3⟩);obtain ⟨cs0,k0,q0,h1,h2,q1⟩:=rb.rg rfl;obtain ⟨n1,n2⟩:=rb.nn rfl;have rbo:∀ o∈r0.os,0<=o.2/\RB 14 o.2:=fun o ho=>⟨(rb.os o ho).1,(rb.os o ho).2.1⟩
 have q0in:(nmJ ak (aj.getD ((j+1) % aj.length) 0),q0)∈r0.cs:=by rw [h1];simp
 have hj:ZZ rs (nmJ ak k)=(r.un.isSome||r.lm.isSome):=by unfold ZZ;rw [hfi]
 by_cases eb:aj=bad
 ·have sp:=e3 eb;obtain ⟨cs1,c1,c2,c3,c4,c5,c6⟩:=sp.cs;obtain ⟨o1,o2,o3,o4⟩:=sp.os;have ht:(tgB way&&(hrB c aj.length j&&decide (1<aj.length)))=false:=by
   unfold tgA at nt;rw [FT eb,Bool.true_and] at nt;exact nt
  have ecs:=c5 ht;have:nmJ ak (aj.getD ((j+1) % aj.length) 0)∈cs1.map (·.1):=by rw [c1];exact List.mem_map_of_mem q0in
  obtain ⟨⟨y,rr⟩,hin,ey⟩:=Fw.mp this;have ey:y=nmJ ak (aj.getD ((j+1) % aj.length) 0):=ey;subst ey;rw [ecs] at cnd;refine ⟨r,rr,hfi,Jp hfi (by rw [ecs];exact Wf cnd hin),(c4 _ hin).1,(JD o3).1,fun nw=>?_,fun w=>⟨c3 w.2 _ hin,?_⟩,?_⟩
  ·have wf:wdB way=false:=by
    cases hw:wdB way with
    | false=>rfl
    | true=>exact absurd ⟨eb,hw⟩ nw
   rw [c2 wf] at hin;have ec:rr=q0:=by
    have a:=Wf (by rw [c2 wf] at cnd;exact cnd) hin;have b:=Wf (by rw [c2 wf] at cnd;exact cnd) q0in;rw [a] at b;simpa using b
   rw [ec,o1 wf];exact ⟨q1,(JD rbo).2.2 fun o ho=>(rb.os o ho).2.2⟩
  ·obtain ⟨o,ho,h1'⟩:=o2 w.2;exact Dz h1' (SU o ho)
  ·rw [hj,FT eb,Bool.true_and];cases hjp:(jpB way&&hrB c aj.length j) with
   | false=>
    obtain ⟨a,b⟩:=sp.ju.1 hjp;rw [a,b,n1,n2];rfl
   | true=>
    rcases sp.ju.2 hjp with a | a
    ·rw [a,Bool.or_true]
    ·rw [a,Bool.true_or]
 ·have er:=e2 eb;rw [er] at cnd hfi hj;refine ⟨r0,q0,hfi,Jp hfi (Wf cnd q0in),(rb.cs _ q0in).1,(JD rbo).1,fun _=>⟨q1,(JD rbo).2.2 fun o ho=>(rb.os o ho).2.2⟩,fun w=>absurd w.1 eb,?_⟩;rw [hj,n1,n2,FQ eb];rfl
end
section
variable {ak:List Str} {m:Nat} {af:List (Bool×List Int)} {ib:Nat} {bad:List Int} {way c:Int} {rs:List Rw} (Z:Pk ak m af ib bad way c rs)
include Z
theorem Pk.names:rs.map (·.nm)=(List.range m).map fun (n:Nat)=>nmJ ak (n:Int):=by
 rw [Z.rn];apply Eu;intro n;by_cases h:n<m
 ·rw [EU,Fk h,Fv,Df h,Z.at_ h];rfl
 ·rw [Ec (by rw [FN,Z.nl];omega),Ec (by rw [Fi,ES];omega)]
theorem Pk.inorder {ring:Bool}{ss:List Int}(h:af[i]?=some (ring,aj)) (hp:ss.Perm aj) (hs:ss.Pairwise (·<=·)):(rs.map (·.nm)).filter (fun o=>decide (o∈pN ak aj))=ss.map (nmJ ak):=by
 rw [Z.names,List.filter_map];have e1:(List.range m).filter ((fun o=>decide (o∈pN ak aj)) ∘ fun (n:Nat)=>nmJ ak (n:Int))=(List.range m).filter fun (n:Nat)=>decide ((n:Int)∈aj):=by
  refine List.filter_congr fun n hn=>?_
  show decide (nmJ ak (n:Int)∈pN ak aj)=_;refine decide_eq_decide.mpr ⟨fun hm=>?_,fun hm=>List.mem_map_of_mem hm⟩;obtain ⟨k,hk,e⟩:=Fw.mp hm;obtain ⟨n',rfl,hn'⟩:=Z.in_ h hk;rw [Z.inj (List.mem_range.mp hn) hn' e.symm];exact hk
 rw [e1];have e2:((List.range m).filter fun (n:Nat)=>decide ((n:Int)∈aj)).map (fun (n:Nat)=>(n:Int))=ss:=by
  have snd:ss.Nodup:=hp.nodup_iff.mpr (Z.pnd h);have s1:(((List.range m).filter fun (n:Nat)=>decide ((n:Int)∈aj)).map (fun (n:Nat)=>(n:Int))).Pairwise (· < ·):=List.pairwise_map.mpr ((List.pairwise_lt_range.sublist Dm).imp fun h=>by omega);have s2:ss.Pairwise (· < ·):=(List.pairwise_and_iff.mpr ⟨hs,snd⟩).imp fun ⟨a,b⟩=>by omega
  have mem:∀ y,y∈((List.range m).filter fun (n:Nat)=>decide ((n:Int)∈aj)).map (fun (n:Nat)=>(n:Int))↔y∈ss:=fun y=>by
   rw [hp.mem_iff];constructor
   ·intro hy;obtain ⟨n,hn,rfl⟩:=Fw.mp hy;exact EO (F6.mp hn).2
   ·intro hy;obtain ⟨n,rfl,hn⟩:=Z.in_ h hy;exact Fw.mpr ⟨n,F6.mpr ⟨List.mem_range.mpr hn,FT hy⟩,rfl⟩
  have uniq:∀ {a b:List Int},a.Pairwise (· < ·)->b.Pairwise (· < ·)->(∀ y,y∈a↔y∈b)->a=b:=by
   intro a
   induction a with
   | nil=>
    intro b _ _ h;cases b with
    | nil=>rfl
    | cons y b=>exact absurd ((h y).mpr FU) (fun z=>nomatch z)
   | cons x a ih=>
    intro b ha hb h;cases b with
    | nil=>exact absurd ((h x).mp FU) (fun z=>nomatch z)
    | cons y b=>
     have ha':=List.pairwise_cons.mp ha;have hb':=List.pairwise_cons.mp hb;have e:x=y:=by
      rcases FF.mp ((h x).mp FU) with e | hx
      ·exact e
      ·rcases FF.mp ((h y).mpr FU) with e | hy
       ·exact e.symm
       ·have:=ha'.1 y hy;have:=hb'.1 x hx;omega
     subst e
     congr 1
     refine ih ha'.2 hb'.2 fun z=>⟨fun hz=>?_,fun hz=>?_⟩
     ·rcases FF.mp ((h z).mp (FZ _ hz)) with e | h'
      ·subst e;have:=ha'.1 z hz;omega
      ·exact h'
     ·rcases FF.mp ((h z).mpr (FZ _ hz)) with e | h'
      ·subst e;have:=hb'.1 z hz;omega
      ·exact h'
  exact uniq s1 s2 mem
 rw [<-e2,Eg];rfl
theorem Pk.first {ring:Bool}(h:af[i]?=some (ring,aj)) {k:Int}(hk:k∈aj) (hmin:∀ k'∈aj,k<=k'):∃ kt,(rs.map (·.nm)).filter (fun o=>decide (o∈pN ak aj))=nmJ ak k :: kt:=by
 obtain ⟨ss,h1,h2⟩:∃ ss:List Int,ss.Perm aj/\ss.Pairwise (·<=·):=⟨aj.mergeSort (fun a b=>decide (a<=b)),List.mergeSort_perm _ _,(List.pairwise_mergeSort (fun a b c h1 h2=>by simp at *;omega) (fun a b=>by simp;omega) aj).imp fun h=>by simpa using h⟩
 rw [Z.inorder h h1 h2];cases ss with
 | nil=>
  have:=h1.mem_iff.mpr hk;cases this
 | cons x t=>
  have hx:=hmin x (h1.mem_iff.mp FU);have:x=k:=by
   rcases FF.mp (h1.mem_iff.mpr hk) with e | hk'
   ·exact e.symm
   ·have:=(List.pairwise_cons.mp h2).1 k hk';omega
  subst this;exact ⟨_,rfl⟩
theorem Pk.gone {t:Nat}(h:af[i]?=some (true,aj)) (ht:t<aj.length) (nt:∀ j,j<aj.length->tgA bad way c aj j=false):∀ j,j<(rt (pN ak aj) t).length->∃ j',j'<aj.length/\(rt (pN ak aj) t).getD j Str.empty=nmJ ak (aj.getD j' 0)/\(rt (pN ak aj) t).getD ((j+1) % (rt (pN ak aj) t).length) Str.empty=nmJ ak (aj.getD ((j'+1) % aj.length) 0):=by
 have pl:(pN ak aj).length=aj.length:=Fi _;have pne:pN ak aj≠[]:=fun e=>by rw [e] at pl;simp at pl;omega
 have gd:∀ n,n<aj.length->(pN ak aj).getD n Str.empty=nmJ ak (aj.getD n 0):=fun n hn=>by
  unfold pN;rw [FO,Fv,FO,Fj hn];rfl
 intro j hj;rw [XQ,pl] at hj;have hl:=Nat.mod_lt (t+j) (show 0<aj.length by omega);refine ⟨(t+j) % aj.length,hl,?_,?_⟩
 ·rw [ZP (Jq (by rw [pl];exact hj)),pl,gd _ hl]
 ·rw [Su pne,pl,gd _ (Nat.mod_lt _ (by omega))]
theorem Pk.btr (G:Gq (nbR rs) (rs.map (·.nm)) gg) {i:Nat}{aj:List Int}(h:af[i]?=some (true,aj)) (nt:∀ j,j<aj.length->tgA bad way c aj j=false) {t:Nat}(ht:t<aj.length) (hmin:∀ k'∈aj,aj.getD t 0<=k') :
  Rg rs (rt (pN ak aj) t)/\((aj=bad/\jpB way=true)->bt rs (kOf gg (rs.map (·.nm)) (gg (nmJ ak (aj.getD t 0))))=.jp (rt (pN ak aj) t)) /\
  (¬ (aj=bad/\jpB way=true)->bt rs (kOf gg (rs.map (·.nm)) (gg (nmJ ak (aj.getD t 0))))=(if (rt (pN ak aj) t).length % 2=0/\¬ YA rs (rt (pN ak aj) t)<1 then .wd (rt (pN ak aj) t) (YA rs (rt (pN ak aj) t)) else .rg (rt (pN ak aj) t) (YA rs (rt (pN ak aj) t)))) /\
  (¬ (aj=bad/\wdB way=true)->YA rs (rt (pN ak aj) t)<1):=by
 have pl:(pN ak aj).length=aj.length:=Fi _;have tin:aj[t]?=some (aj.getD t 0):=by rw [FO,Fj ht];rfl
 have tm:=Fu tin;have hknot:=Z.knot G h tm;obtain ⟨kt,hkt⟩:=Z.first h tm hmin
 have hring:=Z.ring h nt ht rfl hkt;have tn:nmJ ak (aj.getD t 0)∈rs.map (·.nm):=by
  obtain ⟨n,e,hn⟩:=Z.in_ h tm;rw [e];exact Z.mem_ hn
 have hall:∀ s∈(rs.map (·.nm)).filter (fun o=>decide (o∈pN ak aj)),∃ j,j<aj.length/\s=nmJ ak (aj.getD j 0)/\wi (nbR rs) ((rs.map (·.nm)).filter (fun o=>decide (o∈pN ak aj))) s=[nmJ ak (aj.getD ((j+1) % aj.length) 0)]:=fun s hs=>by
  obtain ⟨k,hk,rfl⟩:=Fw.mp ((Z.kmem h).mp hs);obtain ⟨j,hj⟩:=F4 hk;refine ⟨j,Qx hj,by rw [ZP hj],(Z.wi_ h hj).1 (nt j (Qx hj))⟩
 have h1:∀ s∈kOf gg (rs.map (·.nm)) (gg (nmJ ak (aj.getD t 0))),(wi (nbR rs) (kOf gg (rs.map (·.nm)) (gg (nmJ ak (aj.getD t 0)))) s).length<=1:=fun s hs=>by
  rw [hknot] at hs ⊢;obtain ⟨j,_,_,e⟩:=hall s hs;rw [e];simp
 have h2:∃ s∈kOf gg (rs.map (·.nm)) (gg (nmJ ak (aj.getD t 0))),wi (nbR rs) (kOf gg (rs.map (·.nm)) (gg (nmJ ak (aj.getD t 0)))) s≠[]:=by
  rw [hknot];have hin:nmJ ak (aj.getD t 0)∈(rs.map (·.nm)).filter (fun o=>decide (o∈pN ak aj)):=(Z.kmem h).mpr (List.mem_map_of_mem tm);obtain ⟨j,_,_,e⟩:=hall _ hin;exact ⟨_,hin,by rw [e];simp⟩
 have hiF:isF gg (rs.map (·.nm)) (nmJ ak (aj.getD t 0))=true:=by
  unfold isF;rw [F9,<-List.head?_filter];show (kOf gg (rs.map (·.nm)) (gg (nmJ ak (aj.getD t 0)))).head?=_;rw [hknot,hkt];rfl
 have hRg:=NP Z.rok G tn hiF h1 h2;rw [hknot,hring] at hRg;have go:=Z.gone h ht nt;have fac:∀ j,j<(rt (pN ak aj) t).length->∃ j',j'<aj.length/\(rt (pN ak aj) t).getD j Str.empty=nmJ ak (aj.getD j' 0)/\∃ f,rwt rs ((rt (pN ak aj) t).getD j Str.empty) ((rt (pN ak aj) t).getD ((j+1) % (rt (pN ak aj) t).length) Str.empty)=f/\0<=f/\(¬ (aj=bad/\wdB way=true)->f<1)/\ZZ rs ((rt (pN ak aj) t).getD j Str.empty)=(decide (aj=bad)&&(jpB way&&hrB c aj.length j')):=fun j hj=>by
  obtain ⟨j',l1,e1,e2⟩:=go j hj;have hin:aj[j']?=some (aj.getD j' 0):=by rw [FO,Fj l1];rfl
  obtain ⟨r,rr,_,f1,f2,f3,f4,f5,f6⟩:=Z.rrow h hin (nt j' l1);refine ⟨j',l1,e1,gr r.os*rr,by rw [e1,e2];exact f1,Rat.mul_nonneg f3 f2,fun nw=>?_,by rw [e1];exact f6⟩;obtain ⟨a,b⟩:=f4 nw;have:=Rat.mul_nonneg (show 0<=1-gr r.os by grind) f2
  grind
 have hpos:0<(rt (pN ak aj) t).length:=by rw [XQ,pl];omega
 refine ⟨hRg,fun hj=>?_,fun hj=>?_,fun nw=>?_⟩
 ·have c0:=FM c (show (aj.length:Int)≠0 by omega);have c1:=FP c (show 0<(aj.length:Int) by omega);obtain ⟨jb,hjb⟩:∃ jb:Nat,c % (aj.length:Int)=(jb:Int):=⟨(c % (aj.length:Int)).toNat,by omega⟩
  have hjl:jb<aj.length:=by omega
  have hin:aj[jb]?=some (aj.getD jb 0):=by rw [FO,Fj hjl];rfl
  obtain ⟨r,rr,_,_,_,_,_,_,f6⟩:=Z.rrow h hin (nt jb hjl);have anyJ:(rgo (nbR rs) (kOf gg (rs.map (·.nm)) (gg (nmJ ak (aj.getD t 0))))).any (ZZ rs)=true:=by
   rw [hknot,hring];refine List.any_eq_true.mpr ⟨nmJ ak (aj.getD jb 0),(NO (by rw [pl];exact ht)).mem_iff.mpr (List.mem_map_of_mem (Fu hin)),?_⟩;rw [f6,FT hj.1,hj.2,Bool.true_and,Bool.true_and];unfold hrB;exact FT hjb
  have:=Gk (rs:=rs) h1 h2 anyJ;rw [this,hknot,hring]
 ·have anyJ:(rgo (nbR rs) (kOf gg (rs.map (·.nm)) (gg (nmJ ak (aj.getD t 0))))).any (ZZ rs)=false:=by
   rw [hknot,hring];rw [List.any_eq_false];intro x hx;obtain ⟨j,hj'⟩:=F4 hx;obtain ⟨j',l1,e1,f,_,_,_,f6⟩:=fac j (Qx hj');rw [ZP hj'] at f6;rw [f6];by_cases eb:aj=bad
   ·have:jpB way=false:=by
     cases hw:jpB way with
     | false=>rfl
     | true=>exact absurd ⟨eb,hw⟩ hj
    rw [this];simp
   ·rw [FQ eb];simp
  have e:rgo (nbR rs) (kOf gg (rs.map (·.nm)) (gg (nmJ ak (aj.getD t 0))))=rt (pN ak aj) t:=by rw [hknot,hring]
  split
  ·rename_i hw;have:=Gh (rs:=rs) h1 h2 anyJ (by rw [e];exact hw.1) (by rw [e];exact hw.2);rw [this,e]
  ·rename_i hw;have:=Gj (rs:=rs) h1 h2 anyJ (by rw [e];exact hw);rw [this,e]
 ·exact (UP (fun j hj=>by
   obtain ⟨j',_,_,f,e,f0,f1,_⟩:=fac j hj;rw [e];exact ⟨f0,f1 nw⟩) _ (Fl _)).2.2 hpos
theorem Pk.good (G:Gq (nbR rs) (rs.map (·.nm)) gg) {x:Str}(hx:x∈rs.map (·.nm)) (hb:x ∉ pN ak bad):(bt rs (kOf gg (rs.map (·.nm)) (gg x))).good=true:=by
 obtain ⟨i,j,ring,aj,k,s1,s2,rfl⟩:=Z.place hx;have km:=Fu s2;have nb:aj≠bad:=fun e=>hb (by rw [<-e];exact List.mem_map_of_mem km)
 cases ring with
 | false=>rw [Z.lone G s1 s2];rfl
 | true=>
  have nt:∀ j,j<aj.length->tgA bad way c aj j=false:=fun j _=>by unfold tgA;rw [FQ nb];rfl
  obtain ⟨t,ht,hmin⟩:∃ t,t<aj.length/\∀ k'∈aj,aj.getD t 0<=k':=by
   obtain ⟨ss,h1,h2⟩:∃ ss:List Int,ss.Perm aj/\ss.Pairwise (·<=·):=⟨aj.mergeSort (fun a b=>decide (a<=b)),List.mergeSort_perm _ _,(List.pairwise_mergeSort (fun a b c h1 h2=>by simp at *;omega) (fun a b=>by simp;omega) aj).imp fun h=>by simpa using h⟩
   cases ss with
   | nil=>have:=h1.mem_iff.mpr km;cases this
   | cons y l=>
    obtain ⟨t,ht⟩:=F4 (h1.mem_iff.mp FU);refine ⟨t,Qx ht,fun k' hk'=>?_⟩;rw [ZP ht];rcases FF.mp (h1.mem_iff.mpr hk') with rfl | h'
    ·exact Int.le_refl _
    ·exact (List.pairwise_cons.mp h2).1 k' h'
  have tin:aj[t]?=some (aj.getD t 0):=by rw [FO,Fj ht];rfl
  obtain ⟨_,_,b3,b4⟩:=Z.btr G s1 nt ht hmin;rw [Z.knot G s1 km,<-Z.knot G s1 (Fu tin),b3 (fun h=>nb h.1),Fh (fun h=>h.2 (b4 fun h=>nb h.1))];rfl
theorem Pk.btt (G:Gq (nbR rs) (rs.map (·.nm)) gg) {k:Int}(hk:k∈bad) (h1:tgB way=true) (h2:1<bad.length):bt rs (kOf gg (rs.map (·.nm)) (gg (nmJ ak k)))=.tg:=by
 have c0:=FM c (show (bad.length:Int)≠0 by omega);have c1:=FP c (show 0<(bad.length:Int) by omega);obtain ⟨jb,hjb⟩:∃ jb:Nat,c % (bad.length:Int)=(jb:Int):=⟨(c % (bad.length:Int)).toNat,by omega⟩
 have hjl:jb<bad.length:=by omega
 have hin:bad[jb]?=some (bad.getD jb 0):=by rw [FO,Fj hjl];rfl
 have hh:hrB c bad.length jb=true:=FT hjb;have ht:tgA bad way c bad jb=true:=by
  unfold tgA;rw [FT rfl,h1,FT h2,hh];rfl
 refine Gi (s:=nmJ ak (bad.getD jb 0)) ?_ ?_
 ·rw [Z.knot G Z.sb hk];exact (Z.kmem Z.sb).mpr (List.mem_map_of_mem (Fu hin))
 ·rw [Z.knot G Z.sb hk];exact (Z.wi_ Z.sb hin).2 ht
end
theorem rge_one {q:Rat}:q.num ≥ (q.den:Int)↔¬ q<1:=by
 rw [Rat.lt_iff];have e1:(1:Rat).den=1:=rfl;have e2:(1:Rat).num=1:=rfl;rw [e1,e2];omega
theorem Ll {b:BT}(h:b.good=false):b.wd1≠Str.ofString "block"/\b.wd1≠Str.ofString "told":=by
 cases b with
 | al=>cases h
 | rg _ _=>cases h
 | tg=>exact ⟨by show Str.ofString "tangled"≠_;decide +kernel,by show Str.ofString "tangled"≠_;decide +kernel⟩
 | jp _=>exact ⟨by show Str.ofString "jumps"≠_;decide +kernel,by show Str.ofString "jumps"≠_;decide +kernel⟩
 | wd _ _=>exact ⟨by show Str.ofString "widens"≠_;decide +kernel,by show Str.ofString "widens"≠_;decide +kernel⟩
theorem PwV.same {b:BT}{w:V}(h:PwV K H b w) (g:Same H H'):PwV K H' b w:=by
 unfold PwV at *;cases e:b.qo with
 | none=>rw [e] at h;exact h
 | some r=>rw [e] at h;exact (show Fq K H r w from h).same g
theorem SL {t:Nat}(h:t<aj.length):(aj.drop t++aj.take t).map (nmJ ak)=rt (pN ak aj) t:=by
 rw [UO (by unfold pN;rw [Fi];exact h)];unfold pN;rw [Fx,List.map_drop,List.map_take]
inductive φdue (K:W.Frag) (x y z u:V) (H:Hp) (Q:VK):Prop
 | mk (d lb ln:Addr) (ak:List Str) (m:Nat) (af:List (Bool×List Int)) (ib:Nat) (bad:List Int) (way c:Int) (rs:List Rw) (gg:Str->Nat) (h1:x=.ref d) (h2:y=.ref lb) (h3:z=.ref ln) (h4:u=.int way) (h5:Tb K H rs d) (h6:H lb=some (.lst (bad.map V.int))) (h7:SqL K H ln (ak.map V.str)) (h8:Pk ak m af ib bad way c rs) (h9:Gq (nbR rs) (rs.map (·.nm)) gg)
   (h10:∀ f,f∈pN ak bad->(bt rs (kOf gg (rs.map (·.nm)) (gg f))).good=false->∀ pt q w H',Same H H'->SqT K H' pt [.str (bt rs (kOf gg (rs.map (·.nm)) (gg f))).wd1,.ref q,w,.bl true]->H' q=some (.lst (((bt rs (kOf gg (rs.map (·.nm)) (gg f))).ts (kOf gg (rs.map (·.nm)) (gg f))).map V.str))->PwV K H' (bt rs (kOf gg (rs.map (·.nm)) (gg f))) w->Q (.ref pt) H')
   (h11:∀ f ts r,f∈pN ak bad->bt rs (kOf gg (rs.map (·.nm)) (gg f))=.rg ts r->∀ pt q w H',Same H H'->SqT K H' pt [.str (Str.ofString "block"),.ref q,w,.bl true]->H' q=some (.lst (ts.map V.str))->Fq K H' r w->Q (.ref pt) H'):φdue K x y z u H Q
theorem Mg (T:Tx K mg t) (F:Fun K "_law_due" "_law_due" Ja f fd) (fU:Cal P w K mg base 4 "_law_pull" ["_law_table","_law_ring"] (Sp2M (φlp K))):FnOk P w K mg base CX0 6 f fd ["_law_table","_law_bad","_law_names_here","_law_way"] (Sp4 (φdue K)):=by
 refine F.ok sc_l_due Gz (fun cdv A outer s H vs Q E hr h=>?_);obtain ⟨_,_,_,_,rfl,d,lb,ln,ak,m,af,ib,bad,way,c,rs,gg,rfl,rfl,rfl,rfl,hTb,hlb,hN,Z,G,qb,qg⟩:=h;have bne:=Z.ne _ (Fu Z.sb);have bpos:0<bad.length:=De.mpr bne;have bl8:bad.length<=8:=by
  have h1:=Z.klen Z.sb;have h2:((rs.map (·.nm)).filter (fun o=>decide (o∈pN ak bad))).length<=(rs.map (·.nm)).length:=EG _ _;rw [Fi,Z.len] at h2;have:=Z.hm;omega
 have nat:∀ k∈bad,∃ n:Nat,k=(n:Int)/\n<8/\ak[n]?=some (nmJ ak k):=fun k hk=>by
  obtain ⟨n,e,hn⟩:=Z.in_ Z.sb hk;exact ⟨n,e,by have:=Z.hm;omega,by rw [e];exact Z.at_ hn⟩
 refine ⟨_,((Qd (QM (PW.pt (ZM (Qt (eqM K rfl hr.units) (Qf Qn (pu 3) Qb) Qb (Qw _)) (ZL (Qt KR (Qm (Xk K rfl) (by rfl) T.aK F0 (Qa (pu 1) Qc)) Qb (Qw _))))) (Qg (Qu (QA (Qa Q5 (Qa (Zd (N:=["_law_k","_law_names_here"]) (caps:=[none,some 2]) rfl ZY (piK K rfl (Qm (Vh K rfl) (by rfl) T.cU boot_sorted (Qa (pu 1) Qc))) (fun _ _ _ _=>Qp (i:=0) (show (["_law_k","_law_names_here"]:List Str).Nodup by decide +kernel) rfl (Or.inl rfl) (.inr rfl)) (fun _ _ _ _=>QT) (fun _ _ _ _=>(Qr (ixK K rfl) (pu 1) (pu 0) (fun _ _=>rfl)))) (Qa ZF (Qa Z1 Qc))))))) Qy)
   (Qd (Qk (i:=4) sc_l_due.nd rfl (Or.inl rfl) (ZO K rfl Ej PySem.F.slot_list_index PySem.F.type_list_index Mn (pu 1) (Qa (Qm (Nf K rfl rfl) (by rfl) T.gK boot_min (Qa (pu 1) Qc)) Qc)))
   (Qd (Y4 (i:=5) sc_l_due.nd rfl (Or.inl rfl) (N:=["_law_k","_law_names_here"]) (caps:=[none,some 2]) rfl ZY (piK K rfl (Qf Qq (QW (slK K rfl) (pu 1) (Zb (pu 4)) Zc) (QW (slK K rfl) (pu 1) Zc (Zb (pu 4))))) (fun _ _ _ _=>Qp (i:=0) (show (["_law_k","_law_names_here"]:List Str).Nodup by decide +kernel) rfl (Or.inl rfl) (.inr rfl)) (fun _ _ _ _=>QT) (fun _ _ _ _=>(Qr (ixK K rfl) (pu 1) (pu 0) (fun _ _=>rfl))))
   (Qd (QM (Qt (eqM K rfl hr.units) (Qf Qn (Qf Qv (pu 3) Qb) Qb) Qb (Qw _)) (Qg (Qu (QA (Qa Q5 (Qa (pu 5) (Qa ZF (Qa Z1 Qc))))))) Qy)
   (Qd (Qk (i:=6) sc_l_due.nd rfl (Or.inl rfl) (Qs fU (hrm hr) rfl (Qa (pu 0) (Qa (pu 5) Qc))))
   (Qd (QM (PW.pt (ZM (Qt (eqM K rfl hr.units) (Qf Qn (Qm (Xk K rfl) (by rfl) T.aK F0 (Qa (pu 5) Qc)) Qb) Qb (Qw _)) (ZL (Qt RX (Qr (ixK K rfl) (pu 6) Qb (fun _ _=>rfl)) (Qr (ixK K rfl) (pu 6) Qb (fun _ _=>rfl)) (Qw _))))) (Qg (Qu (QA (Qa Q5 (Qa (pu 5) (Qa (pu 6) (Qa Z1 Qc))))))) Qy)
   (Qg (Qu (QA (Qa Q5 (Qa (pu 5) (Qa (pu 6) (Qa Z1 Qc)))))))))))))),?_⟩
 generalize hR:ZX (Xe _ (Ze 4)) _=R;nofun;have comp:∀ (js:List Int) (l:Addr) (H1:Hp) (Q':VK),Same H H1->SqL K H1 l (js.map V.int)->(∀ k∈js,k∈bad)->js.length<=8->(∀ p,H1 p=none->Q' (.ref p) (upd H1 p (.lst ((js.map (nmJ ak)).map V.str))))->JP (Itl K l) (Ze 0) Ry (tOp (rIx K) (Vs 1) (Vs 0)) [none,some (.ref ln)] H1 Q':=by
  intro js l H1 Q' g1 hl hjs jl q';refine ZS (xs:=js.map V.int) (fun i acc σ' H'=>∃ x0:Option V,σ'=[x0,some (.ref ln)]/\H'=H1/\acc=((js.take i).map (nmJ ak)).map V.str) ⟨none,rfl,rfl,rfl⟩ (fun i acc σ' H' _ h=>by obtain ⟨_,_,rfl,_⟩:=h;exact hl) (by rw [Fi];omega) ?_ ?_
  ·rintro i v acc _ H2 hv hacc ⟨x0,rfl,rfl,rfl⟩;rw [Fv] at hv;obtain ⟨k,hk,rfl⟩:=FW.mp hv;obtain ⟨n,rfl,hn8,hn⟩:=nat k (hjs k (Fu hk));simp only [ZR];nofun;refine Q7 (g1.seq hN) (QL (v:=.str (nmJ ak n)) (by rw [Fv,hn];rfl)) ?_;refine CN.mk (by rw [Fi];exact Qx hk) (by rw [Fo,Fz];omega) ⟨_,rfl,(by first | rfl | trivial),?_⟩;rw [FH,hk,Fx,Fx];rfl
  ·rintro acc _ H2 ⟨x0,rfl,rfl,rfl⟩ p hp;rw [Fi,FI];exact q' p hp
 have key:(tgB way&&decide (1<bad.length))=false->R { nx:=fun x H'=>Q V.non H',rt:=Q } [some (V.ref d),some (V.ref lb),some (V.ref ln),some (V.int way),none,none,none] H:=by
  intro ht;have nt:∀ j,j<bad.length->tgA bad way c bad j=false:=fun j _=>by
   unfold tgA;rw [FT rfl,Bool.true_and];rcases Bool.and_eq_false_iff.mp ht with h | h
   ·rw [h,Bool.false_and]
   ·rw [h,Ef,Ef]
  subst hR;nofun;refine ⟨.inl ⟨rfl,_,SqL.of hlb⟩,lb,bad,rfl,SqL.of hlb,bpos,fun M hM hmin=>?_⟩;refine ⟨lb,bad,M,rfl,rfl,hlb,hM,by omega,?_⟩;have htl:=List.idxOf_lt_length_iff.mpr hM;have htg:bad.getD (List.idxOf M bad) 0=M:=by rw [FO,Fj htl];exact List.getElem_idxOf htl
  generalize List.idxOf M bad=t at *;have tin:nmJ ak (bad.getD t 0)∈pN ak bad:=by rw [htg];exact List.mem_map_of_mem hM
  obtain ⟨hRg,b1,b2,b3⟩:=Z.btr G Z.sb nt htl (by rw [htg];exact hmin);nofun;simp only [QS];nofun;refine Xb (SqL.of hlb) fun l2 hl2=>?_
  rw [Yd];generalize e_g2:upd H l2 _=H2 at *;obtain ⟨g2,k2⟩:=nwH hl2 e_g2;refine Xb (SqL.of (g2 _ _ hlb)) fun l3 hl3=>?_
  rw [YH];generalize e_g3:upd H2 l3 _=H3 at *;obtain ⟨g3,k3⟩:=nwH hl3 e_g3;have tl:(bad.map V.int).length<=8:=by rw [Fi];exact bl8
  rw [Yx];refine ⟨l2,l3,_,_,rfl,rfl,g3 _ _ k2,k3,by unfold sizeLine;rw [F5,FN];omega,fun l4 hl4=>?_⟩;rw [show (bad.map V.int).drop t++(bad.map V.int).take t=(bad.drop t++bad.take t).map V.int by rw [Fx,List.map_drop,List.map_take]];generalize e_g4:upd H3 l4 _=H4 at *;obtain ⟨g4,k4⟩:=nwH hl4 e_g4;have g04:=g2.trans (g3.trans g4);refine ⟨l4,rfl,⟨_,SqL.of k4⟩,comp _ l4 H4 _ g04 (SqL.of k4) (fun k hk=>?_) (by rw [Fo,F5,FN];omega) fun l5 hl5=>?_⟩
  ·rcases FK.mp hk with h | h
   ·exact List.mem_of_mem_drop h
   ·exact List.mem_of_mem_take h
  rw [SL htl];generalize hts:rt (pN ak bad) t=ts at *;generalize e_g5:upd H4 l5 _=H5 at *;obtain ⟨g5,k5⟩:=nwH hl5 e_g5;have g05:=g04.trans g5;have tl8:=hRg.2.1;nofun;refine ⟨CDivB.small (by decide) (by decide),trivial,QH (fun j1=>⟨by decide,fun p6 hp6=>?_⟩) (fun j1=>?_)⟩
  ·have ebt:=b1 ⟨rfl,FT j1⟩;generalize e_g6:upd H5 p6 _=H6 at *;obtain ⟨g6,k6⟩:=nwH hp6 e_g6;exact qb _ tin (by rw [ebt];rfl) p6 l5 .non H6 (g05.trans g6) (by rw [ebt];exact SqT.of k6) (by rw [ebt];exact g6 _ _ k5) (by rw [ebt];rfl)
  ·have ebt:=b2 (fun h=>by have:jpB way=false:=FQ j1;rw [this] at h;cases h.2);refine ⟨d,l5,rs,ts,rfl,rfl,hTb.same g05,k5,hRg,fun z6 H6 g6 f6=>?_⟩;have f6:Fq K H6 (YA rs ts) z6:=f6;have k56:=g6 _ _ k5;nofun;try refine Q3 (SqL.of k56) ?_
   rw [Fi];nofun;have ev:((ts.length:Int) % 2=0)↔ts.length % 2=0:=by omega
   have blk:¬ (ts.length % 2=0/\¬ YA rs ts<1)->4<=sizeLine/\∀ p,H6 p=none->Q (.ref p) (upd H6 p (.tup [.str (Str.ofString "block"),.ref l5,z6,.bl true])):=fun hn=>⟨by decide,fun p7 hp7=>by
    have g7:=Qi hp7 (.tup [.str (Str.ofString "block"),.ref l5,z6,.bl true]);rw [Fh hn] at ebt;exact qg _ ts _ tin ebt p7 l5 z6 _ ((g05.trans g6).trans g7) (SqT.of Qe) (g7 _ _ k56) (f6.same g7)⟩
   have f6':=f6;obtain ⟨pz,rfl,hTz⟩:=f6;refine ⟨trivial,QH (fun e0=>?_) (fun e0=>?_)⟩
   ·nofun;refine QH (fun e1=>⟨by decide,fun p7 hp7=>?_⟩) (fun e1=>blk (fun h=>e1 (rge_one.mpr h.2)));generalize e_g7:upd H6 p7 _=H7 at *;obtain ⟨g7,k7⟩:=nwH hp7 e_g7;rw [Fk ⟨ev.mp e0,rge_one.mp e1⟩] at ebt;exact qb _ tin (by rw [ebt];rfl) p7 l5 _ H7 ((g05.trans g6).trans g7) (by rw [ebt];exact SqT.of k7) (by rw [ebt];exact g7 _ _ k56) (by rw [ebt];exact f6'.same g7)
   ·exact blk (fun h=>e0 (ev.mpr h.1))
 have tgt:(tgB way&&decide (1<bad.length))=true->tgB way=true/\1<bad.length:=fun h=>by
  rw [Eb,F9] at h;exact h
 refine ⟨trivial,QH (fun t1=>?_) (fun t1=>key (by unfold tgB;rw [FQ t1];rfl))⟩;refine Q3 (SqL.of hlb) ?_;rw [Fi];nofun;refine QH (fun t2=>?_) (fun t2=>key (by rw [FQ (show ¬ 1<bad.length by omega),Ef]));obtain ⟨k0,hk0⟩:=List.exists_mem_of_ne_nil _ bne;have ebt:=Z.btt G hk0 (FT t1) (by omega);have hin:nmJ ak k0∈pN ak bad:=List.mem_map_of_mem hk0;simp only [QS];nofun;refine ⟨lb,bad,rfl,SqL.of hlb,by omega,fun l2 ss hl2 sp ssd=>?_⟩;generalize e_g2:upd H l2 _=H2 at *;obtain ⟨g2,k2⟩:=nwH hl2 e_g2;refine ⟨l2,rfl,⟨_,SqL.of k2⟩,comp ss l2 H2 _ g2 (SqL.of k2) (fun k hk=>sp.mem_iff.mp hk) (by rw [sp.length_eq];exact bl8) fun l3 hl3=>⟨by decide,fun p4 hp4=>?_⟩⟩;generalize e_g3:upd H2 l3 _=H3 at *;obtain ⟨g3,k3⟩:=nwH hl3 e_g3;generalize e_g4:upd H3 p4 _=H4 at *;obtain ⟨g4,k4⟩:=nwH hp4 e_g4;refine qb (nmJ ak k0) hin (by rw [ebt];rfl) p4 l3 .non H4 (g2.trans (g3.trans g4)) (by rw [ebt];exact SqT.of k4) ?_ (by rw [ebt];rfl);rw [ebt];show H4 l3=some (.lst ((kOf gg (rs.map (·.nm)) (gg (nmJ ak k0))).map V.str));rw [Z.knot G Z.sb hk0,Z.inorder Z.sb sp ssd];exact g4 _ _ k3
def bkD (rs:List Rw) (gg:Str->Nat) (ak:List Str) (f:Str):D:=.tup [.str (bt rs (kOf gg ak (gg f))).wd1,.lst (((bt rs (kOf gg ak (gg f))).ts (kOf gg ak (gg f))).map D.str),fr (bt rs (kOf gg ak (gg f))).q.num (bt rs (kOf gg ak (gg f))).q.den]
theorem NQ {f:Str}{N:Addr->Prop}(h:BkQ K rs gg ak H f v N):Rep K H (bkD rs gg ak f) v:=by
 obtain ⟨b,q,z,rfl,h1,h2,h3,_⟩:=h;obtain ⟨pz,rfl,r⟩:=h3.rep;refine .tup h1 rfl fun i d x e1 e2=>?_
 match i,e1,e2 with
 | 0,e1,e2=>cases e1;cases e2;exact .str _
 | 1,e1,e2=>cases e1;cases e2;exact ZW (SqL.of h2)
 | 2,e1,e2=>cases e1;cases e2;exact r
 | k+3,e1,e2=>simp at e1
theorem db_txs' {l:List Str}:DB (n+1) (.lst (l.map D.str)):=.lst fun d hd=>by obtain ⟨z,_,rfl⟩:=Fw.mp hd;exact .str _
theorem db_fr' {a:Int}:DB (n+1) (fr a b):=.tup fun d hd=>by
 simp at hd;rcases hd with rfl | rfl <;> exact .int _
def pwD (b:BT):D:=match b.qo with
 | some r=>fr r.num r.den
 | none=>.non
theorem RD {b:BT}{w:V}(h:PwV K H b w):Rep K H (pwD b) w:=by
 unfold PwV at h;unfold pwD;cases e:b.qo with
 | none=>rw [e] at h;rw [show w=V.non from h];exact .non
 | some r=>rw [e] at h;obtain ⟨p,rfl,z⟩:=(show Fq K H r w from h).rep;exact z
def baD (b:BT) (kn:List Str):D:=.tup [.str b.wd1,.lst ((b.ts kn).map D.str),pwD b,.int 1]
theorem NR {b:BT}{pt:Addr}{w:V}(h1:SqT K H pt [.str b.wd1,.ref l,w,.bl true]) (h2:H l=some (.lst ((b.ts kn).map V.str))) (h3:PwV K H b w):Rep K H (baD b kn) (.ref pt):=by
 refine .tup h1 rfl fun i d x e1 e2=>?_
 match i,e1,e2 with
 | 0,e1,e2=>cases e1;cases e2;exact .str _
 | 1,e1,e2=>cases e1;cases e2;exact ZW (SqL.of h2)
 | 2,e1,e2=>cases e1;cases e2;exact RD h3
 | 3,e1,e2=>cases e1;cases e2;exact .bl true
 | k+4,e1,e2=>simp at e1
theorem S8 {b:BT}:DB 30 (baD b kn):=.tup fun d hd=>by
 simp at hd;rcases hd with rfl | rfl | rfl | rfl
 ·exact .str _
 ·exact db_txs'
 ·unfold pwD;cases b.qo with
  | none=>exact .non
  | some r=>exact db_fr'
 ·exact .int _
theorem UZ (hR:ROk rs) {g:Str->Nat}(G:Gq (nbR rs) (rs.map (·.nm)) g) {f:Str}(hf:f∈rs.map (·.nm)) (hi:isF g (rs.map (·.nm)) f=true) (hg:(bt rs (kOf g (rs.map (·.nm)) (g f))).good=true) :
  (bt rs (kOf g (rs.map (·.nm)) (g f))).ts (kOf g (rs.map (·.nm)) (g f))≠[]/\((bt rs (kOf g (rs.map (·.nm)) (g f))).ts (kOf g (rs.map (·.nm)) (g f))).length<=8/\RB 300 (bt rs (kOf g (rs.map (·.nm)) (g f))).q/\∃ rb:Bool,(bt rs (kOf g (rs.map (·.nm)) (g f))).wd1=if rb=true then Str.ofString "ring" else Str.ofString "alone":=by
 obtain ⟨kt,hkt⟩:=Wb hi;have kl:(kOf g (rs.map (·.nm)) (g f)).length<=8:=FR (EG _ _) (by rw [Fi];exact hR.rw.le);have rgof:=fun h1 h2=>NP hR G hf hi h1 h2
 generalize kOf g (rs.map (·.nm)) (g f)=kn at *;by_cases c1:∃ s∈kn,1<(wi (nbR rs) kn s).length
 ·obtain ⟨s,h1,h2⟩:=c1;rw [Gi h1 h2] at hg;cases hg
 by_cases c2:∀ s∈kn,wi (nbR rs) kn s=[]
 ·rw [Gm c2];exact ⟨(by show kn≠[];rw [hkt];exact List.cons_ne_nil _ _),kl,RB.zero (by decide),false,rfl⟩
 have b1:∀ u∈kn,(wi (nbR rs) kn u).length<=1:=fun u hu=>Dr.mp fun h=>c1 ⟨u,hu,h⟩
 have b2:∃ u∈kn,wi (nbR rs) kn u≠[]:=Er fun no=>c2 fun s hs=>Er fun h=>no ⟨s,hs,h⟩
 have rg:=rgof b1 b2;cases hj:(rgo (nbR rs) kn).any (ZZ rs) with
 | true=>rw [Gk b1 b2 hj] at hg;cases hg
 | false=>
  by_cases c3:(rgo (nbR rs) kn).length % 2=0/\¬ YA rs (rgo (nbR rs) kn)<1
  ·rw [Gh b1 b2 hj c3.1 c3.2] at hg;cases hg
  ·rw [Gj b1 b2 hj c3];obtain ⟨_,_,_,pB⟩:=Y3 rg _ (Fl _);have:=rg.2.1;exact ⟨rg.1,rg.2.1,pB.mono (by omega),true,rfl⟩
theorem Ly {q:Rat}:decide (q.num<(q.den:Int))=decide (q<1):=by
 rw [F7,F9,F9];have:=rge_one (q:=q);constructor
 ·exact fun h=>Er fun c=>by have:=this.mpr c;omega
 ·exact fun h=>Er fun c=>this.mp (by omega) h
theorem NC {g:Str->Nat}(G:Gq (nbR rs) (rs.map (·.nm)) g) {f:Str}(hf:f∈rs.map (·.nm)) (hi:isF g (rs.map (·.nm)) f=true) (hg:(bt rs (kOf g (rs.map (·.nm)) (g f))).good=true):∀ x∈(bt rs (kOf g (rs.map (·.nm)) (g f))).ts (kOf g (rs.map (·.nm)) (g f)),g x=g f:=by
 have ring:=fun h1 h2=>KG G hf hi h1 h2
 have km:∀ x∈kOf g (rs.map (·.nm)) (g f),g x=g f:=fun x hx=>(kOf_mem.mp hx).2
 generalize kOf g (rs.map (·.nm)) (g f)=kn at *;by_cases c1:∃ s∈kn,1<(wi (nbR rs) kn s).length
 ·obtain ⟨s,h1,h2⟩:=c1;rw [Gi h1 h2] at hg;cases hg
 by_cases c2:∀ s∈kn,wi (nbR rs) kn s=[]
 ·rw [Gm c2];exact km
 have b1:∀ u∈kn,(wi (nbR rs) kn u).length<=1:=fun u hu=>Dr.mp fun h=>c1 ⟨u,hu,h⟩
 have b2:∃ u∈kn,wi (nbR rs) kn u≠[]:=Er fun no=>c2 fun s hs=>Er fun h=>no ⟨s,hs,h⟩
 have r2:=(ring b1 b2).2.1;cases hj:(rgo (nbR rs) kn).any (ZZ rs) with
 | true=>rw [Gk b1 b2 hj] at hg;cases hg
 | false=>
  by_cases c3:(rgo (nbR rs) kn).length % 2=0/\¬ YA rs (rgo (nbR rs) kn)<1
  ·rw [Gh b1 b2 hj c3.1 c3.2] at hg;cases hg
  ·rw [Gj b1 b2 hj c3];exact fun x hx=>km x ((r2 x).mp hx)
theorem Bj {l:List α}{p:α->Bool}{z:α}(nd:l.Nodup) (hz:z∈l) (hp:∀ x∈l,p x=true↔x=z):l.filter p=[z]:=by
 induction l with
 | nil=>cases hz
 | cons a t ih=>
  have nd':=Ex.mp nd;by_cases e:a=z
  ·subst e;rw [ED ((hp a FU).mpr rfl),Dn.mpr fun x hx hpx=>?_];have:=(hp x (FZ _ hx)).mp hpx;rw [this] at hx;exact nd'.1 hx
  ·rw [ET (fun h=>e ((hp a FU).mp h))];refine ih nd'.2 ?_ fun x hx=>hp x (FZ _ hx)
   rcases FF.mp hz with h | h
   ·exact absurd h.symm e
   ·exact h
theorem S7 {f:Str}:DB 30 (bkD rs gg ak f):=.tup fun d hd=>by
 simp at hd;rcases hd with rfl | rfl | rfl
 ·exact .str _
 ·exact db_txs'
 ·exact db_fr'
theorem Bv (hR:ROk rs) {g:Str->Nat}(G:Gq (nbR rs) (rs.map (·.nm)) g) {f f':Str}(hf:f∈rs.map (·.nm)) (hi:isF g (rs.map (·.nm)) f=true) (hg:(bt rs (kOf g (rs.map (·.nm)) (g f))).good=true) (hf':f'∈rs.map (·.nm)) (hi':isF g (rs.map (·.nm)) f'=true) (hg':(bt rs (kOf g (rs.map (·.nm)) (g f'))).good=true) (e:bkD rs g (rs.map (·.nm)) f=bkD rs g (rs.map (·.nm)) f'):f=f':=by
 unfold bkD at e;injection e with e
 injection e with _ e
 injection e with e _
 have e2:=by first | exact txs_eq.mp e | exact txs_eq.mpr e
 obtain ⟨x,hx⟩:=List.exists_mem_of_ne_nil _ (UZ hR G hf hi hg).1;exact Ms hi hi' ((NC G hf hi hg x hx).symm.trans (NC G hf' hi' hg' x (e2 ▸ hx)))
def Jn (K:W.Frag):Sp:=Sp1 fun x H Q=>∃ (a:Addr) (ns:List Int),x=.ref a/\SqL K H a (ns.map V.int)/\ns.length<=63/\Ka ns/\∀ H',Q (.bl true) H'
theorem Kz (hl:ns.length<=63) (hB:Ka ns) (_:BA H) (hS:SqL K H a (ns.map V.int)):Jn K [.ref a] H (fun v _=>v=.bl true) fun _ _ _=>False:=⟨_,rfl,a,ns,rfl,hS,hl,hB,fun _=>rfl⟩
theorem R5 (T:Tx K mg t) (F:Fun K "law" "law" Jo f fd) (fW:Cal P w K mg base 2 "narrows" ["block"] (Sp1M (φnar K))) (fX:Cal P w K mg base 1 "_law_shape" ["_law_block"] (Sp1M (φshape K))) (fY:Cal P w K mg base 6 "_law_due" ["_law_table","_law_bad","_law_names_here","_law_way"] (Sp4M (φdue K))) (fZ:Cal P w K mg base 10 "_law_told" ["_law_office_here"] (Sp1M (φtold K t))) (gA:Cal P w K mg base 5 "_law_office" ["_law_rows_here","_law_cell"] (Sp2M (φoffice K t))) (aG:Cal P w K mg base 1 "_law_cell_at" ["_law_script","_law_k"] (Sp2M (φcell K))) (gC:Cal P w K mg base 5 "_law_rows" ["_law_script","_law_many","_law_names_here","_law_segments_here","_law_bad","_law_way"] (Sp6M (φrows K))) (gD:Cal P w K mg base 2 "_law_segments" ["_law_script","_law_many"] (Sp2M (φseg K))) (gE:Cal P w K mg base 1 "_law_names" ["_law_cell"] (Sp1M (φnames K))):FnOk P w K mg base CX0 12 f fd ["_law_script"] (Jn K):=by
 refine F.ok sc_law (fun vs H Q E h=>by obtain ⟨_,rfl,_⟩:=h;rfl) (fun cdv A outer s H vs Q E hr h=>?_);obtain ⟨_,rfl,a,ns,rfl,hS,hnl,hB,q⟩:=h;refine ⟨_,((Qd (Qk (i:=1) sc_law.nd rfl (Or.inl rfl) (Qf Qq Qb (Qf Qn (Qs aG (hrm hr) rfl (Qa (pu 0) (Qa Qb Qc))) Qb)))
   (Qd (Qk (i:=2) sc_law.nd rfl (Or.inl rfl) (Qf Qn (Qf Qv (Qs aG (hrm hr) rfl (Qa (pu 0) (Qa Qb Qc))) Qb) Qb))
   (Qd (Qk (i:=3) sc_law.nd rfl (Or.inl rfl) (Qs gE (hrm hr) rfl (Qa (Qs aG (hrm hr) rfl (Qa (pu 0) (Qa Qb Qc))) Qc)))
   (Qd (Qk (i:=4) sc_law.nd rfl (Or.inl rfl) (Qs gD (hrm hr) rfl (Qa (pu 0) (Qa (pu 1) Qc))))
   (Qd (Qk (i:=5) sc_law.nd rfl (Or.inl rfl) (Qr (ixK K rfl) (Qr (ixK K rfl) (pu 4) (Qf Qn (Qs aG (hrm hr) rfl (Qa (pu 0) (Qa Qb Qc))) (Qm (Xk K rfl) (by rfl) T.aK F0 (Qa (pu 4) Qc))) (fun _ _=>rfl)) Qb (fun _ _=>rfl)))
   (Qd (Qk (i:=6) sc_law.nd rfl (Or.inl rfl) (Qs gC (hrm hr) rfl (Qa (pu 0) (Qa (pu 1) (Qa (pu 3) (Qa (pu 4) (Qa (pu 5) (Qa (pu 2) Qc))))))))
   (Qd (Qk (i:=7) sc_law.nd rfl (Or.inl rfl) X4)
   (Qd (Za FX rfl (piK K rfl (pu 6)) (Qp (i:=8) sc_law.nd rfl (Or.inl rfl))
   (Qg (Yo (Z2 hr) (pu 7) (Qr (ixK K rfl) (pu 8) Qb (fun _ _=>rfl)) (pu 8) rfl)))
   (Qd (Qk (i:=9) sc_law.nd rfl (Or.inl rfl) (Qs fZ (hrm hr) rfl (Qa (Qs gA (hrm hr) rfl (Qa (pu 6) (Qa (Qs aG (hrm hr) rfl (Qa (pu 0) (Qa Qb Qc))) Qc))) Qc)))
   (Qd (Qk (i:=10) sc_law.nd rfl (Or.inl rfl) (Qs fY (hrm hr) rfl (Qa (pu 7) (Qa (pu 5) (Qa (pu 3) (Qa (pu 2) Qc))))))
   (Qd (QM (Qt (neM K rfl hr.units) (Qr (ixK K rfl) (pu 10) Qb (fun _ _=>rfl)) Q5 (Qw _)) (Qg (Qu (Zw (eqM K rfl hr.units) (pu 9) (pu 10) (Qw _)))) Qy)
   (Qd (QM (PW.pt (Y1 (Qt (neM K rfl hr.units) (Qr (ixK K rfl) (pu 9) Qb (fun _ _=>rfl)) Q5 (Qw _)) (Y1 (ZT (Zt (Qm (J0 K rfl) (by rfl) T.aJ boot_isinstance (Qa (Qr (ixK K rfl) (pu 9) Qb (fun _ _=>rfl)) (Qa (X3 T.aP boot_list) Qc))))) (Wx (ZT (Zt (Qm (WM K rfl rfl) (by rfl) T.cR boot_all (Qa (Zd (N:=["_law_block"]) (caps:=[none]) rfl ZY (piK K rfl (Qr (ixK K rfl) (pu 9) Qb (fun _ _=>rfl))) (fun _ _ _ _=>Qp (i:=0) (show (["_law_block"]:List Str).Nodup by decide +kernel) rfl (Or.inl rfl) (.inr rfl)) (fun _ _ _ _=>QT) (fun _ _ _ _=>(Qs fX (hrm hr) rfl (Qa (pu 0) Qc)))) Qc)))))))) (Qg (Qu Z1)) Qy)
   (Qd (Qk (i:=11) sc_law.nd rfl (Or.inr rfl) (QA (Qa Q5 (Qa (Qr (ixK K rfl) (pu 10) Qb (fun _ _=>rfl)) (Qa (Qr (ixK K rfl) (pu 10) Qb (fun _ _=>rfl)) Qc)))))
   (Qd (Y4 (i:=12) sc_law.nd rfl (Or.inl rfl) (N:=["_law_one","_law_block"]) (caps:=[none,some 11]) rfl ZY (piK K rfl (Qr (ixK K rfl) (pu 9) Qb (fun _ _=>rfl))) (fun _ _ _ _=>Qp (i:=0) (show (["_law_one","_law_block"]:List Str).Nodup by decide +kernel) rfl (Or.inl rfl) (.inr rfl)) (fun _ _ _ _=>XR (Qt (eqM K rfl hr.units) (pu 0) (pu 1) (Qw _))) (fun _ _ _ _=>(pu 0)))
   (Qd (QM (Qt (neM K rfl hr.units) (Qm (Xk K rfl) (by rfl) T.aK F0 (Qa (pu 12) Qc)) Qb (Qw _)) (Qg (Qu Z1)) Qy)
   (Qd (Qk (i:=13) sc_law.nd rfl (Or.inl rfl) (Qs fW (hrm hr) rfl (Qa (Qr (ixK K rfl) (pu 12) Qb (fun _ _=>rfl)) Qc)))
   (Qg (Qu (Jd (Qm (J0 K rfl) (by rfl) T.aJ boot_isinstance (Qa (pu 13) (Qa (X3 T.cS boot_bool) Qc))) (Jt (Zw (eqM K rfl hr.units) (pu 13) (Zw Ju (Qr (ixK K rfl) (Qr (ixK K rfl) (pu 10) Qb (fun _ _=>rfl)) Qb (fun _ _=>rfl)) (Qr (ixK K rfl) (Qr (ixK K rfl) (pu 10) Qb (fun _ _=>rfl)) Qb (fun _ _=>rfl)) (Qw _)) (Qw _))))))))))))))))))))))),?_⟩
 generalize hRT:ZX (Xe _ (Ze 9)) _=RT;nofun;refine ⟨a,ns,0,rfl,rfl,hS,by decide,?_⟩;nofun;refine ⟨trivial,a,ns,0,rfl,rfl,hS,by decide,?_⟩;generalize cl ns 0=c;nofun;refine ⟨CDivB.small (by decide) (by decide),trivial,a,ns,1,rfl,rfl,hS,by decide,_,rfl,YJ hB 1,fun pn ak H1 hpn g1 kn nl nd nz=>?_⟩;generalize c.fdiv 8 % 8=way;have m0:=FM c (show (8:Int)≠0 by decide);have m1:=FP c (show 0<(8:Int) by decide);obtain ⟨m,hm⟩:∃ m:Nat,1+c % 8=(m:Int):=⟨(1+c % 8).toNat,by omega⟩
 have hm8:m<=8:=by omega
 rw [hm];refine ⟨a,ns,m,rfl,rfl,g1.seq hS,hB,hm8,by omega,fun lsg af sv H1b hlsg g1b ks hSg pm spos sne stt=>?_⟩;have g01b:=g1.trans g1b;have svl:=hSg.1;refine ⟨a,ns,50,rfl,rfl,g01b.seq hS,by decide,?_⟩;refine Q3 (SqL.of ks) ?_;rw [<-svl];nofun;have i0:=FM (cl ns 50) (show (af.length:Int)≠0 by omega);have i1:=FP (cl ns 50) (show 0<(af.length:Int) by omega);obtain ⟨ib,hib⟩:∃ ib:Nat,cl ns 50 % (af.length:Int)=(ib:Int):=⟨(cl ns 50 % (af.length:Int)).toNat,by omega⟩
 rw [hib] at i1 stt ⊢;have ibl:ib<af.length:=by omega
 refine ⟨by omega,?_⟩;obtain ⟨⟨rb,bad⟩,hsb⟩:∃ s,af[ib]?=some s:=⟨_,Fj ibl⟩
 have erb:rb=true:=stt (rb,bad) (by rw [Int.toNat_natCast];exact hsb);subst erb;obtain ⟨vb,hvb,pb,lb,rfl,hTb0,hlb⟩:=hSg.get hsb;refine Q7 (SqL.of ks) (QL hvb) ?_;refine YL hTb0 rfl ?_;refine ⟨a,pn,lsg,lb,ns,m,ak,af,sv,bad,way,rfl,rfl,rfl,rfl,rfl,rfl,g01b.seq hS,hB,hm8,SqL.of (g1b _ _ kn),nl,nd,ks,hSg,pm,hlb,fun lr rs vs H2 hlr g2 klr hA rn rq=>?_⟩;have Z:Pk ak m af ib bad way (cl ns 51) rs:=⟨nl,nd,hm8,rn,pm,sne,hsb,rq⟩
 have hRO:=Z.rok;have hRs:=hRO.rw;have hle:=hRs.le;have hvl:=hA.1;have rnd:=hRs.nd;have G:=SV (nb:=nbR rs) hRs.nd fun x hx y hy=>(hRs.nb x hx).1 y hy
 obtain ⟨S,en,hFin⟩:=Po G;have g02:=g01b.trans g2;nofun;walk_at"dg";intro d hd;have g3:=Qi hd (.dK []);have k3:(upd H2 d (.dK [])) d=some (.dK []):=Qe;generalize upd H2 d (.dK [])=H3 at *;refine ⟨lr,rfl,⟨_,SqL.of (g3 _ _ klr)⟩,JE (xs:=vs) (fun i σ' H'=>∃ (kvs:List (Key×V)) (x6:Option V),σ'=[some (.ref a),some (.int m),some (.int way),some (.ref pn),some (.ref lsg),some (.ref lb),some (.ref lr),some (.ref d),x6,none,none,none,none,none]/\Same H2 H'/\H' d=some (.dK kvs)/\kvs.map (·.1)=((rs.map (·.nm)).take i).map Sum.inr/\kvs.map (·.2)=vs.take i) ⟨[],none,rfl,g3,k3,rfl,rfl⟩ (fun i σ' H' _ h=>by obtain ⟨_,_,_,g,_⟩:=h;exact SqL.of (g _ _ klr)) ?_ ?_⟩
 ·rintro i v _ H4 hv ⟨kvs,x6,rfl,g4,k4,ky,vl⟩;obtain ⟨r,hr,hRr⟩:=hA.getV hv;obtain ⟨pr,lc,lo,rfl,hT,_,_⟩:=hRr.same g4;have hrn:(rs.map (·.nm))[i]?=some r.nm:=by rw [Fv,hr];rfl
  have nin:r.nm ∉ (rs.map (·.nm)).take i:=by
   have:=Je (f:=id) (l:=rs.map (·.nm)) (by rw [E4];exact rnd) hrn;rwa [E4] at this
  have kl:kvs.length<=8:=by
   have:=congrArg List.length ky;rw [Fi,Fi,FN,Fi] at this;omega
  nofun;walk_at"dg";refine ⟨d,_,rfl,DPut.k (k:=Sum.inr r.nm) k4 (by unfold sizeLine;omega),?_⟩;rw [Y2 _ (Yg ky nin)];exact ⟨_,_,rfl,QI g4 hd,Qe,by rw [Fx,ky,FH,hrn,Fx];rfl,by rw [Fx,vl,FH,hv];rfl⟩
 rintro _ H4 ⟨kvs,x6,rfl,g4,k4,ky,vl⟩;rw [<-hvl,<-Fi (f:=(·.nm)),FI] at ky;rw [FI] at vl;have hTb:Tb K H4 rs d:=⟨kvs,k4,fun x r hx=>by
  have hr:=Dt hx;have ex:r.nm=x:=by simpa using Du hx
  obtain ⟨n,hn⟩:=F4 hr;obtain ⟨v,hv⟩:∃ v,vs[n]?=some v:=⟨_,Fj (by rw [<-hvl];exact Qx hn)⟩
  refine ⟨v,?_,(hA.2 n r v hn hv).same g4⟩;rw [<-ex];refine Ky ky rnd (i:=n) ?_;have h1:=congrArg (fun l:List Key=>l[n]?) ky;have h2:=congrArg (fun l:List V=>l[n]?) vl;simp only [Fv,hn,hv,EH] at h1 h2;obtain ⟨kv,e1,e2⟩:=FW.mp h2;rw [e1] at h1;rw [e1,<-e2];have h1:=Fy h1;show some kv=some (Sum.inr r.nm,kv.2);rw [<-h1]⟩
 show RT _ _ _;subst hRT;nofun;refine ⟨a,ns,60,rfl,rfl,(g02.trans g4).seq hS,by decide,lr,rs,vs,_,rfl,g4 _ _ klr,hA.imp fun _ _ y=>y.same g4,rfl,(YJ hB 60).mono (by decide),hle,fun r hr=>⟨hRs.cl r hr,(hRO.ok r hr).2.2⟩,fun po H6 g6 hof=>?_⟩;have g26:=g4.trans g6;have hTb6:=hTb.same g6;have hlb6:=(g2.trans g26) _ _ hlb;have kn6:SqL K H6 pn (ak.map V.str):=SqL.of ((g1b.trans (g2.trans g26)) _ _ kn);generalize gx (nbR rs) (rs.map (·.nm))=gg at *;have kbad:∀ f∈pN ak bad,∀ f'∈pN ak bad,kOf gg (rs.map (·.nm)) (gg f)=kOf gg (rs.map (·.nm)) (gg f'):=fun f hf f' hf'=>by
  obtain ⟨k,hk,rfl⟩:=Fw.mp hf;obtain ⟨k',hk',rfl⟩:=Fw.mp hf';rw [Z.knot G Z.sb hk,Z.knot G Z.sb hk']
 have bnm:∀ f∈pN ak bad,f∈rs.map (·.nm):=fun f hf=>by
  obtain ⟨k,hk,rfl⟩:=Fw.mp hf;obtain ⟨n,e,hn⟩:=Z.in_ Z.sb hk;rw [e];exact Z.mem_ hn
 refine ⟨po,rs,gg,S,en,rfl,hof,hRO,G,hFin,fun ee pt lt vt H7 g7 hlt hTt klt hBt=>?_,fun z ee pt l w H7 g7 hl hTt kl hw=>?_⟩
 ·have Fm:∀ f∈S,f∈rs.map (·.nm)/\isF gg (rs.map (·.nm)) f=true:=fun f hf=>hFin.sq.mem hf
  have gts:=fun f hf=>UZ hRO G (Fm f hf).1 (Fm f hf).2 (hFin.gd f hf)
  have vl8:=hBt.1;have Sl:S.length<=8:=by
   have:=Xf hFin.sq.snd (m:=rs.map (·.nm)) fun z hz=>(Fm z hz).1
   rw [Fi] at this;omega
  have rep:∀ f∈pN ak bad,∃ z∈S,gg z=gg f:=fun f hf=>by
   obtain ⟨z,hz,e⟩:=Fw.mp (hFin.nn ee f (bnm f hf));exact ⟨z,hz,e⟩
  refine ⟨d,lb,pn,ak,m,af,ib,bad,way,cl ns 51,rs,gg,rfl,rfl,rfl,rfl,hTb6.same g7,g7 _ _ hlb6,g7.seq kn6,Z,G,fun f hf hb=>?_,fun f ts r hf ebt pt2 q2 w2 H8 g8 hT2 kq2 fw2=>?_⟩
  ·obtain ⟨z,hz,e⟩:=rep f hf;have:=hFin.gd z hz;rw [e,hb] at this;cases this
  obtain ⟨z,hz,e⟩:=rep f hf;rw [<-e] at ebt;have t3:RB 300 r:=by
   have:=(gts z hz).2.2.1;rw [ebt] at this;exact this
  have hTt8:=g8.sqT hTt;have klt8:=g8 _ _ klt;have fw2':=fw2;obtain ⟨pw,rfl,hTw⟩:=fw2;nofun;try rw [Fh (by first | simp | decide +kernel)]
  nofun;refine YM (.lst klt8) (by rfl) ?_;nofun;try simp only [QS]
  nofun;refine ⟨lt,rfl,⟨_,SqL.of klt8⟩,ZS (xs:=vt) (fun i acc σ' H'=>∃ x0:Option V,σ'=[x0]/\Same H8 H'/\acc=((S.take i).map fun _=>true).map V.bl) ⟨none,rfl,Same.refl _,rfl⟩ (fun i acc σ' H' _ h=>by obtain ⟨_,_,g,_⟩:=h;exact SqL.of (g _ _ klt8)) (by omega) ?_ ?_⟩
  ·rintro i v acc _ H9 hv hacc ⟨x0,rfl,g9,rfl⟩;obtain ⟨f,hf,b,qq,zz,rfl,hTb',hqq,hFz,_⟩:=hBt.getV hv;obtain ⟨t1,t2,_,_⟩:=gts f (Fu hf);have g79:=g8.trans g9;simp only [ZR];nofun;refine ⟨b,qq,_,zz,_,_,rfl,g79.sqT hTb',g79 _ _ hqq,t1,t2,hFz.same g79,fun Ha ga=>?_⟩;refine CN.mk (Qx hv) (by rw [Fo,Fz];omega) ⟨_,rfl,g9.trans ga,?_⟩;rw [FH,hf,Fx,Fx];rfl
  rintro acc _ H9 ⟨x0,rfl,g9,rfl⟩ p9 hp9;rw [<-vl8,FI];refine ⟨p9,S.map fun _=>true,rfl,SqL.of Qe,?_⟩;have n9:=Qi hp9 (.lst ((S.map fun _=>true).map V.bl));generalize upd H9 p9 (.lst ((S.map fun _=>true).map V.bl))=Ha at *;have en1:(S.map fun _=>true).all id=true:=by rw [List.all_map];simp
  rw [en1];have g8a:=g9.trans n9;have hT2a:=g8a.sqT hT2;nofun;try rw [Fh (by first | simp | decide +kernel)]
  try nofun
  refine ⟨by decide,fun pB hpB=>?_⟩;generalize e_gb:upd Ha pB _=Hb at *;obtain ⟨gb,kb⟩:=nwH hpB e_gb;have g8b:=g8a.trans gb;have g7b:=g8.trans g8b;have hT2b:=g8b.sqT hT2;have hTtb:=g7b.sqT hTt;have kltb:=g7b _ _ klt;have hBz:BkQ K rs gg (rs.map (·.nm)) Hb z (.ref pB) (fun _=>True):=⟨pB,q2,.ref pw,rfl,by rw [ebt];exact SqT.of kb,by rw [ebt];exact g8b _ _ kq2,by rw [ebt];exact fw2'.same g8b,trivial⟩
  nofun;try simp only [QS]
  nofun;refine ⟨lt,rfl,⟨_,SqL.of kltb⟩,ZS (xs:=vt) (fun i acc σ' H'=>∃ x0:Option V,σ'=[x0,some (.ref pB)]/\H'=Hb/\All2 (fun (f:Str) v=>BkQ K rs gg (rs.map (·.nm)) Hb f v fun _=>True) ((S.take i).filter fun x=>decide (x=z)) acc) ⟨none,rfl,rfl,All2.nil⟩ (fun i acc σ' H' _ h=>by obtain ⟨_,_,e,_⟩:=h;rw [e];exact SqL.of kltb) (by omega) ?_ ?_⟩
  ·rintro i v acc _ Hc hv hacc ⟨x0,rfl,ec,hA2⟩;rw [ec];obtain ⟨f',hf',b,qq,zz,rfl,hTb',hqq,hFz,_⟩:=hBt.getV hv;have hbk:BkQ K rs gg (rs.map (·.nm)) Hb f' (.ref b) (fun _=>True):=⟨b,qq,zz,rfl,g7b.sqT hTb',g7b _ _ hqq,hFz.same g7b,trivial⟩
   have hi:=Qx hv;have hfS:=Fu hf';have st:(S.take (i+1)).filter (fun x=>decide (x=z))=(S.take i).filter (fun x=>decide (x=z))++[f'].filter (fun x=>decide (x=z)):=by rw [FH,hf',Et];rfl
   nofun;refine Kb (b:=decide (f'=z)) (NQ hbk) (NQ hBz) S7 (by rw [F9];exact ⟨fun h=>by rw [h],fun h=>Bv hRO G (Fm f' hfS).1 (Fm f' hfS).2 (hFin.gd f' hfS) (Fm z hz).1 (Fm z hz).2 (hFin.gd z hz) h⟩) ?_;nofun;by_cases c:f'=z
   ·rw [Fk (by simpa using c)];refine CN.mk hi (by rw [Fo,Fz];omega) ⟨_,rfl,rfl,?_⟩;rw [st,ED (by simpa using c)];exact hA2.snoc hbk
   ·rw [Fh (by simpa using c)];refine CN.mk hi (by omega) ⟨_,rfl,rfl,?_⟩;rw [st,ET (by simpa using c),Dd,Ed];exact hA2
  ·rintro acc2 _ Hc ⟨x0,rfl,ec,hA2⟩ l12 hl12;rw [ec] at hl12 ⊢;rw [<-vl8,FI,Bj hFin.sq.snd hz (fun x _=>EL)] at hA2;obtain ⟨v,rfl,hbk⟩:∃ v,acc2=[v]/\BkQ K rs gg (rs.map (·.nm)) Hb z v (fun _=>True):=by
    match acc2,hA2 with
    | [],h=>cases h.1
    | [v],h=>exact ⟨v,rfl,h.2 0 z v rfl rfl⟩
    | _ :: _ :: _,h=>have:=h.1;simp at this
   obtain ⟨b',q',z',rfl,hTb',hqq,hFz,_⟩:=hbk;rw [ebt] at hTb' hFz;generalize e_gc:upd Hb l12 _=Hd at *;obtain ⟨gc,kc⟩:=nwH hl12 e_gc;have hTc:SqT K Hd b' [.str (if true=true then Str.ofString "ring" else Str.ofString "alone"),.ref q',z']:=gc.sqT hTb';have hFc:Fq K Hd r z':=hFz.same gc;have hT2d:=gc.sqT hT2b;have hTwd:=gc.sqT (g8b.sqT hTw);nofun;try refine Q3 (SqL.of kc) ?_
   try nofun
   try rw [Fh (by first | simp | decide +kernel)]
   try nofun
   refine Q7 (SqL.of kc) (v:=.ref b') (by rfl) ?_;try nofun
   refine ⟨b',true,_,_,r,300,rfl,hTc,hFc,t3,by decide,?_⟩;nofun;try refine YM (TyOf.bl _) (by rfl) ?_
   try nofun
   rw [show decide ((true&&decide (r<1))=decide (r.num<(r.den:Int)))=true by rw [Ly];simp];exact q _
 ·have zb:=hFin.bd z ee;have zin:z∈rs.map (·.nm):=(YB zb.1).1;have zp:z∈pN ak bad:=Er fun h=>by
   have:=Z.good G zin h;rw [zb.2] at this;cases this
  refine ⟨d,lb,pn,ak,m,af,ib,bad,way,cl ns 51,rs,gg,rfl,rfl,rfl,rfl,hTb6.same g7,g7 _ _ hlb6,g7.seq kn6,Z,G,fun f hf hb pt2 q2 w2 H8 g8 hT2 kq2 hw2=>?_,fun f ts r hf ebt=>?_⟩
  ·have ek:=kbad f hf z zp;rw [ek] at hb hT2 kq2 hw2;have wn:=(Ll hb).1;nofun;try refine YL hT2 rfl ?_
   try nofun
   rw [Fk wn];try nofun
   refine Kb (b:=true) (NR (g8.sqT hTt) (g8 _ _ kl) (hw.same g8)) (NR hT2 kq2 hw2) S8 (by simp) ?_;exact q _
  ·rw [kbad f hf z zp] at ebt;have:=zb.2;rw [ebt] at this;cases this
theorem Ki {S:Setting}{o:Obj}(l:K.lookup a=some o) {e k}:W.peek K S (Sem.load a e k:Sem α)=W.peek K S (k o):=by
 simp only [W.peek];rw [l]
theorem UB {da:Addr}{o:Obj}(l:K.lookup da=some o) (h:∀ us:List Value,us.length=ps.length->∃ e k,bindArgs fd ⟨us,[]⟩=Sem.load da e k/\∀ S,W.peek K S (k o)=some (ps.zip us)):Binds K fd ps []:=fun s us kIn hl=>by
 rw [Ed] at hl ⊢;obtain ⟨e,k,e1,e2⟩:=h us hl;exact W.kp_binds kIn fun S=>by rw [e1,Ki l];exact e2 S
end
abbrev nK (K:W.Frag) (a:Addr) (f:Str):Prop:=W.findIn K (.ref a) f=some none
abbrev mK (K:W.Frag) (n:Str) (a:Addr):Prop:=W.nsIn K mainGlobals n=some (some (.ref a))
abbrev zK (K:W.Frag) (n:Str):Prop:=W.nsIn K mainGlobals n=some none
def FdG (K:W.Frag) (n:Str) (st:Stmt):Prop:=∃ f fd,W.nsIn K mainGlobals n=some (some (.ref f))/\Fun K n n st f fd
def FdM (K:W.Frag) (C:Addr) (n q:Str) (st:Stmt):Prop:=∃ f fd,W.findIn K (.ref C) n=some (some (.ref f))/\W.isFn K (.ref f)=true/\Fun K n q st f fd
section
variable {P:Program} {w:World} {K:W.Frag} {mg:Str->Option Value} {base h:Heap} {k:Nat} {n q:Str} {C:Addr} {st:Stmt} {ps:List Str} {sp:Sp}
theorem HW (X:K.In h) (G:h.Ns mainGlobals mg) (e:FdG K n st) (b:∀ (kV doc pm:Value) (an:Option Addr) (cdv ct:Value) (us:List Value),us.length=ps.length->bindArgs (W.fnOf n n (QZ st) (QO st) (Qh st) .none kV doc pm an cdv ct) ⟨us,[]⟩=pure (ps.zip us)) (ok:∀ f fd,Fun K n n st f fd->FnOk P w K mg base CX0 k f fd ps sp):Cal P w K mg base k n ps sp:=by
 obtain ⟨f,fd,a,F⟩:=e;exact ⟨f,fd,ok f fd F,F.binds b,F.kp,W.mg_of X G a⟩
theorem HS (e:FdM K C n q st) (b:∀ (kV doc pm:Value) (an:Option Addr) (cdv ct:Value) (us:List Value),us.length=ps.length->bindArgs (W.fnOf n q (QZ st) (QO st) (Qh st) .none kV doc pm an cdv ct) ⟨us,[]⟩=pure (ps.zip us)) (ok:∀ f fd,Fun K n q st f fd->FnOk P w K mg base CX0 k f fd ps sp):UD P w K mg base k C n ps sp:=by
 obtain ⟨f,fd,a,i,F⟩:=e;exact ⟨f,fd,ok f fd F,F.binds b,⟨a,i,F.kp⟩⟩
theorem HU (mm:W.makesIn K C=true) (mk:W.keepIn K (.ref C)=true) (e:FdM K C "__init__" q st) (b:∀ (kV doc pm:Value) (an:Option Addr) (cdv ct:Value) (us:List Value),us.length=ps.length->bindArgs (W.fnOf "__init__" q (QZ st) (QO st) (Qh st) .none kV doc pm an cdv ct) ⟨us,[]⟩=pure (ps.zip us)) (ok:∀ f fd,Fun K "__init__" q st f fd->FnOk P w K mg base CX0 k f fd ps sp):JQ P w K mg base k C ps sp:=by
 obtain ⟨f,fd,a,i,F⟩:=e;exact ⟨f,fd,ok f fd F,F.binds b,⟨mm,a,i,mk⟩⟩
theorem HX (X:K.In h) (G:h.Ns mainGlobals mg) (e:FdG K n st) (b:∀ (kV doc pm:Value) (an:Option Addr) (cdv ct:Value) (us:List Value),us.length=ps.length->bindArgs (W.fnOf n n (QZ st) (QO st) (Qh st) .none kV doc pm an cdv ct) ⟨us,[]⟩=pure (ps.zip us)) (ok:∀ f fd,Fun K n n st f fd->FnOk P w K mg base (CXd P w) k f fd ps sp):Nn P w K mg base k n ps sp:=by
 obtain ⟨f,fd,a,F⟩:=e;exact ⟨f,fd,ok f fd F,F.binds b,F.kp,W.mg_of X G a⟩
theorem HV {sp:Addr->Sp}(X:K.In h) (G:h.Ns mainGlobals mg) (e:FdG K n st) (b:∀ (kV doc pm:Value) (an:Option Addr) (cdv ct:Value) (us:List Value),us.length=ps.length->bindArgs (W.fnOf n n (QZ st) (QO st) (Qh st) .none kV doc pm an cdv ct) ⟨us,[]⟩=pure (ps.zip us)) (ok:∀ f fd,Fun K n n st f fd->FnOkH P w K mg base k f fd ps sp):PR P w K mg base k n ps sp:=by
 obtain ⟨f,fd,a,F⟩:=e;exact ⟨f,fd,ok f fd F,F.binds b,F.kp,W.mg_of X G a⟩
theorem HR (xm:WI K C=true) (mk:W.keepIn K (.ref C)=true) (e:FdM K C "__init__" q st) (b:∀ (kV doc pm:Value) (an:Option Addr) (cdv ct:Value) (us:List Value),us.length=ps.length->bindArgs (W.fnOf "__init__" q (QZ st) (QO st) (Qh st) .none kV doc pm an cdv ct) ⟨us,[]⟩=pure (ps.zip us)) (ok:∀ f fd,Fun K "__init__" q st f fd->FnOk P w K mg base CX0 k f fd ps sp):Lb P w K mg base k C ps sp:=by
 obtain ⟨f,fd,a,i,F⟩:=e;exact ⟨f,fd,ok f fd F,F.binds b,⟨xm,a,i,mk⟩⟩
end
local macro_rules | `(tactic| walk_at "b1") => `(tactic| exact fun _ _ _ _ _ _ us hl => Hd.len1 (P := fun us => bindArgs _ ⟨us, []⟩ = pure (List.zip _ us)) (fun _ => rfl) us hl)
local macro_rules | `(tactic| walk_at "b2") => `(tactic| exact fun _ _ _ _ _ _ us hl => Hd.len2 (P := fun us => bindArgs _ ⟨us, []⟩ = pure (List.zip _ us)) (fun _ _ => rfl) us hl)
local macro_rules | `(tactic| walk_at "b3") => `(tactic| exact fun _ _ _ _ _ _ us hl => Hd.len3 (P := fun us => bindArgs _ ⟨us, []⟩ = pure (List.zip _ us)) (fun _ _ _ => rfl) us hl)
local macro_rules | `(tactic| walk_at "b4") => `(tactic| exact fun _ _ _ _ _ _ us hl => Hd.len4 (P := fun us => bindArgs _ ⟨us, []⟩ = pure (List.zip _ us)) (fun _ _ _ _ => rfl) us hl)
local macro_rules | `(tactic| walk_at "b6") => `(tactic| exact fun _ _ _ _ _ _ us hl => Hd.len6 (P := fun us => bindArgs _ ⟨us, []⟩ = pure (List.zip _ us)) (fun _ _ _ _ _ _ => rfl) us hl)
theorem all_mk {l:W.OpenLaw}{fa f27 dA27 cF cG cH cI cJ cK cL cM aH aI aF cN cP aN aU aT bJ aV bG aW aX gF gG:Addr}(X:K.In h) (G:h.Ns mainGlobals mg) (hfa:mg "law"=some (.ref fa))
  {od27 an27:Option Addr} {sl27:Array (Option Value)} {oc27 kV27 dc27 pm27 cd27 ct27 dx27_0 dx27_1 dx27_2:Value}
  {tod_NOUGHT:Option Addr} {ta_NOUGHT tb_NOUGHT:Tok} {tn_NOUGHT:Nat} {tsl_NOUGHT:Array (Option Value)}
  {tod_ONE:Option Addr} {ta_ONE tb_ONE:Tok} {tn_ONE:Nat} {tsl_ONE:Array (Option Value)}
  (gN:mK K "HelpError" cF)
  (gO:mK K "NoAmount" cG)
  (gP:mK K "NoBend" cH)
  (gQ:mK K "NoPerson" cI)
  (gR:mK K "Unknown" cJ)
  (gS:mK K "Twice" cK)
  (gT:mK K "NoWord" cL)
  (gU:mK K "NoRow" cM)
  (cV:mK K "Tangled" aH)
  (cW:mK K "Jumps" aI)
  (cX:mK K "Widens" aF)
  (gV:mK K "TooMany" cN)
  (gW:mK K "NoNews" cP)
  (gX:mK K "Kind" aN)
  (dP:mK K "Cap" aU)
  (gY:mK K "Office" aT)
  (gZ:mK K "Base" bJ)
  (hJ:mK K "Each" aV)
  (hU:mK K "Rent" bG)
  (hV:mK K "From" aW)
  (hX:mK K "Upto" aX)
  (bB:mK K "NOUGHT" gF)
  (bC:mK K "ONE" gG)
  (h1:FdM K aH "__init__" "Tangled.__init__" Q9)
  (h2:FdM K aI "__init__" "Jumps.__init__" Zs)
  (h3:FdM K aF "__init__" "Widens.__init__" Zh)
  (h4:FdG K "common_divisor" Zr)
  (h5:FdG K "fraction" XN)
  (h6:FdG K "plus" KE)
  (h7:FdG K "total_of" XH)
  (h8:FdG K "times" W6)
  (h9:FdG K "below" Jc)
  (h10:FdG K "greater" Yn)
  (h11:FdG K "steps_from" Z4)
  (h12:FdG K "count_rate" Z7)
  (h13:FdG K "leans" W8)
  (h14:FdG K "leads_to" XI)
  (h15:FdM K aT "named" "Office.named" ZJ)
  (h16:FdG K "knots" Jb)
  (h17:FdG K "counted_within" Zq)
  (h18:FdG K "is_free" Ym)
  (h19:FdG K "ring_from" Xl)
  (h20:FdM K aN "greatest_rate" "Kind.greatest_rate" QY)
  (h21:FdM K aT "kind" "Office.kind" ZV)
  (h22:FdG K "pull_of" Yh)
  (h23:FdG K "check_ring" Z8)
  (h24:FdG K "block_of" XO)
  (h25:FdG K "order" W7)
  (h26:FdG K "narrows" Yi)
  (a27:W.findIn K (.ref aN) "__init__"=some (some (.ref f27))) (i27:W.isFn K (.ref f27)=true) (l27:K.lookup f27=some ⟨oc27,od27,.func (W.fnOf "__init__" "Kind.__init__" (QZ QE) (QO QE) (Qh QE) (.ref dA27) kV27 dc27 pm27 an27 cd27 ct27),sl27⟩) (c27:W.codeIn K cd27 "Kind.__init__"=true) (k27:W.keepIn K (.ref f27)=true)
  (h28:FdM K aU "__init__" "Cap.__init__" ZK)
  (h29:FdM K aT "__init__" "Office.__init__" Zi)
  (h30:FdM K bJ "__init__" "Base.__init__" ZE)
  (h31:FdM K aV "__init__" "Each.__init__" ZD)
  (h32:FdM K bG "__init__" "Rent.__init__" ZA)
  (h33:FdM K aW "__init__" "From.__init__" ZC)
  (h34:FdM K aX "__init__" "Upto.__init__" Zz)
  (h35:FdG K "_law_cell_at" Xo)
  (h36:FdG K "_law_divisor" Xn)
  (h37:FdG K "_law_low" W9)
  (h38:FdG K "_law_names" Yl)
  (h39:FdG K "_law_rate" YU)
  (h40:FdG K "_law_offs" YW)
  (h41:FdG K "_law_segments" Z5)
  (h42:FdG K "_law_earlier" Xm)
  (h43:FdG K "_law_jump" YZ)
  (h44:FdG K "_law_wide" YR)
  (h45:FdG K "_law_spoilt" XJ)
  (h46:FdG K "_law_rows" YT)
  (h47:FdG K "_law_kind" YX)
  (h48:FdG K "_law_office" XM)
  (h49:FdG K "_law_times" Yj)
  (h50:FdG K "_law_greatest" Z6)
  (h51:FdG K "_law_pull" YV)
  (h52:FdG K "_law_shape" Yk)
  (h53:FdG K "_law_just" YY)
  (h54:FdG K "_law_told" YS)
  (h55:FdG K "_law_due" Ja)
  (h56:FdG K "law" Jo)
  {dn27:Nat} (d27:K.lookup dA27=some ⟨.type "tuple",none,.seq #[dx27_0,dx27_1,dx27_2] dn27,#[]⟩)
  (gH:zK K "ValueError")
  (cQ:zK K "abs")
  (cR:zK K "all")
  (gI:zK K "any")
  (cS:zK K "bool")
  (gJ:zK K "enumerate")
  (cT:zK K "int")
  (aJ:zK K "isinstance")
  (aK:zK K "len")
  (aP:zK K "list")
  (dM:zK K "max")
  (gK:zK K "min")
  (aS:zK K "range")
  (cU:zK K "sorted")
  (dN:zK K "str")
  (gL:zK K "sum")
  (dO:zK K "tuple")
  (gM:zK K "zip")
  (kk_NOUGHT:K.lookup gF=some ⟨.type "tuple",tod_NOUGHT,.seq #[.int 0 ta_NOUGHT,.int 1 tb_NOUGHT] tn_NOUGHT,tsl_NOUGHT⟩)
  (kk_ONE:K.lookup gG=some ⟨.type "tuple",tod_ONE,.seq #[.int 1 ta_ONE,.int 1 tb_ONE] tn_ONE,tsl_ONE⟩)
  (hZ:W.exmOne K (.ref aH) (.ref aH)=some true)
  (i7:W.exmOne K (.ref aI) (.ref aH)=some false)
  (i8:W.exmOne K (.ref aI) (.ref aI)=some true)
  (i9:W.exmOne K (.ref aF) (.ref aH)=some false)
  (iA:W.exmOne K (.ref aF) (.ref aI)=some false)
  (iB:W.exmOne K (.ref aF) (.ref aF)=some true)
  (iC:yK K aH cG false)
  (iD:yK K aH cH false)
  (iE:yK K aH cI false)
  (iF:yK K aH cJ false)
  (iG:yK K aH cK false)
  (iH:yK K aH cL false)
  (iI:yK K aH cM false)
  (iJ:yK K aH aH true)
  (iK:yK K aH aI false)
  (iL:yK K aH aF false)
  (iM:yK K aH cN false)
  (iN:yK K aH cP false)
  (iO:yK K aH cF true)
  (iP:yK K aI cG false)
  (iQ:yK K aI cH false)
  (iR:yK K aI cI false)
  (iS:yK K aI cJ false)
  (iT:yK K aI cK false)
  (iV:yK K aI cL false)
  (iW:yK K aI cM false)
  (iX:yK K aI aH false)
  (iY:yK K aI aI true)
  (iZ:yK K aI aF false)
  (j6:yK K aI cN false)
  (j7:yK K aI cP false)
  (j8:yK K aI cF true)
  (j9:yK K aF cG false)
  (jA:yK K aF cH false)
  (jB:yK K aF cI false)
  (jC:yK K aF cJ false)
  (jD:yK K aF cK false)
  (jE:yK K aF cL false)
  (jF:yK K aF cM false)
  (jG:yK K aF aH false)
  (jH:yK K aF aI false)
  (jI:yK K aF aF true)
  (jJ:yK K aF cN false)
  (jK:yK K aF cP false)
  (jL:yK K aF cF true)
  (jM:W.kitOne K (.ref aH) (.type "ValueError")=some true)
  (jN:W.kitOne K (.ref aI) (.type "ValueError")=some true)
  (jO:W.kitOne K (.ref aF) (.type "ValueError")=some true)
  (dQ:Q6 K aH)
  (dR:Q6 K aI)
  (cY:Q6 K aF)
  (aL:Cls K aN)
  (kM:IsC K aN)
  (cA:nK K aN "title")
  (jP:nK K aN "parts")
  (jQ:nK K aN "terms")
  (jR:nK K aN "pays")
  (cZ:nK K aN "counts")
  (cB:nK K aN "offs")
  (dS:nK K aN "limit")
  (dU:nK K aN "unit")
  (jS:nK K aN "way")
  (d0:Cls K aU)
  (kN:IsC K aU)
  (jT:nK K aU "limit")
  (jU:nK K aU "each")
  (jV:nK K aU "titles")
  (bD:Cls K aT)
  (kO:IsC K aT)
  (cD:nK K aT "kinds")
  (jW:nK K aT "caps")
  (jX:Cls K bJ)
  (kP:IsC K bJ)
  (jY:nK K bJ "amount")
  (d6:Cls K aV)
  (kQ:IsC K aV)
  (jZ:nK K aV "amount")
  (kA:nK K aV "low")
  (kC:nK K aV "high")
  (dW:Cls K bG)
  (kR:IsC K bG)
  (kD:nK K bG "rate")
  (kE:nK K bG "most")
  (d9:Cls K aW)
  (kS:IsC K aW)
  (kG:nK K aW "many")
  (kH:nK K aW "low")
  (kI:nK K aW "high")
  (dA:Cls K aX)
  (kT:IsC K aX)
  (kJ:nK K aX "many")
  (kK:nK K aX "low")
  (kL:nK K aX "high")
  (dB:WU K aH)
  (dC:nK K aH "titles")
  (dD:WU K aI)
  (dE:nK K aI "titles")
  (bM:WU K aF)
  (dF:nK K aF "titles")
  (dX:nK K aF "pull")
  (xm_Tangled:WI K aH=true)
  (mkk_Tangled:W.keepIn K (.ref aH)=true)
  (xm_Jumps:WI K aI=true)
  (mkk_Jumps:W.keepIn K (.ref aI)=true)
  (xm_Widens:WI K aF=true)
  (mkk_Widens:W.keepIn K (.ref aF)=true)
  (mkm_Kind:W.makesIn K aN=true)
  (mkk_Kind:W.keepIn K (.ref aN)=true)
  (mkm_Cap:W.makesIn K aU=true)
  (mkk_Cap:W.keepIn K (.ref aU)=true)
  (mkm_Office:W.makesIn K aT=true)
  (mkk_Office:W.keepIn K (.ref aT)=true)
  (mkm_Base:W.makesIn K bJ=true)
  (mkk_Base:W.keepIn K (.ref bJ)=true)
  (mkm_Each:W.makesIn K aV=true)
  (mkk_Each:W.keepIn K (.ref aV)=true)
  (mkm_Rent:W.makesIn K bG=true)
  (mkk_Rent:W.keepIn K (.ref bG)=true)
  (mkm_From:W.makesIn K aW=true)
  (mkk_From:W.keepIn K (.ref aW)=true)
  (mkm_Upto:W.makesIn K aX=true)
  (mkk_Upto:W.keepIn K (.ref aX)=true)
  : ∃ fd:FuncData,(∀ (s:Shared) (v:Value),BindsTo s fd ⟨[v],[]⟩ [("_law_script",v)])/\∀ base:Heap,K.In base->base.Ns mainGlobals mg->FnOk l.prog w K mg base CX0 12 fa fd ["_law_script"] (Jn K):=by
 let t:Adr:=⟨(),cF,cG,cH,cI,cJ,cK,cL,cM,aH,aI,aF,cN,cP,aN,aU,aT,bJ,aV,bG,aW,aX,gF,gG⟩
 have T:Tx K mg t:=by
  constructor;all_goals first | assumption | exact W.mg_none_of X G (by assumption) | exact W.mg_of X G (by assumption) | exact SQ (W.mg_of X G (by assumption)) (by assumption)
 obtain ⟨f56,fd,a56,F⟩:=h56;have e:=hfa.symm.trans (W.mg_of X G a56);cases e;have F':=F;obtain ⟨⟨oc,od,kV,doc,pm,an,cdv,ct,osl,rfl,lk,hcd⟩,hk⟩:=F';refine ⟨W.fnOf "law" "law" (QZ Jo) (QO Jo) (Qh Jo) .none kV doc pm an cdv ct,fun s v=>.of_eq rfl,fun base _ _=>?_⟩;have cd:=@HX l.prog w K mg base h;have cg:=@HW l.prog w K mg base h;have ch:=@HV l.prog w K mg base h;have ci:=@HU l.prog w K mg base;have cm:=@HS l.prog w K mg base;have cx:=@HR l.prog w K mg base;have fI:=cx xm_Tangled mkk_Tangled h1 (by walk_at"b2") fun _ _ F=>(Yt T F ).imp Sp2M.imp
 have eX:=cx xm_Jumps mkk_Jumps h2 (by walk_at"b2") fun _ _ F=>(Wa T F ).imp Sp2M.imp
 have eW:=cx xm_Widens mkk_Widens h3 (by walk_at"b3") fun _ _ F=>(YC T F ).imp Sp3M.imp
 have eA:=cg X G h4 (by walk_at"b2") fun _ _ F=>(Y9 T F ).imp Sp2M.imp
 have bO:=cg X G h5 (by walk_at"b2") fun _ _ F=>(VF T F eA).imp Sp2M.imp
 have eC:=cg X G h6 (by walk_at"b2") fun _ _ F=>(LU T F bO).imp Sp2M.imp
 have eD:=cg X G h7 (by walk_at"b1") fun _ _ F=>(VB T F eC).imp Sp1M.imp
 have dI:=cg X G h8 (by walk_at"b2") fun _ _ F=>(Mc T F bO).imp Sp2M.imp
 have bE:=cg X G h9 (by walk_at"b2") fun _ _ F=>(Mi T F ).imp Sp2M.imp
 have eB:=cg X G h10 (by walk_at"b2") fun _ _ F=>(Um T F bE).imp Sp2M.imp
 have dY:=cg X G h11 (by walk_at"b2") fun _ _ F=>(JV T F ).imp Sp2M.imp
 have eU:=cg X G h12 (by walk_at"b2") fun _ _ F=>(JY T F eD).imp Sp2M.imp
 have bN:=cg X G h13 (by walk_at"b1") fun _ _ F=>(Me T F ).imp Sp1M.imp
 have eT:=cg X G h14 (by walk_at"b2") fun _ _ F=>(VC T F dY bN).imp Sp2M.imp
 have eS:=cm h15 (by walk_at"b1") fun _ _ F=>(W1 T F ).imp Sp1M.imp
 have fM:=cg X G h16 (by walk_at"b1") fun _ _ F=>(Mh T F eS eT).imp Sp1M.imp
 have bF:=cg X G h17 (by walk_at"b3") fun _ _ F=>(Y8 T F ).imp Sp3M.imp
 have fK:=cg X G h18 (by walk_at"b3") fun _ _ F=>(Ul T F bF).imp Sp3M.imp
 have fG:=cg X G h19 (by walk_at"b3") fun _ _ F=>(KU T F bF).imp Sp3M.imp
 have eV:=cm h20 (by walk_at"b1") fun _ _ F=>(X1 T F eB).imp Sp1M.imp
 have bP:=cm h21 (by walk_at"b2") fun _ _ F=>(Jv T F ).imp Sp2M.imp
 have eZ:=cg X G h22 (by walk_at"b2") fun _ _ F=>(Ug T F dI eU eV bP).imp Sp2M.imp
 have eY:=cd X G h23 (by walk_at"b3") fun _ _ F=>(JZ T F bE eW eX bP).imp Rp3M.imp
 have fJ:=cd X G h24 (by walk_at"b3") fun _ _ F=>(VG T F eY eZ fG fI bF).imp Rp3M.imp
 have fR:=cd X G h25 (by walk_at"b1") fun _ _ F=>(Md T F fJ fK fM bN).imp Rp1M.imp
 have fW:=cg X G h26 (by walk_at"b1") fun _ _ F=>(Uh T F bE).imp Sp1M.imp
 have F27:=Bf (st:=QE) l27 c27 k27;have b27:=UB (fd:=W.fnOf "__init__" "Kind.__init__" (QZ QE) (QO QE) (Qh QE) (.ref dA27) kV27 dc27 pm27 an27 cd27 ct27) (ps:=["self","title","parts","terms","pays","counts","offs","limit","unit","way"]) d27 (Hd.len10 (P:=fun us=>∃ e k,bindArgs _ ⟨us,[]⟩=Sem.load _ e k/\∀ S,W.peek K S (k _)=some (List.zip _ us)) (fun _ _ _ _ _ _ _ _ _ _=>⟨_,_,rfl,fun _=>rfl⟩));have eJ:JQ l.prog w K mg base 1 aN ["self","title","parts","terms","pays","counts","offs","limit","unit","way"] (Sp10M (φkindI K aN)):=⟨f27,_,(WB T F27 ).imp Sp10M.imp,b27,⟨mkm_Kind,a27,i27,mkk_Kind⟩⟩
 have dH:=ci mkm_Cap mkk_Cap h28 (by walk_at"b4") fun _ _ F=>(W2 T F ).imp Sp4M.imp
 have eQ:=ci mkm_Office mkk_Office h29 (by walk_at"b3") fun _ _ F=>(YD T F ).imp Sp3M.imp
 have eP:=ci mkm_Base mkk_Base h30 (by walk_at"b2") fun _ _ F=>(WE T F ).imp Sp2M.imp
 have eO:=ci mkm_Each mkk_Each h31 (by walk_at"b4") fun _ _ F=>(WD T F ).imp Sp4M.imp
 have eN:=ci mkm_Rent mkk_Rent h32 (by walk_at"b3") fun _ _ F=>(WA T F ).imp Sp3M.imp
 have eL:=ci mkm_From mkk_From h33 (by walk_at"b4") fun _ _ F=>(WC T F ).imp Sp4M.imp
 have eK:=ci mkm_Upto mkk_Upto h34 (by walk_at"b4") fun _ _ F=>(Wz T F ).imp Sp4M.imp
 have aG:=cg X G h35 (by walk_at"b2") fun _ _ F=>(KZ T F ).imp Sp2M.imp
 have dZ:=cg X G h36 (by walk_at"b2") fun _ _ F=>(KY T F ).imp Sp2M.imp
 have bL:=cg X G h37 (by walk_at"b2") fun _ _ F=>(Mf T F dZ).imp Sp2M.imp
 have gE:=cg X G h38 (by walk_at"b1") fun _ _ F=>(Uk T F ).imp Sp1M.imp
 have aR:=cg X G h39 (by walk_at"b2") fun _ _ F=>(GP T F bL).imp Sp2M.imp
 have eF:=cg X G h40 (by walk_at"b2") fun _ _ F=>(GR T F aR).imp Sp2M.imp
 have gD:=cg X G h41 (by walk_at"b2") fun _ _ F=>(JW T F aG).imp Sp2M.imp
 have eI:=cg X G h42 (by walk_at"b4") fun _ _ F=>(KW T F aR aG).imp Sp4M.imp
 have eG:=cg X G h43 (by walk_at"b1") fun _ _ F=>(GU T F ).imp Sp1M.imp
 have dG:=cg X G h44 (by walk_at"b1") fun _ _ F=>(GM T F ).imp Sp1M.imp
 have eE:=cg X G h45 (by walk_at"b6") fun _ _ F=>(VD T F aR aG dG).imp Sp6M.imp
 have gC:=cg X G h46 (by walk_at"b6") fun _ _ F=>(GO T F eE eF aG aR eG eI).imp Sp6M.imp
 have eR:=cg X G h47 (by walk_at"b2") fun _ _ F=>(GS T F eJ eK eL eN eO eP).imp Sp2M.imp
 have gA:=cg X G h48 (by walk_at"b2") fun _ _ F=>(VE T F eQ dH eR).imp Sp2M.imp
 have dJ:=cg X G h49 (by walk_at"b2") fun _ _ F=>(Ui T F bL).imp Sp2M.imp
 have fQ:=cg X G h50 (by walk_at"b1") fun _ _ F=>(JX T F ).imp Sp1M.imp
 have fU:=cg X G h51 (by walk_at"b2") fun _ _ F=>(GQ T F dJ fQ).imp Sp2M.imp
 have fX:=cg X G h52 (by walk_at"b1") fun _ _ F=>(Uj T F ).imp Sp1M.imp
 have cE:=ch X G h53 (by walk_at"b1") fun _ _ F=>(GT T F ).imp fun _=>Sp1M.imp
 have fZ:=cg X G h54 (by walk_at"b1") fun _ _ F=>(GN T F fR cE).imp Sp1M.imp
 have fY:=cg X G h55 (by walk_at"b4") fun _ _ F=>(Mg T F fU).imp Sp4M.imp
 exact R5 (P:=l.prog) (w:=w) (base:=base) T F fW fX fY fZ gA aG gC gD gE
theorem walk {l:W.OpenLaw}{q:Program}{XP:(Str->Option Value)->Heap->Prop}{YP:World->Heap->Prop}{d:DefRec}{K:Params->W.Frag}(hn:l.most=some 63) (hdf:d.params.defaults=[])
  (hY:∀ (w:World) (h:Heap),YP w h->(K w.params).In h)
  (F:∀ (w:World) (mg:Str->Option Value) (fa:Addr) (h:Heap),(K w.params).In h->h.Ns mainGlobals mg->mg d.name=some (.ref fa) ->
   ∃ fd:FuncData,(∀ (s:Shared) (u:Value),BindsTo s fd ⟨[u],[]⟩ [("_law_script",u)])/\∀ base:Heap,(K w.params).In base->base.Ns mainGlobals mg->FnOk l.prog w (K w.params) mg base CX0 12 fa fd ["_law_script"] (Jn (K w.params))) :
  W.WalkO q loose XP YP l.row.toRowW d [] (fun f vs=>PySem.call f vs):=
 L2.walk_ofW (n:=63) (k:=12) (x:="_law_script") (CX:=fun _=>CX0) (sp:=fun w=>Jn (K w.params)) hn (by decide) hdf ⟨rfl,by decide,by decide⟩ hY F (fun _ _ a ns hl hB hO hS=>Kz hl hB hO hS) fun _ _ _ _ _ z=>z
end My
local macro_rules | `(tactic| walk_at "fg") => `(tactic| exact ⟨_, _, by k_is, L2.fun_mk (by k_is) (by k_is) (by k_is)⟩)
local macro_rules | `(tactic| walk_at "fm") => `(tactic| exact ⟨_, _, by k_is, by k_is, L2.fun_mk (by k_is) (by k_is) (by k_is)⟩)
local macro_rules | `(tactic| walk_at "cl") => `(tactic| exact ⟨by k_is, by k_is, by k_is, by k_is⟩)
local macro_rules | `(tactic| walk_at "ec") => `(tactic| first | exact L2.excCls_of (by k_is) (by k_is) (by k_is) (by k_is) (by k_is) (by k_is) | exact L2.xcls_of (by k_is) (by k_is) (by kernel_rfl) | exact L2.exm_of (by k_is) (by k_is) (by k_is) (by k_is))
open PySem PySem.W PyProof.Rows
set_option maxRecDepth 100000 in
set_option maxHeartbeats 0 in
theorem PySem.Challenge.cw_doletaper_k45_refused_knots_holds : PySem.Challenge.rw_doletaper_k45_refused_knots.Holds := by
 w_on;o_law
 refine W.holds_open (r:=PySem.Challenge.rw_doletaper_k45_refused_knots.row) (q:=My.hkV) (loose:=[]) (Xt:=fun s=>xlAt My.hkV [] s&&recOk (RowW.records (OpenRow.toRowW PySem.Challenge.rw_doletaper_k45_refused_knots.row)) s) (XP:=XL My.hkV []) (Yf:=Hook.obs (kHook My.HK My.hkA My.hkA_eq)) (Ya:=Hook.val (kHook My.HK My.hkA My.hkA_eq)) (YP:=Hook.says (kHook My.HK My.hkA My.hkA_eq)) (N:=400000) My.hd_left (Hook.of (kHook My.HK My.hkA My.hkA_eq)) (Hook.keeps (kHook My.HK My.hkA My.hkA_eq)) (fun s e=>xl_of s (Bool.and_eq_true_iff.mp e).1) XL.keeps (by rfl) (by rfl) (by rfl) (fun s e=>recFacts_of (Bool.and_eq_true_iff.mp e).2) (by rfl) (by assumption) (by decide +kernel) ⟨rfl,rfl,rfl,rfl,rfl,by decide +kernel⟩ ?hw ?hc
 (case hw=>exact ⟨[W.WData.list []],by kernel_rfl,by kernel_rfl⟩)
 k_fill
 refine My.walk (l:=PySem.Challenge.rw_doletaper_k45_refused_knots) rfl rfl (fun w h Y=>W.kIn_of Y) ?F
 case F=>
  intro w mg fa h KX G hmg
  refine' My.all_mk KX G hmg ?_ ?_ ?_ ?_ ?_ ?_ ?_ ?_ ?_ ?_ ?_ ?_ ?_ ?_ ?_ ?_ ?_ ?_ ?_ ?_ ?_ ?_ ?_ ?_ ?_ ?_ ?_ ?_ ?_ ?_ ?_ ?_ ?_ ?_ ?_ ?_ ?_ ?_ ?_ ?_ ?_ ?_ ?_ ?_ ?_ ?_ ?_ ?_ ?_ ?_ ?_ ?_ ?_ ?_ ?_ ?_ ?_ ?_ ?_ ?_ ?_ ?_ ?_ ?_ ?_ ?_ ?_ ?_ ?_ ?_ ?_ ?_ ?_ ?_ ?_ ?_ ?_ ?_ ?_ ?_ ?_ ?_ ?_ ?_ ?_ ?_ ?_ ?_ ?_ ?_ ?_ ?_ ?_ ?_ ?_ ?_ ?_ ?_ ?_ ?_ ?_ ?_ ?_ ?_ ?_ ?_ ?_ ?_ ?_ ?_ ?_ ?_ ?_ ?_ ?_ ?_ ?_ ?_ ?_ ?_ ?_ ?_ ?_ ?_ ?_ ?_ ?_ ?_ ?_ ?_ ?_ ?_ ?_ ?_ ?_ ?_ ?_ ?_ ?_ ?_ ?_ ?_ ?_ ?_ ?_ ?_ ?_ ?_ ?_ ?_ ?_ ?_ ?_ ?_ ?_ ?_ ?_ ?_ ?_ ?_ ?_ ?_ ?_ ?_ ?_ ?_ ?_ ?_ ?_ ?_ ?_ ?_ ?_ ?_ ?_ ?_ ?_ ?_ ?_ ?_ ?_ ?_ ?_ ?_ ?_ ?_ ?_ ?_ ?_ ?_ ?_ ?_ ?_ ?_ ?_ ?_ ?_ ?_ ?_ ?_ ?_ ?_ ?_ ?_ ?_ ?_ ?_ ?_ ?_ ?_ ?_ ?_ ?_ ?_ ?_ ?_ ?_ ?_ ?_ ?_ ?_ ?_ ?_ ?_ ?_ ?_
  any_goals first | k_is | (unfold My.mK;k_is) | walk_at"fg" | walk_at"fm" | walk_at"cl" | kit_is | walk_at"ec" | kernel_rfl
