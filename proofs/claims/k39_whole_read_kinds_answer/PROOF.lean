import PyProof.Rows.All
import KE.IntBitsLaws
import KE.KBytesUnr
import KE.KDictSum
import KE.KOf
import KE.KPairRows
import KE.KPar
import KE.KRevIter
import KE.KSearch
import KE.KSortTup
import KE.KSplitRange
import KE.KTryMore
import KE.KxText
import OpenK.KSplit
import Wide.Meth
import Wide.FinOn
import KE.RegKIsAll
import PyProof.EqAt
import PyProof.EqKinds
import PyProof.TupleCall
import KE.KIntText
import PyProof.FString
import PyProof.Rows.SetFrom
import PySem.Challenge.RW_doletaper_k39_whole_read_kinds_answer
set_option Elab.async false
set_option compiler.extract_closed false
set_option linter.all false
set_option maxRecDepth 100000
set_option maxHeartbeats 4000000
open PySem
variable {x qual acc z:Str}{s:Shared}{p it l C dx ea L a1 a2 a3:Addr}{w:World}{M:Model}{pos px py:Pos}{F n t' i j m a' b':Nat}{q:Rat}{loose ns ps zs as:List Str}{α β:Type}{N N':Addr->Prop}{us its:List Value}{u doc pm cdv oc cls:Value}{P prog:Program}{ch fp ex:List Addr}{A:Around}{E:Value->Shared->Prop}{pins:List (Addr×Obj)}{op:CmpOp}{K:W.Frag}{st:Stmt}{es ifs:List Expr}{tg iter elt e0 e1 e2:Expr}{body:List Stmt}{lo r:Int}{pl:Sem Bool}{kw:List (Str×Value)}{env:Env}{mg:Str->Option Value}{base:Heap}{fd:FuncData}{outer:List Env}{scope:Scope}{an od:Option Addr}{T:String}{XP:(Str->Option Value)->Heap->Prop}{YP:World->Heap->Prop}{caps:List (Option Nat)}{ow:Addr->Nat}{qs:Nat->Nat->Addr}
def Am:=@if_neg
def An:=@if_pos
def Aq:=@List.length_append
def As:=@List.length_map
def Au:=@Nat.le_refl
def Av:=@List.length_singleton
def Aw:=@wpAny_bind
def Ax:=@List.getElem?_eq_getElem
def Az:=@List.map_append
def AA:=@List.mem_singleton
def AB:=@sizeLine_eq
def AC:=@Heap.lt_size
def AD:=@Bool.eq_false_iff
def AE:=@List.mem_cons_of_mem
def AF:=@List.mem_cons
def AG:=@List.mem_of_getElem?
def AH:=@List.mem_cons_self
def AI:=@Heap.get?_push_of_some
def AJ:=@List.take_of_length_le
def AK:=@List.mem_append
def AL:=@PySem.F.plainAttrs_list
def AM:=@wpAny_pure
def AN:=@List.length_cons
def AO:=@Option.some.inj
def AQ:=@Nat.ne_of_lt
def AR:=@List.size_toArray
def AS:=@List.getElem?_map
def AU:=@List.getElem?_eq_some_iff
def AV:=@decide_eq_false
def AW:=@Nat.lt_of_lt_of_le
def AX:=@List.take_add_one
def AY:=@Int.emod_nonneg
def AZ:=@Nat.zero_le
def A0:=@PySem.F.slot_list_append
def A1:=@PySem.F.type_list_append
def A2:=@Bool.false_ne_true
def A3:=@List.map_cons
def A4:=@Nat.le_trans
def A5:=@decide_eq_true
def A6:=@Int.emod_lt_of_pos
def A7:=@List.getElem?_append_left
def A8:=@Option.map_eq_some_iff
def A9:=@wpAny_mono
def Ia:=@Heap.get?_push_size
def Ib:=@List.getElem?_append_right
def Ic:=@List.mem_append_right
def Ie:=@List.append_nil
def Ig:=@List.length_take
def Ih:=@Nat.sub_self
def Ii:=@List.mem_map
def Ij:=@Nat.lt_irrefl
def Ik:=@List.mem_filter
def Il:=@List.getElem?_eq_none
def Im:=@List.mem_append_left
def Io:=@List.all_eq_true
def Ip:=@Int.mul_ne_zero
def Iq:=@List.nodup_append
def Ir:=@Ne.symm
def Iu:=@Bool.and_eq_true
def Iv:=@Int.eq_ofNat_of_zero_le
def Iw:=@List.length_filter_le
def Iy:=@Bool.eq_iff_iff
def Iz:=@Rat.num_divInt_den
def IA:=@PyProof.Rows.boot_list
def IB:=@of_decide_eq_true
def IC:=@List.flatten_append
def ID:=@wpAny_truthy_bool
def IE:=@wpAny_passesOwn
def IF:=@Nat.lt_succ_self
def IG:=@codeAny_mono
def IH:=@Nat.le_succ
def II:=@List.nodup_cons
def IJ:=@Bool.and_false
def IK:=@Int.natAbs_mul
def IL:=@Int.mul_assoc
def IM:=@List.take_length
def IP:=@List.length_eq_zero_iff
def IQ:=@wpAny_execs_nil
def IR:=@wpAny_Call_Name_kw
def IS:=@List.length_drop
def IT:=@Nat.lt_of_le_of_lt
def IU:=@List.find?_cons
def IV:=@List.map_map
def IW:=@decide_eq_true_eq
def IX:=@List.ext_getElem?
def IY:=@PySem.mem_of_lookup
def IZ:=@List.filter_append
def I8:=@List.getElem?_of_mem
def I9:=@List.getElem?_cons_succ
def G8:=@Nat.le_of_ble_eq_true
def G9:=@PySem.F.excBase_ValueError
def Ga:=@PySem.F.type_list_extend
def Gb:=@PySem.F.slot_list_extend
def Gc:=@PySem.F.plainAttrs_str
def Gd:=@List.eq_nil_of_length_eq_zero
def Ge:=@Array.length_toList
def Gf:=@Rat.intCast_mul
def Gg:=@Array.toList_append
def Gh:=@False.elim
def Gi:=@PySem.F.slot_str_join
def Ja:=@PySem.F.type_str_join
def Jb:=@PySem.F.slot_str_split
def Jc:=@PySem.F.type_str_split
def pJ:=@Nat.le_of_lt
def pH:=@PyProof.Rows.callWith_type1
def pG:=@decide_eq_true_iff
def qz:=@Bool.not_eq_true'
def pF:=@List.getD_eq_getElem?_getD
def pE:=@Heap.get?_update_of_ne
def Q0g:=@PassesOwn.never
def qW:=@Option.map_some
def qV:=@Nat.ne_of_gt
def qU:=@Classical.choose_spec
def qT:=@List.nodup_nil
def qS:=@Rat.le_of_lt
def qR:=@Int.zero_add
def qy:=@Heap.get?_update_self
def qx:=@List.take_append_drop
noncomputable section
section
open PySem.W
theorem wsa:looksOpen PySem.Challenge.rw_doletaper_k39_whole_read_kinds_answer.row.prog=true:=by kernel_rfl
theorem wsb:PySem.Challenge.rw_doletaper_k39_whole_read_kinds_answer.row.partSaid=true:=by unfold OpenRow.partSaid;rw[wsa];kernel_rfl
theorem wsc:PySem.Challenge.rw_doletaper_k39_whole_read_kinds_answer.row.wellSaid=true:=by unfold OpenRow.wellSaid;rw[wsb];kernel_rfl
theorem wsd:PySem.Challenge.rw_doletaper_k39_whole_read_kinds_answer.wellSaid=true:=by unfold OpenLaw.wellSaid;rw[wsc];kernel_rfl
end
namespace Hd
open PySem PySem.W PySem.Calls PyProof.Rows
section
variable {α β:Type}
def ap (k:α->β)(x:α):β:=k x
def fB (b:Bool)(k:Bool->β):β:=@Bool.rec (λ_=>β) (ap k false) (ap k true) b
theorem Sy (b)(k:Bool->β):fB b k=k b:=by cases b<;>rfl
def fN (n:Nat)(k:Nat->β):β:=@Nat.rec (λ_=>β) (ap k 0) (λm _=>ap k (Nat.succ m)) n
theorem Yo (n:Nat)(k:Nat->β):fN n k=k n:=by cases n<;>rfl
def fL (f:α->(α->β)->β)(l:List α):(List α->β)->β:=
 @List.rec α (λ_=>(List α->β)->β) (λk=>ap k []) (λa _ ih k=>f a λa'=>ih λl'=>ap k (a' :: l')) l
theorem N5 {f}(hf:∀a k,f a k=k a):∀(l) (k:List α->β),fL f l k=k l
 | [],_=>rfl
 | a::l,k=>by show f a (λa'=>fL f l λJ=>ap k (a' :: J))=_;rw[hf,N5 hf l];rfl
def fA (f:α->(α->β)->β)(x:Array α)(k:Array α->β):β:=@Array.rec α (λ_=>β) (λl=>fL f l λl'=>ap k ⟨l'⟩) x
theorem UR {f}(hf:∀a k,f a k=k a)(x)(k:Array α->β):fA f x k=k x:=by
 cases x with|mk l=>exact N5 hf l _
def fO (f:α->(α->β)->β)(x:Option α)(k:Option α->β):β:=@Option.rec α (λ_=>β) (ap k none) (λa=>f a λa'=>ap k (some a')) x
theorem N4 {f}(hf:∀a k,f a k=k a)(x)(k:Option α->β):fO f x k=k x:=by
 cases x with
 | none=>rfl
 | some a=>exact hf a _
def fV (v:Value)(k:Value->β):β:=@Value.rec (λ_=>β) (ap k .none) (ap k .ellipsis) (ap k .notImplemented) (λb=>fB b λb=>ap k (.bool b)) (λi t=>fN t λt=>ap k (.int i t)) (λi t=>ap k (.float i t))
 (λs t=>fN t λt=>ap k (.str s t)) (λb t=>ap k (.bytes b t)) (λs=>ap k (.type s)) (λs=>ap k (.builtin s)) (λa=>fN a λa=>ap k (.ref a)) v
theorem YJ (v)(k:Value->β):fV v k=k v:=by
 cases v<;>first|rfl|exact Sy _ _|exact Yo _ _
def fE (e:DictEntry)(k:DictEntry->β):β:=@DictEntry.rec (λ_=>β) (λh a b=>fV a λa=>fV b λb=>ap k ⟨h,a,b⟩) e
theorem Cq (e)(k:DictEntry->β):fE e k=k e:=by
 cases e with|mk h a b=>show fV a _=_;rw[YJ,YJ];rfl
def fF (f:FuncData)(k:FuncData->β):β:=@FuncData.rec (λ_=>β) (λnm qn pa bo sc gl cl J kw doc pm an cd ct U=>fN gl λgl=>fV J λJ=>fV kw λkw=>fV doc λdoc=>fV pm λpm=>fO fN an λan=>fV cd λcd=>fV ct λct=>fN U λU=>ap k ⟨nm,qn,pa,bo,sc,gl,cl,J,kw,doc,pm,an,cd,ct,U⟩) f
theorem Cm (f)(k:FuncData->β):fF f k=k f:=by
 cases f;show fN _ _=_;simp only[Yo,YJ,N4 Yo];rfl
def fC (c:ClassData)(k:ClassData->β):β:=@ClassData.rec (λ_=>β) (λnm U mr ns qn hd sl J ab co de=>fL fV U λU=>fL fV mr λmr=>fN ns λns=>fB hd λhd=>fL fV J λJ=>fB ab λab=>fB de λde=>ap k ⟨nm,U,mr,ns,qn,hd,sl,J,ab,co,de⟩) c
theorem Ct (c)(k:ClassData->β):fC c k=k c:=by
 cases c;show fL _ _ _=_;simp only[Yo,Sy,N5 YJ];rfl
def fD (d:Data)(k:Data->β):β:=@Data.rec (λ_=>β) (ap k .plain) (λv=>fV v λv=>ap k (.prim v)) (λx n=>fA fV x λx=>fN n λn=>ap k (.seq x n)) (λx n=>fA fE x λx=>fN n λn=>ap k (.dict x n))
 (λx n t=>ap k (.set x n t)) (λb n=>ap k (.bytearray b n)) (λv=>fO fV v λv=>ap k (.cell v)) (λf=>fF f λf=>ap k (.func f)) (λc=>fC c λc=>ap k (.cls c)) (λx=>fA fV x λx=>ap k (.fields x)) (ap k .freed) d
theorem Cs (d)(k:Data->β):fD d k=k d:=by
 cases d with
 | plain|set|bytearray|freed=>rfl
 | prim v=>exact YJ _ _
 | seq x n=>show fA fV _ _=_;rw[UR YJ,Yo];rfl
 | dict x n=>show fA fE _ _=_;rw[UR Cq,Yo];rfl
 | cell v=>exact N4 YJ _ _
 | func f=>exact Cm _ _
 | cls f=>exact Ct _ _
 | fields f=>exact UR YJ _ _
def lR (o:Obj)(k:Obj->β):β:=@Obj.rec (λ_=>β) (λc d x s=>fV c λc=>fO fN d λd=>fD x λx=>fA (fO fV) s λs=>ap k ⟨c,d,x,s⟩) o
theorem VJ (o)(k:Obj->β):lR o k=k o:=by
 cases o;show fV _ _=_;rw[YJ,N4 Yo,Cs,UR (N4 YJ)];rfl
def fT (t:BT):(BT->β)->β:=@BT.rec (λ_=>(BT->β)->β) (λk=>ap k .nil) (λv _ _ l r k=>lR v λv=>l λl=>r λr=>ap k (.node v l r)) t
theorem B8:∀(t) (k:BT->β),fT t k=k t
 | .nil,_=>rfl
 | .node v l r,k=>by show lR v (λv=>fT l λl=>fT r λr=>ap k (.node v l r))=_;rw[VJ,B8 l,B8 r];rfl
def fP (p:Pos)(k:Pos->β):β:=@Pos.rec (λ_=>β) (λa b c d=>fN a λa=>fN b λb=>fN c λc=>fN d λd=>ap k ⟨a,b,c,d⟩) p
theorem Ck (p)(k:Pos->β):fP p k=k p:=by
 cases p;show fN _ _=_;simp only[Yo];rfl
def fS (s:SharedT)(k:SharedT->β):β:=@SharedT.rec (λ_=>β) (λt n li g d tk os=>fT t λt=>fN n λn=>fN tk λtk=>ap k ⟨t,n,li,g,d,tk,os⟩) s
theorem Sw (s)(k:SharedT->β):fS s k=k s:=by
 cases s;show fT _ _=_;rw[B8,Yo,Yo];rfl
def fH (s:Shared)(k:Shared->β):β:=@Shared.rec (λ_=>β) (λh g d tk os=>@Heap.rec (λ_=>β) (λx li=>fA lR x λx=>fN tk λtk=>ap k ⟨⟨x,li⟩,g,d,tk,os⟩) h) s
theorem Sx (s)(k:Shared->β):fH s k=k s:=by
 cases s with|mk h=>cases h;show fA _ _ _=_;rw[UR VJ,Yo];rfl
end
def sp {α:Type}:List α->List α×List α
 | []=>([],[])
 | x::xs=>(x::(sp xs).2,(sp xs).1)
theorem Nw {α}:∀(l:List α) (i:Nat),(sp l).1[i]?=l[2*i]?/\(sp l).2[i]?=l[2*i+1]?
 | [],i=>by simp[sp]
 | x::xs,i=>by
  obtain⟨a,b⟩:=Nw xs i;constructor
  ·cases i with
   | zero=>rfl
   | succ j=>show(sp xs).2[j]?=_;rw[(Nw xs j).2,show 2*(j+1)=2*j+1+1 by omega,I9]
  ·show(sp xs).1[i]?=_;rw[a,I9]
theorem Se {α}:∀(l:List α),(sp l).1.length<=l.length/\(sp l).2.length<=l.length
 | []=>by simp[sp]
 | x::xs=>by
  obtain⟨a,b⟩:=Se xs;constructor<;>simp[sp]<;>omega
def Ka:Nat->List Obj->BT
 | 0,_=>.nil
 | _+1,[]=>.nil
 | n+1,x::xs=>.node x (Ka n (sp xs).1) (Ka n (sp xs).2)
theorem WO:∀(n:Nat) (l),l.length<=n->∀i,(Ka n l).get i=l[i]?
 | 0,l,h,i=>by
  have:l=[]:=Gd (by omega);subst this;simp[Ka,BT.get]
 | n+1,[],h,i=>by simp[Ka,BT.get]
 | n+1,x::xs,h,i=>by
  have U:=Se xs;have h':xs.length<=n:=by simpa using h
  rw[Ka,BT.get_node,WO n _ (by omega),WO n _ (by omega),(Nw xs _).1,(Nw xs _).2];by_cases J:i=0
  ·subst J;rfl
  ·rw[Am J];obtain⟨j,rfl⟩:∃j,i=j+1:=⟨i-1,by omega⟩
   rw[I9];by_cases h1:(j+1) % 2=1
   ·rw[An h1,show 2*((j+1) / 2)=j by omega]
   ·rw[Am h1,show 2*((j+1) / 2-1)+1=j by omega]
theorem P9 (l)(t:BT)(h:∀i,t.get i=l[i]?):t.list l.length=l:=by
 unfold BT.list;apply IX;intro i;rw[AS];by_cases hi:i<l.length
 ·rw[List.getElem?_range hi,qW,h,Ax hi];rfl
 ·rw[Il (by simpa using hi),Il (by omega)];rfl
def pS (s:Shared):SharedT:=⟨Ka s.heap.objs.toList.length s.heap.objs.toList,s.heap.objs.toList.length,s.heap.life,s.gens,s.drawn,s.toks,s.os⟩
theorem RT (s):(pS s).abs=s:=by
 obtain⟨⟨⟨l⟩,J⟩,g,d,U,os⟩:=s;show(⟨absHeap _ _ _,_,_,_,_⟩:Shared)=_;simp only[pS,absHeap];rw[P9 l _ (WO _ l (Au _))]
section
variable {β:Type}
def oK (x:Option (Flow×SharedT×Code×Pos))(k:SharedT->Code->Pos->Option β):Option β:=match x with
 | some (.next,s,c,p)=>k s c p
 | _=>none
def go (seg:List Stmt->SharedT->Pos->Option (Flow×SharedT×Code×Pos))(gs:List (List Stmt)):List Code->SharedT->Pos->(List Code->SharedT->Pos->Option β)->Option β:=
 @List.rec (List Stmt) (λ_=>List Code->SharedT->Pos->(List Code->SharedT->Pos->Option β)->Option β) (λcs s p k=>k cs s p)
  (λg _ J cs s p k=>oK (seg g s p) λs c p=>fS s λs=>fP p λp=>J (c::cs) s p k) gs
theorem Ud {x:Option (Flow×SharedT×Code×Pos)}(h:oK x k=some a):∃s c p,x=some (.next,s,c,p)/\k s c p=some a:=by
 unfold oK at h;split at h
 ·exact⟨_,_,_,rfl,h⟩
 ·cases h
theorem NU {cs:List Code}{s:SharedT}{p:Pos}{k:List Code->SharedT->Pos->Option β} :
  go seg (g::gs) cs s p k=oK (seg g s p) λs c p=>go seg gs (c::cs) s p k:=by
 show oK (seg g s p) (λs c p=>fS s λs=>fP p λp=>go seg gs (c::cs) s p k)=_
 congr 1;funext s c p;rw[Sw,Ck]
theorem B1 {a:List Code×β}(hk:∀cs s p,k cs s p=some a->a.1=cs) :
  ∀(gs:List (List Stmt)) (cs:List Code) (s:SharedT) (p:Pos),go seg gs cs s p k=some a->∀d∈cs,d∈a.1
 | [],cs,s,p,h,d,hd=>by rw[hk cs s p h];exact hd
 | g::gs,cs,s,p,h,d,hd=>by
  rw[NU] at h;obtain⟨s',J,p',_,h2⟩:=Ud h;exact B1 hk gs _ s' p' h2 d (AE _ hd)
variable {tb:String->Option Builtin} {p:Program} {w:World} {n₀:Nat} {ann:Option Value} {env:Env} {q:Pos}
theorem Sv {F M:Nat}{Z:Shared->Prop}{k:List Code->SharedT->Pos->Option (List Code×β)}{a:List Code×β}(hk:∀cs s p,k cs s p=some a->a.1=cs)(hc:∀d∈a.1,d=c)
  (fin:∀cs s pos,k cs s pos=some a->∃r,topRun tb p w n₀ ann M s.abs (restOf [] env c pos [topFrame q])=some r/\Z r) :
  ∀(gs:List (List Stmt)) (cs:List Code) (s:SharedT) (pos:Pos),go (λg s pos=>segRunT tb p w n₀ ann 1 F s (piecesOf g env c pos [topFrame q])) gs cs s pos k=some a ->
   ∃r,topRun tb p w n₀ ann (gs.length*F+M) s.abs (restOf gs.flatten env c pos [topFrame q])=some r/\Z r
 | [],cs,s,pos,h=>by
  obtain⟨r,h1,h2⟩:=fin cs s pos h;exact⟨r,by simpa using h1,h2⟩
 | g::gs,cs,s,pos,h=>by
  rw[NU] at h;obtain⟨s',U,p',h1,h2⟩:=Ud h;have J:U=c:=hc _ (B1 hk gs _ s' p' h2 U (.head _));subst J;obtain⟨r,h3,h4⟩:=Sv hk hc fin gs _ s' p' h2;refine⟨r,?_,h4⟩;have:=piece_app (rest:=gs.flatten) (segRun_of h1) h3;rw[List.flatten_cons,show(g::gs).length*F+M=F+(gs.length*F+M) by rw[AN,Nat.add_mul];omega];exact this
end
def YK {α:Type}(c:Nat):Nat->List α->List (List α)
 | 0,l=>[l]
 | _+1,[]=>[]
 | n+1,x::xs=>(x::xs.take c)::YK c n (xs.drop c)
theorem JX {α}(c:Nat):∀(n:Nat) (l:List α),(YK c n l).flatten=l
 | 0,l=>by simp[YK]
 | n+1,[]=>rfl
 | n+1,x::xs=>by rw[YK,List.flatten_cons,JX c n];simp
def env0 (p:Program):Env:={ scope:=p.main.scope,locals:=mainNs,globals:=mainNs,cells:=[],code:=.ref 13,frame:=some 14 }
def Wm (p:Program):Code:=.body (behindTheImports p) (env0 p)
abbrev Vq:Pos:=⟨0,0,0,0⟩
noncomputable abbrev lD (P:Params) (os:OsState):Shared:=⟨boot_heap P,Array.mk [],boot_drawn,boot_toks,os⟩
section
variable {β:Type}
def nO (p:Program)(w:World)(M:Nat)(look:Shared->β)(cs:List Code)(s:SharedT)(pos:Pos):Option (List Code×β):=
 fL lR (s.tree.list s.n) λl=>match topRun treeTable p w 11 (some (.ref 6)) M ⟨⟨⟨l⟩,s.life⟩,s.gens,s.drawn,s.toks,s.os⟩ (restOf [] (env0 p) (Wm p) pos [topFrame Vq]) with
 | some r=>fH r λr=>some (cs,look r)
 | none=>none
theorem N0 {p:Program}{M:Nat}{cs:List Code}{s:SharedT}{a:List Code×β}(h:nO p w M look cs s pos=some a) :
  a.1=cs/\∃r,topRun treeTable p w 11 (some (.ref 6)) M s.abs (restOf [] (env0 p) (Wm p) pos [topFrame Vq])=some r/\look r=a.2:=by
 unfold nO at h;rw[N5 VJ] at h;have e:(⟨⟨⟨s.tree.list s.n⟩,s.life⟩,s.gens,s.drawn,s.toks,s.os⟩:Shared)=s.abs:=rfl;rw[e] at h;split at h
 ·rename_i r J;rw[Sx] at h;cases h;exact⟨rfl,r,J,rfl⟩
 ·cases h
def answer (p:Program)(c F M:Nat)(look:Shared->β)(w:World)(os:OsState):Option (Thread×Code×Pos×List Code×β):=
 match topGo treeTable p w 11 (some (.ref 6)) 12 (lD w.params os) (topStub p) with
 | some (sa,ta)=>match segRun treeTable p w 11 (some (.ref 6)) 1 1 sa (blockOf (behindTheImports p) (env0 p) (Wm p) Vq [topFrame Vq]) with
  | some (.next,sb,cb,pb)=>(fS (pS sb) λst=>go (λg s pos=>segRunT treeTable p w 11 (some (.ref 6)) 1 F s (piecesOf g (env0 p) (Wm p) pos [topFrame Vq])) (YK c 200 (behindTheImports p)) [] st pb (nO p w M look)).map λa=>(ta,cb,pb,a)
  | _=>none
 | none=>none
def answer0 (p:Program)(n:Nat)(b:β):Option (Thread×Code×Pos×List Code×β):=some (⟨denote treeTable (Wm p),Wm p,Vq,[topFrame Vq]⟩,Wm p,Vq,List.replicate n (Wm p),b)
theorem ZX {p:Program}{c M:Nat}{os:OsState}{b:β}(h:answer p c F M look w os=answer0 p n b) :
  ∃r,topRun treeTable p w 11 (some (.ref 6)) (12+(1+((YK c 200 (behindTheImports p)).length*F+M))) (lD w.params os) (topStub p)=some r/\look r=b:=by
 unfold answer answer0 at h;split at h
 ·rename_i sa ta hg;split at h
  ·rename_i sb cb pb hs;rw[Sw] at h;obtain⟨a,h1,h2⟩:=A8.mp h;simp only[Prod.mk.injEq] at h2;obtain⟨rfl,rfl,rfl,U,h4⟩:ta=_/\cb=_/\pb=_/\a.1=_/\a.2=_:=by
    obtain⟨x1,x2,x3,J⟩:=h2;exact⟨x1,x2,x3,congrArg Prod.fst J,congrArg Prod.snd J⟩
   obtain⟨r,k1,k2⟩:=Sv (Z:=λr=>look r=a.2) (c:=Wm p) (q:=Vq) (env:=env0 p) (λcs s p e=>(N0 e).1) (λd hd=>List.eq_of_mem_replicate (U▸hd)) (λcs s pos e=>(N0 e).2) _ _ _ _ h1;rw[RT,JX] at k1;exact⟨r,go_top hg (piece_block hs k1),k2.trans h4⟩
  ·cases h
 ·cases h
end
theorem Ca {p q:Program}{Ya:World->α}{N c M:Nat}(e:opening p=plainProg p.main.scope.names)(hN:Nat.ble 600 N=true)(f:∀s,fenceModules? p s=some s)
  (size:∀w:World,((boot_heap w.params).isNs mainGlobals&&(Array.mk []:Array GenState).size==0,(boot_heap w.params).objs.size,(boot_heap w.params).nsMap mainGlobals "__annotations__")=(true,11,some (Value.ref 6)))
  (ans:∀(w:World) (os:OsState),answer p c F M (λs=>((staticsOk (importedModules p.main.body) (boot_heap w.params) s.heap&&namesBound p s.heap&&gensDone s&&laidKept (boot_heap w.params) s.heap),Yf s)) w os=answer0 p n (true,Ya w))
  (ans2:∀(w:World) (os:OsState),answer p c F M (λs=>(openSeen q loose (importedModules p.main.body) Xt true s).1) w os=answer0 p n (openGood q loose).1)
  (ans3a:∀(w:World) (os:OsState),answer p c F M (λs=>(openSeen q loose (importedModules p.main.body) Xt true s).2.1) w os=answer0 p n (openGood q loose).2.1)
  (ans3b:∀(w:World) (os:OsState),answer p c F M (λs=>(openSeen q loose (importedModules p.main.body) Xt true s).2.2.1) w os=answer0 p n (openGood q loose).2.2.1)
  (ans3c:∀(w:World) (os:OsState),answer p c F M (λs=>(openSeen q loose (importedModules p.main.body) Xt true s).2.2.2.1) w os=answer0 p n (openGood q loose).2.2.2.1)
  (ans4:∀(w:World) (os:OsState),answer p c F M (λs=>(openSeen q loose (importedModules p.main.body) Xt true s).2.2.2.2) w os=answer0 p n (openGood q loose).2.2.2.2) (le:Nat.ble (12+(1+((YK c 200 (behindTheImports p)).length*F+M))) N=true):LeftO p q loose Xt Yf Ya N:=λw=>by
 obtain⟨⟨h,gs,d,k,os⟩,e1,e2⟩:=A8.mp (boot_open e hN f w);obtain⟨rfl,rfl,rfl,rfl⟩:h=boot_heap w.params/\gs=Array.mk []/\d=boot_drawn/\k=boot_toks:=by simpa using e2
 obtain⟨z1,z2,z3⟩:_/\_/\_:=by simpa only[Prod.mk.injEq] using size w
 obtain⟨r,h1,h2⟩:=ZX (ans w os);simp only[Prod.mk.injEq] at h2;obtain⟨l1,l3⟩:=h2;obtain⟨r',a8,a4⟩:=ZX (ans2 w os);obtain⟨ra,a7,J⟩:=ZX (ans3a w os);obtain⟨rb,a5,a0⟩:=ZX (ans3b w os);obtain⟨rc,a6,U⟩:=ZX (ans3c w os);obtain⟨r3,h3,h4⟩:=ZX (ans4 w os);rw[AO (a8.symm.trans h1)] at a4;rw[AO (a7.symm.trans h1)] at J;rw[AO (a5.symm.trans h1)] at a0;rw[AO (a6.symm.trans h1)] at U;rw[AO (h3.symm.trans h1)] at h4;have l2:openSeen q loose (importedModules p.main.body) Xt true r=openGood q loose:=Prod.ext a4 (Prod.ext J (Prod.ext a0 (Prod.ext U h4)));have r1:=topRun_mono (N-(12+(1+((YK c 200 (behindTheImports p)).length*F+M)))) _ _ _ _ h1;rw[Nat.add_sub_cancel' (G8 le)] at r1;have t:topFrom treeTable p w N ⟨boot_heap w.params,Array.mk [],boot_drawn,boot_toks,os⟩=some r:=by
  unfold topFrom;rw[z1];simp only;rw[z2,z3,r1];simp only[Option.bind_some];rw[l1]
 unfold openEnds;rw[e1];simp only[Option.bind_some];rw[t];simp only[qW,l2,l3]
theorem left_okF {p q:Program}{Ya:World->α}{N c M:Nat}{fin:World->OsState->Shared}(e:opening p=plainProg p.main.scope.names)(hN:Nat.ble 600 N=true)(f:∀s,fenceModules? p s=some s)
  (size:∀w:World,((boot_heap w.params).isNs mainGlobals&&(Array.mk []:Array GenState).size==0,(boot_heap w.params).objs.size,(boot_heap w.params).nsMap mainGlobals "__annotations__")=(true,11,some (Value.ref 6)))
  (ans:∀(w:World) (os:OsState),answer p c F M (λs=>s) w os=answer0 p n (fin w os))
  (a1:∀(w:World) (os:OsState),fH (fin w os) (λs=>((staticsOk (importedModules p.main.body) (boot_heap w.params) s.heap&&namesBound p s.heap&&gensDone s&&laidKept (boot_heap w.params) s.heap),Yf s))=(true,Ya w))
  (a2:∀(w:World) (os:OsState),fH (fin w os) (λs=>(openSeen q loose (importedModules p.main.body) Xt true s).1)=(openGood q loose).1)
  (a3:∀(w:World) (os:OsState),fH (fin w os) (λs=>(openSeen q loose (importedModules p.main.body) Xt true s).2.1)=(openGood q loose).2.1)
  (a4:∀(w:World) (os:OsState),fH (fin w os) (λs=>(openSeen q loose (importedModules p.main.body) Xt true s).2.2.1)=(openGood q loose).2.2.1)
  (a5:∀(w:World) (os:OsState),fH (fin w os) (λs=>(openSeen q loose (importedModules p.main.body) Xt true s).2.2.2.1)=(openGood q loose).2.2.2.1)
  (a6:∀(w:World) (os:OsState),fH (fin w os) (λs=>(openSeen q loose (importedModules p.main.body) Xt true s).2.2.2.2)=(openGood q loose).2.2.2.2) (le:Nat.ble (12+(1+((YK c 200 (behindTheImports p)).length*F+M))) N=true):LeftO p q loose Xt Yf Ya N:=λw=>by
 obtain⟨⟨h,gs,d,k,os⟩,e1,e2⟩:=A8.mp (boot_open e hN f w);obtain⟨rfl,rfl,rfl,rfl⟩:h=boot_heap w.params/\gs=Array.mk []/\d=boot_drawn/\k=boot_toks:=by simpa using e2
 obtain⟨z1,z2,z3⟩:_/\_/\_:=by simpa only[Prod.mk.injEq] using size w
 obtain⟨r,h1,h2⟩:=ZX (ans w os);have J:=a1 w os;have b2:=a2 w os;have b3:=a3 w os;have b4:=a4 w os;have U:=a5 w os;have b6:=a6 w os;rw[Sx,<-h2] at J b2 b3 b4 U b6;simp only[Prod.mk.injEq] at J;obtain⟨l1,l3⟩:=J;have l2:openSeen q loose (importedModules p.main.body) Xt true r=openGood q loose:=Prod.ext b2 (Prod.ext b3 (Prod.ext b4 (Prod.ext U b6)));have r1:=topRun_mono (N-(12+(1+((YK c 200 (behindTheImports p)).length*F+M)))) _ _ _ _ h1;rw[Nat.add_sub_cancel' (G8 le)] at r1;have t:topFrom treeTable p w N ⟨boot_heap w.params,Array.mk [],boot_drawn,boot_toks,os⟩=some r:=by
  unfold topFrom;rw[z1];simp only;rw[z2,z3,r1];simp only[Option.bind_some];rw[l1]
 unfold openEnds;rw[e1];simp only[Option.bind_some];rw[t];simp only[qW,l2,l3]
end Hd
namespace Hd
open PySem PySem.W
theorem size (w:World):((boot_heap w.params).isNs mainGlobals&&(Array.mk []:Array GenState).size==0,(boot_heap w.params).objs.size,(boot_heap w.params).nsMap mainGlobals "__annotations__")=(true,11,some (Value.ref 6)):=by
 kernel_rfl
end Hd
namespace Hd
theorem len1 {P:List α->Prop}(h:∀a0,P [a0]):∀us,us.length=1->P us
 | [a0],_=>h a0
theorem len2 {P:List α->Prop}(h:∀a0 a1,P [a0,a1]):∀us,us.length=2->P us
 | [a0,a1],_=>h a0 a1
theorem len3 {P:List α->Prop}(h:∀a0 a1 a2,P [a0,a1,a2]):∀us,us.length=3->P us
 | [a0,a1,a2],_=>h a0 a1 a2
theorem len4 {P:List α->Prop}(h:∀a0 a1 a2 a3,P [a0,a1,a2,a3]):∀us,us.length=4->P us
 | [a0,a1,a2,a3],_=>h a0 a1 a2 a3
theorem len5 {P:List α->Prop}(h:∀a0 a1 a2 a3 a4,P [a0,a1,a2,a3,a4]):∀us,us.length=5->P us
 | [a0,a1,a2,a3,a4],_=>h a0 a1 a2 a3 a4
theorem len10 {P:List α->Prop}(h:∀a0 a1 a2 a3 a4 a5 a6 a7 a8 a9,P [a0,a1,a2,a3,a4,a5,a6,a7,a8,a9]):∀us,us.length=10->P us
 | [a0,a1,a2,a3,a4,a5,a6,a7,a8,a9],_=>h a0 a1 a2 a3 a4 a5 a6 a7 a8 a9
end Hd
namespace L2
open PySem
def Xz (s:Stmt)(j:Nat):Stmt:=match s with
 | .ClassDef _ _ _ body _ _ _ _ _ _ _=>body.getD j (.Pass ⟨0,0,0,0⟩)
 | _=>.Pass ⟨0,0,0,0⟩
def ZD (s:Stmt):Arguments:=match s with
 | .FunctionDef _ a _ _ _ _ _ _ _ _=>a
 | _=>{ posonlyargs:=[],args:=[],vararg:=none,kwonlyargs:=[],kw_defaults:=[],kwarg:=none,defaults:=[] }
def Q9 (s:Stmt):List Stmt:=match s with
 | .FunctionDef _ _ b _ _ _ _ _ _ _=>b
 | _=>[]
def Qx (s:Stmt):Scope:=match s with
 | .FunctionDef _ _ _ _ _ _ sc _ _ _=>sc
 | _=>{ kind:=.function,names:=[],isGenerator:=false,isCoroutine:=false }
end L2
namespace My
open PySem PyProof.Rows L2
abbrev KI:=PySem.Challenge.pw_doletaper_k39_whole_read_kinds_answer
abbrev KJ:=PySem.Challenge.rw_doletaper_k39_whole_read_kinds_answer.row
noncomputable def top (i:Nat):Stmt:=KI.main.body.getD i (.Pass ⟨0,0,0,0⟩)
def mS (k:Nat):Stmt:=Xz (top (k / 100)) (k % 100)
noncomputable abbrev Ek (P:Params)(x:Str)(t:Tok)(v:Value):DictEntry:=⟨PyData.keyHash P x,.str x t,v⟩
abbrev fO (m:Str)(t:Tok)(n q:Str)(s:Stmt)(d:Value)(c:Nat):Obj:=⟨.type "function",none,.func (W.fnOf n q (ZD s) (Q9 s) (Qx s) d .none .none (.str m t) none (.ref c) .none),#[]⟩
abbrev sh:=fO "__main__" 164
abbrev sf:=fO "doletaper.errors" 194
abbrev se:=fO "doletaper.people" 312
abbrev sd:=fO "doletaper.ratios" 355
abbrev s9:=fO "doletaper.words" 467
abbrev sZ:=fO "doletaper.forms" 516
abbrev sY:=fO "doletaper.bends" 563
abbrev sX:=fO "doletaper.kinds" 630
abbrev sW:=fO "doletaper.parts" 808
abbrev cO (n q:Str)(t:Nat)(l k:Int)(a b:Nat)(x y z:Value)(c u:Nat):Obj:=⟨.type "code",none,.fields #[.str n t,.str q (t+1),.str "/claim/cut.py" (t+2),.int l 0,.int k 0,.int 0 0,.int 0 0,.int 3 0,.ref a,.bool true,.int 181 0,.ref b,x,y,z,.ref c,.int u 0,.int l 0,.str "/claim/cut.py" (u+1)],#[]⟩
abbrev oQ (n:Str)(b a s r t u:Nat):Obj:=⟨.type "type",none,.cls ⟨n,[.ref b],[.ref a,.ref b,.type "ValueError",.type "Exception",.type "BaseException",.type "object"],s,n,true,[],[],false,none,false⟩,#[some (.ref r),none,some (.str n t),some (.str n u),some (.builtin "ValueError.__new__"),some (.bool true)]⟩
abbrev OO (a:Nat):Obj:=⟨.type "builtin_function_or_method",none,.fields #[.builtin "object.__init_subclass__",.ref a],#[]⟩
abbrev OM:Obj:=⟨.type "builtin_function_or_method",none,.fields #[.builtin "type.__prepare__",.type "type"],#[]⟩
abbrev OL (a:Nat):Obj:=⟨.type "super",none,.fields #[.ref a,.ref a,.ref a],#[]⟩
abbrev lX (a:Nat):Obj:=⟨.type "tuple",none,.seq #[.ref a] 0,#[]⟩
abbrev TU (n:Str)(t a:Nat)(x y:Value):Obj:=⟨.type "getset_descriptor",none,.fields #[.str n t,.ref a,x,y],#[]⟩
abbrev Lm (l:List DictEntry)(n:Nat):Obj:=⟨.type "dict",none,.dict ⟨l⟩ n,#[]⟩
def nB (P:Params):Obj:=⟨.none,none,(.dict #[] 0),#[]⟩
def mJ (P:Params):List DictEntry:=[Ek P "__name__" 165 (.str "law_doletaper_k39_whole_read_kinds_answer" 1341),Ek P "__doc__" 166 .none,Ek P "__package__" 167 .none,Ek P "__loader__" 168 (.builtin "__main__.__loader__#opaque"),Ek P "__spec__" 169 .none,Ek P "__annotations__" 170 (.ref 6),Ek P "__builtins__" 171 (.ref 4),Ek P "__file__" 173 (.str "/claim/cut.py" 172)]
def mI (P:Params):List DictEntry:=[Ek P "__cached__" 174 .none,Ek P "_wall" 193 (.ref 21),Ek P "HelpError" 213 (.ref 31),Ek P "NoAmount" 229 (.ref 44),Ek P "NoBend" 245 (.ref 56),Ek P "Unknown" 270 (.ref 75),Ek P "NoWord" 286 (.ref 87),Ek P "NoRow" 311 (.ref 106)]
def mH (P:Params):List DictEntry:=[Ek P "LETTERS" 315 (.str "abcdefghijklmnopqrstuvwxyz" 314),Ek P "LONGEST_NAME" 317 (.int 8 316),Ek P "OLDEST" 319 (.int 150 318),Ek P "MOST_COINS" 321 (.int 1000000000 320),Ek P "is_name" 327 (.ref 113),Ek P "of_ages" 333 (.ref 118),Ek P "heads" 342 (.ref 125),Ek P "pay_of" 348 (.ref 130)]
def mG (P:Params):List DictEntry:=[Ek P "rent_of" 354 (.ref 135),Ek P "NOUGHT" 359 (.ref 136),Ek P "common_divisor" 368 (.ref 143),Ek P "fraction" 377 (.ref 150),Ek P "plus" 385 (.ref 157),Ek P "total_of" 394 (.ref 164),Ek P "minus" 402 (.ref 171),Ek P "times" 410 (.ref 178)]
def mF (P:Params):List DictEntry:=[Ek P "divided" 418 (.ref 185),Ek P "below" 426 (.ref 192),Ek P "lesser" 434 (.ref 199),Ek P "greater" 442 (.ref 206),Ek P "floor_of" 449 (.ref 213),Ek P "ceil_of" 456 (.ref 220),Ek P "rounded" 466 (.ref 227),Ek P "FIGURES" 470 (.str "0123456789" 469)]
def mE (P:Params):List DictEntry:=[Ek P "MOST_FIGURES" 472 (.int 10 471),Ek P "MOST_OF_RATES" 474 (.int 9999 473),Ek P "is_written_whole" 480 (.ref 232),Ek P "whole_read" 489 (.ref 239),Ek P "rate_read" 499 (.ref 246),Ek P "rate_shown" 508 (.ref 253),Ek P "name_read" 515 (.ref 260),Ek P "AGES" 520 (.ref 261)]
def mD (P:Params):List DictEntry:=[Ek P "MOST_HEADS" 522 (.int 60 521),Ek P "WAYS" 526 (.ref 262),Ek P "most_of" 533 (.ref 269),Ek P "unit_read" 541 (.ref 276),Ek P "way_read" 548 (.ref 283),Ek P "word_read" 556 (.ref 290),Ek P "words_read" 562 (.ref 295),Ek P "come_to" 572 (.ref 302)]
def mC (P:Params):List DictEntry:=[Ek P "merged" 581 (.ref 309),Ek P "index_at" 592 (.ref 316),Ek P "straight" 600 (.ref 323),Ek P "check_limits" 609 (.ref 330),Ek P "bands" 621 (.ref 337),Ek P "bend_at" 629 (.ref 344),Ek P "Kind" 719 (.ref 398),Ek P "Cap" 760 (.ref 426)]
def ly (P:Params):List DictEntry:=[Ek P "Office" 807 (.ref 461),Ek P "row_of" 815 (.ref 470),Ek P "Part" 850 (.ref 494),Ek P "Base" 890 (.ref 529),Ek P "Each" 934 (.ref 562),Ek P "Rent" 976 (.ref 595),Ek P "Term" 1011 (.ref 621),Ek P "From" 1055 (.ref 656)]
def lx (P:Params):List DictEntry:=[Ek P "Upto" 1099 (.ref 689),Ek P "FORMS" 1138 (.ref 692),Ek P "LISTS" 1169 (.ref 693),Ek P "LONGEST" 1188 (.ref 694),Ek P "MOST_KINDS" 1190 (.int 8 1189),Ek P "MOST_CAPS" 1192 (.int 4 1191),Ek P "form_of" 1201 (.ref 701),Ek P "values_of" 1210 (.ref 708)]
def lO (P:Params):List DictEntry:=[Ek P "thing_of" 1218 (.ref 715),Ek P "new_draft" 1227 (.ref 722),Ek P "fits_in" 1233 (.ref 727),Ek P "kind_of" 1242 (.ref 734),Ek P "Reader" 1312 (.ref 782),Ek P "read" 1324 (.ref 793),Ek P "rows_of_kind" 1330 (.ref 798),Ek P "rows_of" 1340 (.ref 805)]
def lN (P:Params):List DictEntry:=[Ek P "_law_cell" 1350 (.ref 812),Ek P "_law_whole" 1357 (.ref 819),Ek P "_law_mixed" 1366 (.ref 826),Ek P "_law_common" 1374 (.ref 833),Ek P "_law_made" 1383 (.ref 840),Ek P "_law_is" 1391 (.ref 847),Ek P "_law_name" 1403 (.ref 854),Ek P "_law_home" 1416 (.ref 861)]
def lM (P:Params):List DictEntry:=[Ek P "_law_rate" 1426 (.ref 868),Ek P "_law_shown" 1433 (.ref 875),Ek P "_law_ages" 1441 (.ref 882),Ek P "_law_amount" 1450 (.ref 889),Ek P "_law_pool" 1461 (.ref 896),Ek P "_law_part" 1472 (.ref 903),Ek P "_law_term" 1482 (.ref 910),Ek P "_law_words" 1491 (.ref 917)]
def lL (P:Params):List DictEntry:=[Ek P "_law_limit" 1500 (.ref 924),Ek P "_law_put" 1506 (.ref 929),Ek P "_law_cap" 1512 (.ref 934),Ek P "_law_kind" 1518 (.ref 939),Ek P "_law_rows" 1531 (.ref 946),Ek P "_law_lacking" 1537 (.ref 951),Ek P "_law_heads" 1548 (.ref 958),Ek P "_law_sum" 1558 (.ref 965)]
def lK (P:Params):List DictEntry:=[Ek P "_law_taken" 1571 (.ref 972),Ek P "_law_rounds" 1584 (.ref 979),Ek P "_law_worth" 1590 (.ref 984),Ek P "_law_met" 1599 (.ref 991),Ek P "_law_own" 1605 (.ref 996),Ek P "_law_answers" 1611 (.ref 1001),Ek P "_law_office" 1625 (.ref 1008),Ek P "law" 1641 (.ref 1015)]
def nA (P:Params):Obj:=⟨(.type "dict"),none,(.dict (mJ P++mI P++mH P++mG P++mF P++mE P++mD P++mC P++ly P++lx P++lO P++lN P++lM P++lL P++lK P).toArray 120),#[]⟩
def lQ (P:Params):Obj:=Lm [Ek P "__module__" 203 (.str "doletaper.errors" 194),Ek P "__firstlineno__" 207 (.int 5 206),Ek P "__static_attributes__" 208 (.ref 29),Ek P "__weakref__" 210 (.ref 32),Ek P "__doc__" 211 .none] 3
def lP (P:Params):Obj:=⟨(.type "type"),none,(.cls ⟨"HelpError",[(.type "ValueError")],[(.ref 31),(.type "ValueError"),(.type "Exception"),(.type "BaseException"),(.type "object")],30,"HelpError",true,[],[(.ref 44),(.ref 56),(.ref 75),(.ref 87),(.ref 106)],false,none,false⟩),#[(some (.ref 22)),none,(some (.str "HelpError" 196)),(some (.str "HelpError" 204)),(some (.builtin "ValueError.__new__")),(some (.bool true))]⟩
def lJ (P:Params):Obj:=Lm [Ek P "__module__" 253 (.str "doletaper.errors" 194),Ek P "__firstlineno__" 257 (.int 11 256),Ek P "__init__" 265 (.ref 72),Ek P "__static_attributes__" 267 (.ref 73),Ek P "__doc__" 268 .none] 2
def lI (P:Params):Obj:=oQ "Unknown" 31 75 74 59 246 254
def lH (P:Params):Obj:=Lm [Ek P "__module__" 278 (.str "doletaper.errors" 194),Ek P "__firstlineno__" 282 (.int 15 281),Ek P "__static_attributes__" 283 (.ref 85),Ek P "__doc__" 284 .none] 2
def lG (P:Params):Obj:=oQ "NoWord" 31 87 86 78 271 279
def RG (P:Params):Obj:=Lm [Ek P "__module__" 294 (.str "doletaper.errors" 194),Ek P "__firstlineno__" 298 (.int 17 297),Ek P "__init__" 306 (.ref 103),Ek P "__static_attributes__" 308 (.ref 104),Ek P "__doc__" 309 .none] 2
def RF (P:Params):Obj:=oQ "NoRow" 31 106 105 90 287 295
def RE (P:Params):Obj:=⟨(.type "tuple"),none,(.seq #[(.int 0 357),(.int 1 358)] 0),#[]⟩
def RD (P:Params):Obj:=⟨(.type "tuple"),none,(.seq #[(.str "LOW" 518),(.str "HIGH" 519)] 0),#[]⟩
def RC (P:Params):Obj:=⟨(.type "tuple"),none,(.seq #[(.str "down" 523),(.str "up" 524),(.str "near" 525)] 0),#[]⟩
def RA (P:Params):Obj:=⟨(.type "tuple"),none,(.seq #[.none,.none,(.str "down" 644)] 0),#[]⟩
def TR (P:Params):List DictEntry:=[Ek P "__module__" 639 (.str "doletaper.kinds" 630),Ek P "__firstlineno__" 643 (.int 191 642),Ek P "__init__" 660 (.ref 359),Ek P "full_of" 666 (.ref 364),Ek P "may_have" 672 (.ref 369),Ek P "owns" 678 (.ref 374),Ek P "taken_off" 685 (.ref 381),Ek P "greatest_rate" 694 (.ref 388)]
def Rz (P:Params):List DictEntry:=[Ek P "amount_from" 702 (.ref 395),Ek P "__static_attributes__" 712 (.ref 396),Ek P "__dict__" 714 (.ref 399),Ek P "__weakref__" 716 (.ref 400),Ek P "__doc__" 717 .none]
def Qs (P:Params):Obj:=⟨(.type "dict"),none,(.dict (TR P++Rz P).toArray 4),#[]⟩
def Oz (P:Params):Obj:=⟨(.type "type"),none,(.cls ⟨"Kind",[(.type "object")],[(.ref 398),(.type "object")],397,"Kind",true,[],[],false,none,false⟩),#[none,none,(some (.str "Kind" 632)),(some (.str "Kind" 640)),(some (.builtin "object.__new__")),(some (.bool true))]⟩
def Oy (P:Params):Obj:=Lm [Ek P "__module__" 727 (.str "doletaper.kinds" 630),Ek P "__firstlineno__" 731 (.int 228 730),Ek P "__init__" 741 (.ref 416),Ek P "room_for" 749 (.ref 423),Ek P "__static_attributes__" 753 (.ref 424),Ek P "__dict__" 755 (.ref 427),Ek P "__weakref__" 757 (.ref 428),Ek P "__doc__" 758 .none] 4
def Ox (P:Params):Obj:=⟨(.type "type"),none,(.cls ⟨"Cap",[(.type "object")],[(.ref 426),(.type "object")],425,"Cap",true,[],[],false,none,false⟩),#[none,none,(some (.str "Cap" 720)),(some (.str "Cap" 728)),(some (.builtin "object.__new__")),(some (.bool true))]⟩
def Ow (P:Params):Obj:=Lm [Ek P "__module__" 768 (.str "doletaper.kinds" 630),Ek P "__firstlineno__" 772 (.int 237 771),Ek P "__init__" 781 (.ref 444),Ek P "kind" 790 (.ref 451),Ek P "named" 797 (.ref 458),Ek P "__static_attributes__" 800 (.ref 459),Ek P "__dict__" 802 (.ref 462),Ek P "__weakref__" 804 (.ref 463),Ek P "__doc__" 805 .none] 4
def Ov (P:Params):Obj:=⟨(.type "type"),none,(.cls ⟨"Office",[(.type "object")],[(.ref 461),(.type "object")],460,"Office",true,[],[],false,none,false⟩),#[none,none,(some (.str "Office" 761)),(some (.str "Office" 769)),(some (.builtin "object.__new__")),(some (.bool true))]⟩
def Ou (P:Params):Obj:=Lm [Ek P "__module__" 823 (.str "doletaper.parts" 808),Ek P "__firstlineno__" 827 (.int 254 826),Ek P "worth" 835 (.ref 484),Ek P "row" 842 (.ref 491),Ek P "__static_attributes__" 843 (.ref 492),Ek P "__dict__" 845 (.ref 495),Ek P "__weakref__" 847 (.ref 496),Ek P "__doc__" 848 .none] 4
def Ot (P:Params):Obj:=⟨(.type "type"),none,(.cls ⟨"Part",[(.type "object")],[(.ref 494),(.type "object")],493,"Part",true,[],[(.ref 529),(.ref 562),(.ref 595)],false,none,false⟩),#[none,none,(some (.str "Part" 816)),(some (.str "Part" 824)),(some (.builtin "object.__new__")),(some (.bool true))]⟩
def Os (P:Params):Obj:=Lm [Ek P "__module__" 858 (.str "doletaper.parts" 808),Ek P "__firstlineno__" 862 (.int 261 861),Ek P "__init__" 870 (.ref 512),Ek P "worth" 878 (.ref 519),Ek P "row" 885 (.ref 526),Ek P "__static_attributes__" 887 (.ref 527),Ek P "__doc__" 888 .none] 2
def Oq (P:Params):Obj:=⟨(.type "type"),none,(.cls ⟨"Base",[(.ref 494)],[(.ref 529),(.ref 494),(.type "object")],528,"Base",true,[],[],false,none,false⟩),#[(some (.ref 499)),none,(some (.str "Base" 851)),(some (.str "Base" 859)),(some (.builtin "object.__new__")),(some (.bool true))]⟩
def Oo (P:Params):Obj:=Lm [Ek P "__module__" 898 (.str "doletaper.parts" 808),Ek P "__firstlineno__" 902 (.int 271 901),Ek P "__init__" 912 (.ref 545),Ek P "worth" 920 (.ref 552),Ek P "row" 927 (.ref 559),Ek P "__static_attributes__" 931 (.ref 560),Ek P "__doc__" 932 .none] 2
def On (P:Params):Obj:=⟨(.type "type"),none,(.cls ⟨"Each",[(.ref 494)],[(.ref 562),(.ref 494),(.type "object")],561,"Each",true,[],[],false,none,false⟩),#[(some (.ref 532)),none,(some (.str "Each" 891)),(some (.str "Each" 899)),(some (.builtin "object.__new__")),(some (.bool true))]⟩
def Om (P:Params):Obj:=Lm [Ek P "__module__" 942 (.str "doletaper.parts" 808),Ek P "__firstlineno__" 946 (.int 283 945),Ek P "__init__" 955 (.ref 578),Ek P "worth" 963 (.ref 585),Ek P "row" 970 (.ref 592),Ek P "__static_attributes__" 973 (.ref 593),Ek P "__doc__" 974 .none] 2
def Ol (P:Params):Obj:=⟨(.type "type"),none,(.cls ⟨"Rent",[(.ref 494)],[(.ref 595),(.ref 494),(.type "object")],594,"Rent",true,[],[],false,none,false⟩),#[(some (.ref 565)),none,(some (.str "Rent" 935)),(some (.str "Rent" 943)),(some (.builtin "object.__new__")),(some (.bool true))]⟩
def Oj (P:Params):Obj:=Lm [Ek P "__module__" 984 (.str "doletaper.parts" 808),Ek P "__firstlineno__" 988 (.int 294 987),Ek P "met" 996 (.ref 611),Ek P "row" 1003 (.ref 618),Ek P "__static_attributes__" 1004 (.ref 619),Ek P "__dict__" 1006 (.ref 622),Ek P "__weakref__" 1008 (.ref 623),Ek P "__doc__" 1009 .none] 4
def Oi (P:Params):Obj:=⟨(.type "type"),none,(.cls ⟨"Term",[(.type "object")],[(.ref 621),(.type "object")],620,"Term",true,[],[(.ref 656),(.ref 689)],false,none,false⟩),#[none,none,(some (.str "Term" 977)),(some (.str "Term" 985)),(some (.builtin "object.__new__")),(some (.bool true))]⟩
def Oh (P:Params):Obj:=Lm [Ek P "__module__" 1019 (.str "doletaper.parts" 808),Ek P "__firstlineno__" 1023 (.int 301 1022),Ek P "__init__" 1033 (.ref 639),Ek P "met" 1041 (.ref 646),Ek P "row" 1048 (.ref 653),Ek P "__static_attributes__" 1052 (.ref 654),Ek P "__doc__" 1053 .none] 2
def Og (P:Params):Obj:=⟨(.type "type"),none,(.cls ⟨"From",[(.ref 621)],[(.ref 656),(.ref 621),(.type "object")],655,"From",true,[],[],false,none,false⟩),#[(some (.ref 626)),none,(some (.str "From" 1012)),(some (.str "From" 1020)),(some (.builtin "object.__new__")),(some (.bool true))]⟩
def Of (P:Params):Obj:=Lm [Ek P "__module__" 1063 (.str "doletaper.parts" 808),Ek P "__firstlineno__" 1067 (.int 313 1066),Ek P "__init__" 1077 (.ref 672),Ek P "met" 1085 (.ref 679),Ek P "row" 1092 (.ref 686),Ek P "__static_attributes__" 1096 (.ref 687),Ek P "__doc__" 1097 .none] 2
def Oe (P:Params):Obj:=⟨(.type "type"),none,(.cls ⟨"Upto",[(.ref 621)],[(.ref 689),(.ref 621),(.type "object")],688,"Upto",true,[],[],false,none,false⟩),#[(some (.ref 659)),none,(some (.str "Upto" 1056)),(some (.str "Upto" 1064)),(some (.builtin "object.__new__")),(some (.bool true))]⟩
def Od (P:Params):Obj:=Lm [Ek P "kind" 1102 (.str "NAME" 1103),Ek P "base" 1104 (.str "AMOUNT" 1105),Ek P "each" 1106 (.str "AMOUNT LOW HIGH" 1107),Ek P "rent" 1108 (.str "RATE MOST" 1109),Ek P "from" 1110 (.str "MANY LOW HIGH" 1111),Ek P "upto" 1112 (.str "MANY LOW HIGH" 1113),Ek P "pay" 1114 (.str "RATE LOW HIGH" 1115),Ek P "counts" 1116 (.str "NAME RATE" 1117),Ek P "off" 1118 (.str "LIMIT RATE" 1119),Ek P "until" 1120 (.str "LIMIT" 1121),Ek P "round" 1122 (.str "UNIT WAY" 1123),Ek P "cap" 1124 (.str "LIMIT EACH NAME" 1125)] 12
def Oc (P:Params):Obj:=Lm [Ek P "base" 1139 (.str "parts" 1140),Ek P "each" 1141 (.str "parts" 1142),Ek P "rent" 1143 (.str "parts" 1144),Ek P "from" 1145 (.str "terms" 1146),Ek P "upto" 1147 (.str "terms" 1148),Ek P "pay" 1149 (.str "pays" 1150),Ek P "counts" 1151 (.str "counts" 1152),Ek P "off" 1153 (.str "offs" 1154),Ek P "until" 1155 (.str "untils" 1156),Ek P "round" 1157 (.str "rounds" 1158)] 10
def Ob (P:Params):Obj:=Lm [Ek P "parts" 1170 (.int 6 1171),Ek P "terms" 1172 (.int 6 1173),Ek P "pays" 1174 (.int 4 1175),Ek P "offs" 1176 (.int 6 1177),Ek P "untils" 1178 (.int 1 1179),Ek P "rounds" 1180 (.int 1 1181)] 6
def Oa (P:Params):Obj:=Lm [Ek P "__module__" 1250 (.str "doletaper.reading" 1100),Ek P "__firstlineno__" 1254 (.int 374 1253),Ek P "__init__" 1261 (.ref 748),Ek P "titles_told" 1267 (.ref 753),Ek P "fits" 1276 (.ref 760),Ek P "caps_none_twice" 1286 (.ref 767),Ek P "take" 1295 (.ref 774),Ek P "office_told" 1301 (.ref 779),Ek P "__static_attributes__" 1305 (.ref 780),Ek P "__dict__" 1307 (.ref 783),Ek P "__weakref__" 1309 (.ref 784),Ek P "__doc__" 1310 .none] 4
def O9 (P:Params):Obj:=⟨(.type "type"),none,(.cls ⟨"Reader",[(.type "object")],[(.ref 782),(.type "object")],781,"Reader",true,[],[],false,none,false⟩),#[none,none,(some (.str "Reader" 1243)),(some (.str "Reader" 1251)),(some (.builtin "object.__new__")),(some (.bool true))]⟩
structure DR where
 s:Stmt
 n:Str
 q:Str
 d:Value
 l:Int
 k:Int
 a:Nat
 t:Nat
 c:List (Int×Int×Nat)
 v:List Str
 w:List Str
abbrev Ls:Obj:=⟨.type "tuple",none,.seq #[] 0,#[]⟩
abbrev oP:Obj:=⟨.none,none,.fields #[],#[]⟩
def qb:Nat->List Str->List Value
 | _,[]=>[]
 | t,x::l=>.str x t::qb (t+1) l
abbrev RH (l:List Str)(t:Nat):Obj:=⟨.type "tuple",none,.seq ⟨qb t l⟩ 0,#[]⟩
def qg:List (Int×Int×Nat)->List Value
 | []=>[]
 | (a,b,c)::l=>.int a 0::.int b 0::.ref c::qg l
abbrev OR (l:List (Int×Int×Nat)):Obj:=⟨.none,none,.fields ⟨qg l⟩,#[]⟩
abbrev gO (n q:Str)(s:Stmt):Obj:=⟨.none,none,.func ⟨n,q,ZD s,.stmts (Q9 s),Qx s,0,[],.none,.none,.none,.none,none,.none,.none,0⟩,#[]⟩
abbrev dC (x:DR):Obj:=cO x.n x.q x.t x.l x.k x.a (x.a+1) .none (.ref (x.a+2)) (.ref (x.a+3)) (x.a+4) (x.t+3+(x.v.length+x.w.length))
abbrev dD (x:DR):Obj:=cO x.n x.q x.t x.l x.k x.a (x.a+1) .none .none .none (x.a+2) (x.t+3)
abbrev dF (m:Str)(t:Tok)(x:DR):Obj:=fO m t x.n x.q x.s x.d (x.a+5)
abbrev dE (m:Str)(t:Tok)(x:DR):Obj:=fO m t x.n x.q x.s x.d (x.a+3)
abbrev dG (m:Str)(t:Tok)(x:DR):List Obj:=[Ls,OR x.c,RH x.v (x.t+3),RH x.w (x.t+3+x.v.length),gO x.n x.q x.s,dC x,dF m t x]
abbrev dH (m:Str)(t:Tok)(x:DR):List Obj:=[Ls,OR x.c,gO x.n x.q x.s,dD x,dE m t x]
abbrev r6:=dG "__main__" 164
abbrev qi:=dG "doletaper.errors" 194
abbrev r9:=dF "doletaper.people" 312
abbrev oy:=dE "doletaper.people" 312
abbrev rZ:=dG "doletaper.people" 312
abbrev og:=dH "doletaper.people" 312
abbrev TY:=dF "doletaper.ratios" 355
abbrev TV:=dG "doletaper.ratios" 355
abbrev ou:=dF "doletaper.words" 467
abbrev rh:=dE "doletaper.words" 467
abbrev oi:=dG "doletaper.words" 467
abbrev rY:=dH "doletaper.words" 467
abbrev oj:=dF "doletaper.forms" 516
abbrev rg:=dE "doletaper.forms" 516
abbrev oh:=dG "doletaper.forms" 516
abbrev rX:=dH "doletaper.forms" 516
abbrev nQ:=dF "doletaper.bends" 563
abbrev nP:=dG "doletaper.bends" 563
abbrev nD:=dF "doletaper.kinds" 630
abbrev qJ:=dE "doletaper.kinds" 630
abbrev mK:=dG "doletaper.kinds" 630
abbrev qI:=dH "doletaper.kinds" 630
abbrev OW:=dF "doletaper.parts" 808
abbrev rf:=dE "doletaper.parts" 808
abbrev OF:=dG "doletaper.parts" 808
abbrev rW:=dH "doletaper.parts" 808
abbrev lT:=dF "doletaper.reading" 1100
abbrev ox:=dE "doletaper.reading" 1100
abbrev lS:=dG "doletaper.reading" 1100
abbrev o9:=dH "doletaper.reading" 1100
abbrev Xc:=dF "law_doletaper_k39_whole_read_kinds_answer" 1341
abbrev GW:=dE "law_doletaper_k39_whole_read_kinds_answer" 1341
abbrev Xb:=dG "law_doletaper_k39_whole_read_kinds_answer" 1341
abbrev GV:=dH "law_doletaper_k39_whole_read_kinds_answer" 1341
def KM (i:Nat)(n:Str)(l k:Int)(a t:Nat)(x:List (Int×Int×Nat):=[])(y z:List Str:=[]):DR:=⟨top i,n,n,.none,l,k,a,t,x,y,z⟩
def Kl (i:Nat)(n q:Str)(l k:Int)(a t:Nat)(x:List (Int×Int×Nat):=[])(y z:List Str:=[]):DR:=⟨mS i,n,q,.none,l,k,a,t,x,y,z⟩
def pR:=KM 0 "_wall" 1 1 15 187 [] ["k"]
def pQ:DR:=⟨(Xz (top 5) 0),"__init__","Unknown.__init__",.none,13,2,66,258,[],["self","title"],[]⟩
def oJ:DR:=⟨(Xz (top 7) 0),"__init__","NoRow.__init__",.none,19,2,97,299,[],["self","place"],[]⟩
def lC:=KM 13 "is_name" 26 1 109 322
def lB:=KM 14 "of_ages" 30 3 114 328
def lA:=KM 15 "heads" 32 3 119 334 [] ["home","low","high"]
def kz:=KM 16 "pay_of" 34 3 126 343
def ky:=KM 17 "rent_of" 36 1 131 349
def ku:=KM 20 "common_divisor" 40 2 137 360 [] ["one","other","rest"]
def ko:=KM 21 "fraction" 46 2 144 369 [] ["top","bottom","divisor"]
def km:=KM 22 "plus" 53 2 151 378 [] ["one","other"]
def kj:=KM 23 "total_of" 55 1 158 386 [] ["ones","total","one"]
def ki:=KM 24 "minus" 60 2 165 395 [] ["one","other"]
def kh:=KM 25 "times" 62 2 172 403 [] ["one","other"]
def kZ:=KM 26 "divided" 64 2 179 411 [] ["one","other"]
def kY:=KM 27 "below" 66 2 186 419 [] ["one","other"]
def kX:=KM 28 "lesser" 68 2 193 427 [] ["one","other"]
def kW:=KM 29 "greater" 70 2 200 435 [] ["one","other"]
def kU:=KM 30 "floor_of" 72 1 207 443 [] ["one"]
def kT:=KM 31 "ceil_of" 74 1 214 450 [] ["one"]
def kR:=KM 32 "rounded" 76 3 221 457 [] ["one","unit","way","units"]
def kQ:=KM 37 "is_written_whole" 87 1 228 475
def kP:=KM 38 "whole_read" 93 2 233 481 [] ["text","most","number"]
def kO:=KM 39 "rate_read" 100 1 240 490 [] ["text","written","top","bottom"]
def kN:=KM 40 "rate_shown" 109 1 247 500 [] ["one","top","bottom"]
def kM:=KM 41 "name_read" 115 1 254 509 [] ["text"]
def kL:=KM 46 "most_of" 123 1 263 527 [] ["sort"]
def jz:=KM 47 "unit_read" 127 1 270 534 [] ["word","unit"]
def jy:=KM 48 "way_read" 132 1 277 542 [] ["word"]
def jx:=KM 49 "word_read" 136 2 284 549 [] ["sort","word"]
def jw:=KM 50 "words_read" 146 2 291 557
def jv:=KM 52 "come_to" 152 2 296 565 [] ["stretch","place"]
def ju:=KM 53 "merged" 154 1 303 573 [] ["stretches","kept","stretch"]
def js:=KM 54 "index_at" 160 2 310 582 [] ["one","place","low","high","middle"]
def jr:=KM 55 "straight" 170 2 317 593 [] ["value","slope"]
def jq:=KM 56 "check_limits" 172 1 324 601 [] ["pairs","ahead","pair"]
def jo:=KM 57 "bands" 178 1 331 610 [] ["pairs","stretches","limit","rate","start","value"]
def jm:=KM 58 "bend_at" 188 2 338 622 [] ["one","place"]
def jl:DR:=⟨(mS 6000),"__init__","Kind.__init__",(.ref 352),193,10,353,645,[],["self","title","parts","terms","pays","counts","offs","limit","unit","way"],[]⟩
def jk:=Kl 6001 "full_of" "Kind.full_of" 204 2 360 661
def jj:=Kl 6002 "may_have" "Kind.may_have" 207 2 365 667
def ji:=Kl 6003 "owns" "Kind.owns" 210 2 370 673
def jh:=Kl 6004 "taken_off" "Kind.taken_off" 213 1 375 679 [] ["self"]
def jg:=Kl 6005 "greatest_rate" "Kind.greatest_rate" 216 1 382 686 [] ["self","most","off"]
def jf:=Kl 6006 "amount_from" "Kind.amount_from" 224 2 389 695 [] ["self","left"]
def je:=Kl 6100 "__init__" "Cap.__init__" 230 4 410 732 [] ["self","limit","each","titles"]
def jd:=Kl 6101 "room_for" "Cap.room_for" 235 2 417 742 [] ["self","home"]
def jc:=Kl 6200 "__init__" "Office.__init__" 239 3 438 773 [] ["self","kinds","caps"]
def jb:=Kl 6201 "kind" "Office.kind" 243 2 445 782 [] ["self","title","one"]
def oI:DR:=⟨(Xz (top 62) 2),"named","Office.named",.none,249,1,452,791,[],["self"],[]⟩
def ja:=KM 64 "row_of" 252 1 466 810
def oH:DR:=⟨(Xz (top 65) 0),"worth","Part.worth",.none,256,2,478,828,[],["self","home"],[]⟩
def oG:DR:=⟨(Xz (top 65) 1),"row","Part.row",.none,259,1,485,836,[],["self"],[]⟩
def iz:=Kl 6600 "__init__" "Base.__init__" 263 2 506 863 [] ["self","amount"]
def iy:=Kl 6601 "worth" "Base.worth" 266 2 513 871 [] ["self","home"]
def ix:=Kl 6602 "row" "Base.row" 269 1 520 879 [] ["self"]
def iw:=Kl 6700 "__init__" "Each.__init__" 273 4 539 903 [] ["self","amount","low","high"]
def iu:=Kl 6701 "worth" "Each.worth" 278 2 546 913 [] ["self","home"]
def ir:=Kl 6702 "row" "Each.row" 281 1 553 921 [] ["self"]
def iq:=Kl 6800 "__init__" "Rent.__init__" 285 3 572 947 [] ["self","rate","most"]
def ip:=Kl 6801 "worth" "Rent.worth" 289 2 579 956 [] ["self","home"]
def ik:=Kl 6802 "row" "Rent.row" 292 1 586 964 [] ["self"]
def oE:DR:=⟨(Xz (top 69) 0),"met","Term.met",.none,296,2,605,989,[],["self","home"],[]⟩
def oC:DR:=⟨(Xz (top 69) 1),"row","Term.row",.none,299,1,612,997,[],["self"],[]⟩
def ij:=Kl 7000 "__init__" "From.__init__" 303 4 633 1024 [] ["self","many","low","high"]
def ig:=Kl 7001 "met" "From.met" 308 2 640 1034 [] ["self","home"]
def ie:=Kl 7002 "row" "From.row" 311 1 647 1042 [] ["self"]
def ic:=Kl 7100 "__init__" "Upto.__init__" 315 4 666 1068 [] ["self","many","low","high"]
def ib:=Kl 7101 "met" "Upto.met" 320 2 673 1078 [] ["self","home"]
def ia:=Kl 7102 "row" "Upto.row" 323 1 680 1086 [] ["self"]
def gy:=KM 78 "form_of" 331 1 695 1193 [] ["words","form","further"]
def gx:=KM 79 "values_of" 339 1 702 1202 [] ["words","form","values"]
def gw:=KM 80 "thing_of" 345 2 709 1211 [] ["sort","values"]
def gv:=KM 81 "new_draft" 357 1 716 1219 [] ["title","draft","name"]
def gu:=KM 82 "fits_in" 362 3 723 1228
def gq:=KM 83 "kind_of" 370 1 728 1234 [] ["draft","limit","rounding"]
def gp:=Kl 8400 "__init__" "Reader.__init__" 376 1 742 1255 [] ["self"]
def gn:=Kl 8401 "titles_told" "Reader.titles_told" 381 1 749 1262
def gm:=Kl 8402 "fits" "Reader.fits" 384 3 754 1268 [] ["self","sort","values"]
def gk:=Kl 8403 "caps_none_twice" "Reader.caps_none_twice" 391 2 761 1277 [] ["self","titles","capped","cap"]
def gh:=Kl 8404 "take" "Reader.take" 397 3 768 1287 [] ["self","sort","values"]
def fw:=Kl 8405 "office_told" "Reader.office_told" 408 1 775 1296
def fv:=KM 85 "read" 413 1 787 1313 [] ["rows","reader","place","row","words","values"]
def ft:=KM 86 "rows_of_kind" 425 1 794 1325
def fq:=KM 87 "rows_of" 437 1 799 1331 [] ["office","rows","kind","cap"]
def fm:=KM 89 "_law_cell" 445 2 806 1343 [] ["_law_script","_law_k"]
def fk:=KM 90 "_law_whole" 449 1 813 1351 [] ["_law_found"]
def fj:=KM 91 "_law_mixed" 451 2 820 1358 [] ["_law_cell_here","_law_k","_law_prime"]
def fe:=KM 92 "_law_common" 454 2 827 1367 [] ["_law_one","_law_other"]
def fc:=KM 93 "_law_made" 460 2 834 1375 [] ["_law_top","_law_bottom","_law_common_here"]
def fb:=KM 94 "_law_is" 465 2 841 1384 [] ["_law_found","_law_value"]
def ez:=KM 95 "_law_name" 469 1 848 1392 [] ["_law_cell_here","_law_letters","_law_size","_law_at","_law_text","_law_k"]
def eu:=KM 96 "_law_home" 479 1 855 1404 [] ["_law_cells","_law_home_here","_law_taken_here","_law_cell_here","_law_name_here","_law_pay","_law_rent"]
def ei:=KM 97 "_law_rate" 490 2 862 1417 [] ["_law_cell_here","_law_k","_law_top","_law_bottom"]
def eh:=KM 98 "_law_shown" 496 1 869 1427 [] ["_law_rate_here"]
def ef:=KM 99 "_law_ages" 500 1 876 1434 [] ["_law_cell_here","_law_low"]
def ee:=KM 100 "_law_amount" 505 2 883 1442 [] ["_law_cell_here","_law_k","_law_number"]
def dz:=KM 101 "_law_pool" 510 2 890 1451 [] ["_law_cell_here","_law_most","_law_pool_here","_law_k","_law_title"]
def dw:=KM 102 "_law_part" 519 1 897 1462 [] ["_law_cell_here","_law_amount_here","_law_low","_law_high","_law_way"]
def du:=KM 103 "_law_term" 528 1 904 1473 [] ["_law_cell_here","_law_low","_law_high","_law_many"]
def dt:=KM 104 "_law_words" 534 1 911 1483 [] ["_law_row","_law_words_here","_law_one"]
def dq:=KM 105 "_law_limit" 542 2 918 1492 [] ["_law_offs","_law_cell_here","_law_step"]
def dm:=KM 106 "_law_put" 549 3 925 1501
def dk:=KM 107 "_law_cap" 577 3 930 1507
def dj:=KM 108 "_law_kind" 589 3 935 1513
def di:=KM 109 "_law_rows" 597 4 940 1519 [] ["_law_cells","_law_pool_here","_law_kinds","_law_caps","_law_rows_here","_law_cell_here","_law_row"]
def dh:=KM 110 "_law_lacking" 609 4 947 1532
def dg:=KM 111 "_law_heads" 619 3 952 1538 [] ["_law_home_here","_law_low","_law_high","_law_many","_law_one"]
def df:=KM 112 "_law_sum" 625 1 959 1549 [] ["_law_rows_here","_law_top","_law_bottom","_law_one"]
def Zj:=KM 113 "_law_taken" 632 2 966 1559 [] ["_law_offs","_law_place","_law_rows_here","_law_k","_law_limit_here","_law_rate_here","_law_part_here"]
def Z8:=KM 114 "_law_rounds" 642 3 973 1572 [] ["_law_kind_here","_law_rounds_here","_law_left","_law_found","_law_unit","_law_way","_law_off"]
def ZQ:=KM 115 "_law_worth" 657 2 980 1585
def Yu:=KM 116 "_law_met" 666 2 985 1591 [] ["_law_home_here","_law_term_here","_law_there"]
def Yt:=KM 117 "_law_own" 671 2 992 1600
def OU:=KM 118 "_law_answers" 675 4 997 1606
def OT:=KM 119 "_law_office" 700 5 1002 1612 [] ["_law_office_here","_law_home_here","_law_kinds","_law_caps","_law_place","_law_kind_here","_law_k","_law_room"]
def OS:=KM 120 "law" 709 1 1009 1626 [] ["_law_script","_law_pool_here","_law_kinds","_law_caps","_law_rows_here","_law_home_here","_law_cell_here","_law_place","_law_office_here","_law_some"]
def HK:Params->W.Frag:=λP=>(nat_lit 2,nB P)::(nat_lit 3,nA P)::(nat_lit 30,lQ P)::(nat_lit 31,lP P)::(nat_lit 74,lJ P)::(nat_lit 75,lI P)::(nat_lit 86,lH P)::(nat_lit 87,lG P)::(nat_lit 105,RG P)::(nat_lit 106,RF P)::(nat_lit 112,dD lC)::(nat_lit 113,oy lC)::(nat_lit 117,dD lB)::(nat_lit 118,oy lB)::(nat_lit 124,dC lA)::(nat_lit 125,r9 lA)::(nat_lit 129,dD kz)::(nat_lit 130,oy kz)::(nat_lit 134,dD ky)::(nat_lit 135,oy ky)::(nat_lit 136,RE P)::(nat_lit 142,dC ku)::(nat_lit 143,TY ku)::(nat_lit 149,dC ko)::(nat_lit 150,TY ko)::(nat_lit 156,dC km)::(nat_lit 157,TY km)::(nat_lit 163,dC kj)::(nat_lit 164,TY kj)::(nat_lit 170,dC ki)::(nat_lit 171,TY ki)::(nat_lit 177,dC kh)::(nat_lit 178,TY kh)::(nat_lit 184,dC kZ)::(nat_lit 185,TY kZ)::(nat_lit 191,dC kY)::(nat_lit 192,TY kY)::(nat_lit 198,dC kX)::(nat_lit 199,TY kX)::(nat_lit 205,dC kW)::(nat_lit 206,TY kW)::(nat_lit 212,dC kU)::(nat_lit 213,TY kU)::(nat_lit 219,dC kT)::(nat_lit 220,TY kT)::(nat_lit 226,dC kR)::(nat_lit 227,TY kR)::(nat_lit 231,dD kQ)::(nat_lit 232,rh kQ)::(nat_lit 238,dC kP)::(nat_lit 239,ou kP)::(nat_lit 245,dC kO)::(nat_lit 246,ou kO)::(nat_lit 252,dC kN)::(nat_lit 253,ou kN)::(nat_lit 259,dC kM)::(nat_lit 260,ou kM)::(nat_lit 261,RD P)::(nat_lit 262,RC P)::(nat_lit 268,dC kL)::(nat_lit 269,oj kL)::(nat_lit 275,dC jz)::(nat_lit 276,oj jz)::(nat_lit 282,dC jy)::(nat_lit 283,oj jy)::(nat_lit 289,dC jx)::(nat_lit 290,oj jx)::(nat_lit 294,dD jw)::(nat_lit 295,rg jw)::(nat_lit 301,dC jv)::(nat_lit 302,nQ jv)::(nat_lit 308,dC ju)::(nat_lit 309,nQ ju)::(nat_lit 315,dC js)::(nat_lit 316,nQ js)::(nat_lit 322,dC jr)::(nat_lit 323,nQ jr)::(nat_lit 329,dC jq)::(nat_lit 330,nQ jq)::(nat_lit 336,dC jo)::(nat_lit 337,nQ jo)::(nat_lit 343,dC jm)::(nat_lit 344,nQ jm)::(nat_lit 352,RA P)::(nat_lit 358,dC jl)::(nat_lit 359,nD jl)::(nat_lit 363,dD jk)::(nat_lit 364,qJ jk)::(nat_lit 368,dD jj)::(nat_lit 369,qJ jj)::(nat_lit 373,dD ji)::(nat_lit 374,qJ ji)::(nat_lit 380,dC jh)::(nat_lit 381,nD jh)::(nat_lit 387,dC jg)::(nat_lit 388,nD jg)::(nat_lit 394,dC jf)::(nat_lit 395,nD jf)::(nat_lit 397,Qs P)::(nat_lit 398,Oz P)::(nat_lit 415,dC je)::(nat_lit 416,nD je)::(nat_lit 422,dC jd)::(nat_lit 423,nD jd)::(nat_lit 425,Oy P)::(nat_lit 426,Ox P)::(nat_lit 443,dC jc)::(nat_lit 444,nD jc)::(nat_lit 450,dC jb)::(nat_lit 451,nD jb)::(nat_lit 460,Ow P)::(nat_lit 461,Ov P)::(nat_lit 469,dD ja)::(nat_lit 470,rf ja)::(nat_lit 493,Ou P)::(nat_lit 494,Ot P)::(nat_lit 511,dC iz)::(nat_lit 512,OW iz)::(nat_lit 518,dC iy)::(nat_lit 519,OW iy)::(nat_lit 525,dC ix)::(nat_lit 526,OW ix)::(nat_lit 528,Os P)::(nat_lit 529,Oq P)::(nat_lit 544,dC iw)::(nat_lit 545,OW iw)::(nat_lit 551,dC iu)::(nat_lit 552,OW iu)::(nat_lit 558,dC ir)::(nat_lit 559,OW ir)::(nat_lit 561,Oo P)::(nat_lit 562,On P)::(nat_lit 577,dC iq)::(nat_lit 578,OW iq)::(nat_lit 584,dC ip)::(nat_lit 585,OW ip)::(nat_lit 591,dC ik)::(nat_lit 592,OW ik)::(nat_lit 594,Om P)::(nat_lit 595,Ol P)::(nat_lit 620,Oj P)::(nat_lit 621,Oi P)::(nat_lit 638,dC ij)::(nat_lit 639,OW ij)::(nat_lit 645,dC ig)::(nat_lit 646,OW ig)::(nat_lit 652,dC ie)::(nat_lit 653,OW ie)::(nat_lit 655,Oh P)::(nat_lit 656,Og P)::(nat_lit 671,dC ic)::(nat_lit 672,OW ic)::(nat_lit 678,dC ib)::(nat_lit 679,OW ib)::(nat_lit 685,dC ia)::(nat_lit 686,OW ia)::(nat_lit 688,Of P)::(nat_lit 689,Oe P)::(nat_lit 692,Od P)::(nat_lit 693,Oc P)::(nat_lit 694,Ob P)::(nat_lit 700,dC gy)::(nat_lit 701,lT gy)::(nat_lit 707,dC gx)::(nat_lit 708,lT gx)::(nat_lit 714,dC gw)::(nat_lit 715,lT gw)::(nat_lit 721,dC gv)::(nat_lit 722,lT gv)::(nat_lit 726,dD gu)::(nat_lit 727,ox gu)::(nat_lit 733,dC gq)::(nat_lit 734,lT gq)::(nat_lit 747,dC gp)::(nat_lit 748,lT gp)::(nat_lit 752,dD gn)::(nat_lit 753,ox gn)::(nat_lit 759,dC gm)::(nat_lit 760,lT gm)::(nat_lit 766,dC gk)::(nat_lit 767,lT gk)::(nat_lit 773,dC gh)::(nat_lit 774,lT gh)::(nat_lit 778,dD fw)::(nat_lit 779,ox fw)::(nat_lit 781,Oa P)::(nat_lit 782,O9 P)::(nat_lit 792,dC fv)::(nat_lit 793,lT fv)::(nat_lit 797,dD ft)::(nat_lit 798,ox ft)::(nat_lit 804,dC fq)::(nat_lit 805,lT fq)::(nat_lit 811,dC fm)::(nat_lit 812,Xc fm)::(nat_lit 818,dC fk)::(nat_lit 819,Xc fk)::(nat_lit 825,dC fj)::(nat_lit 826,Xc fj)::(nat_lit 832,dC fe)::(nat_lit 833,Xc fe)::(nat_lit 839,dC fc)::(nat_lit 840,Xc fc)::(nat_lit 846,dC fb)::(nat_lit 847,Xc fb)::(nat_lit 853,dC ez)::(nat_lit 854,Xc ez)::(nat_lit 860,dC eu)::(nat_lit 861,Xc eu)::(nat_lit 867,dC ei)::(nat_lit 868,Xc ei)::(nat_lit 874,dC eh)::(nat_lit 875,Xc eh)::(nat_lit 881,dC ef)::(nat_lit 882,Xc ef)::(nat_lit 888,dC ee)::(nat_lit 889,Xc ee)::(nat_lit 895,dC dz)::(nat_lit 896,Xc dz)::(nat_lit 902,dC dw)::(nat_lit 903,Xc dw)::(nat_lit 909,dC du)::(nat_lit 910,Xc du)::(nat_lit 916,dC dt)::(nat_lit 917,Xc dt)::(nat_lit 923,dC dq)::(nat_lit 924,Xc dq)::(nat_lit 928,dD dm)::(nat_lit 929,GW dm)::(nat_lit 933,dD dk)::(nat_lit 934,GW dk)::(nat_lit 938,dD dj)::(nat_lit 939,GW dj)::(nat_lit 945,dC di)::(nat_lit 946,Xc di)::(nat_lit 950,dD dh)::(nat_lit 951,GW dh)::(nat_lit 957,dC dg)::(nat_lit 958,Xc dg)::(nat_lit 964,dC df)::(nat_lit 965,Xc df)::(nat_lit 971,dC Zj)::(nat_lit 972,Xc Zj)::(nat_lit 978,dC Z8)::(nat_lit 979,Xc Z8)::(nat_lit 983,dD ZQ)::(nat_lit 984,GW ZQ)::(nat_lit 990,dC Yu)::(nat_lit 991,Xc Yu)::(nat_lit 995,dD Yt)::(nat_lit 996,GW Yt)::(nat_lit 1000,dD OU)::(nat_lit 1001,GW OU)::(nat_lit 1007,dC OT)::(nat_lit 1008,Xc OT)::(nat_lit 1014,dC OS)::(nat_lit 1015,Xc OS)::[]
def hkA:List Addr:=[2,3,30,31,74,75,86,87,105,106,112,113,117,118,124,125,129,130,134,135,136,142,143,149,150,156,157,163,164,170,171,177,178,184,185,191,192,198,199,205,206,212,213,219,220,226,227,231,232,238,239,245,246,252,253,259,260,261,262,268,269,275,276,282,283,289,290,294,295,301,302,308,309,315,316,322,323,329,330,336,337,343,344,352,358,359,363,364,368,369,373,374,380,381,387,388,394,395,397,398,415,416,422,423,425,426,443,444,450,451,460,461,469,470,493,494,511,512,518,519,525,526,528,529,544,545,551,552,558,559,561,562,577,578,584,585,591,592,594,595,620,621,638,639,645,646,652,653,655,656,671,672,678,679,685,686,688,689,692,693,694,700,701,707,708,714,715,721,722,726,727,733,734,747,748,752,753,759,760,766,767,773,774,778,779,781,782,792,793,797,798,804,805,811,812,818,819,825,826,832,833,839,840,846,847,853,854,860,861,867,868,874,875,881,882,888,889,895,896,902,903,909,910,916,917,923,924,928,929,933,934,938,939,945,946,950,951,957,958,964,965,971,972,978,979,983,984,990,991,995,996,1000,1001,1007,1008,1014,1015]
theorem hkA_eq:∀P,hkA=(HK P).map (·.1):=λ_=>by kernel_rfl
def hkV:Program:=W.view KI [0,2,3,4,5,6,7,9,10,11,12,13,14,15,16,17,19,20,21,22,23,24,25,26,27,28,29,30,31,32,34,35,36,37,38,39,40,41,43,44,45,46,47,48,49,50,52,53,54,55,56,57,58,60,61,62,64,65,66,67,68,69,70,71,73,74,75,76,77,78,79,80,81,82,83,84,85,86,87,89,90,91,92,93,94,95,96,97,98,99,100,101,102,103,104,105,106,107,108,109,110,111,112,113,114,115,116,117,118,119,120]
def hkLo:List Str:=["FORMS","LISTS","LONGEST"]
abbrev OE (a b:Nat)(m:Str)(t:Nat):Obj:=⟨.type "frame",none,.plain,#[some (.ref a),some (.ref 3),some (.ref b),none,some (.str m t),none,some (.ref 0)]⟩
abbrev OG (n q:Str)(t:Nat)(l k f:Int)(a:Nat)(o:Bool)(e:Int)(b:Nat)(x y z v:Value)(u:Nat):Obj:=⟨.type "code",none,.fields #[.str n t,.str q (t+1),.str "/claim/cut.py" (t+2),.int l 0,.int k 0,.int 0 0,.int 0 0,.int f 0,.ref a,.bool o,.int e 0,.ref b,x,y,z,v,.int u 0,.int l 0,.str "/claim/cut.py" (u+1)],#[]⟩
def qH (P:Params):List Obj:=[W.boot_o_0 P,Lm [Ek P "builtins" 162 (.ref 4),Ek P "__main__" 163 (.ref 5)] 2,nB P,nA P,⟨(.type "module"),(some 0),.plain,#[]⟩,⟨(.type "module"),(some 3),.plain,#[]⟩,⟨(.type "dict"),none,(.dict #[] 0),#[]⟩,Ls,oP,OG "<module>" "<module>" 176 1 0 0 7 false 175 8 .none .none .none .none 179,OE 9 3 "__main__" 164,Ls,OR [(1,0,20),(5,0,27),(7,0,40),(9,0,52),(11,0,64),(15,0,83),(17,0,95),(26,0,112),(30,0,117),(32,0,124),(34,0,129),(36,0,134),(40,0,142),(46,0,149),(53,0,156),(55,0,163),(60,0,170),(62,0,177),(64,0,184),(66,0,191),(68,0,198),(70,0,205),(72,0,212),(74,0,219),(76,0,226),(87,0,231),(93,0,238),(100,0,245),(109,0,252),(115,0,259),(123,0,268),(127,0,275),(132,0,282),(136,0,289),(146,0,294),(152,0,301),(154,0,308),(160,0,315),(170,0,322),(172,0,329),(178,0,336),(188,0,343),(191,0,350),(228,0,408),(237,0,436),(252,0,469),(254,0,476),(261,0,504),(271,0,537),(283,0,570),(294,0,603),(301,0,631),(313,0,664),(331,0,700),(339,0,707),(345,0,714),(357,0,721),(362,0,726),(370,0,733),(374,0,740),(413,0,792),(425,0,797),(437,0,804),(445,0,811),(449,0,818),(451,0,825),(454,0,832),(460,0,839),(465,0,846),(469,0,853),(479,0,860),(490,0,867),(496,0,874),(500,0,881),(505,0,888),(510,0,895),(519,0,902),(528,0,909),(534,0,916),(542,0,923),(549,0,928),(577,0,933),(589,0,938),(597,0,945),(609,0,950),(619,0,957),(625,0,964),(632,0,971),(642,0,978),(657,0,983),(666,0,990),(671,0,995),(675,0,1000),(700,0,1007),(709,0,1014)],OG "<module>" "<module>" 182 1 0 0 11 false 181 12 .none .none .none .none 185,OE 13 3 "__main__" 164]++(r6 pR++([⟨(.type "tuple"),none,(.seq #[(.type "ValueError")] 0),#[]⟩,OM,Lm [Ek P "__module__" 203 (.str "doletaper.errors" 194),Ek P "__qualname__" 205 (.str "HelpError" 204),Ek P "__firstlineno__" 207 (.int 5 206),Ek P "__static_attributes__" 208 (.ref 29)] 4,Ls,oP,OG "HelpError" "HelpError" 198 5 0 0 25 false 181 26 .none .none .none .none 201,OE 27 24 "doletaper.errors" 194,Ls,lQ P,lP P,TU "__weakref__" 209 31 (.builtin "ExceptionGroup.__weakref__") .none,OL 31,OO 31,lX 31,OM,Lm [Ek P "__module__" 221 (.str "doletaper.errors" 194),Ek P "__qualname__" 223 (.str "NoAmount" 222),Ek P "__firstlineno__" 225 (.int 7 224),Ek P "__static_attributes__" 226 (.ref 42)] 4]++([Ls,oP,OG "NoAmount" "NoAmount" 216 7 0 0 38 false 181 39 .none .none .none .none 219,OE 40 37 "doletaper.errors" 194,Ls,Lm [Ek P "__module__" 221 (.str "doletaper.errors" 194),Ek P "__firstlineno__" 225 (.int 7 224),Ek P "__static_attributes__" 226 (.ref 42),Ek P "__doc__" 227 .none] 2,oQ "NoAmount" 31 44 43 35 214 222,OL 44,OO 44,lX 31,OM,Lm [Ek P "__module__" 237 (.str "doletaper.errors" 194),Ek P "__qualname__" 239 (.str "NoBend" 238),Ek P "__firstlineno__" 241 (.int 9 240),Ek P "__static_attributes__" 242 (.ref 54)] 4,Ls,oP,OG "NoBend" "NoBend" 232 9 0 0 50 false 181 51 .none .none .none .none 235,OE 52 49 "doletaper.errors" 194]++([Ls,Lm [Ek P "__module__" 237 (.str "doletaper.errors" 194),Ek P "__firstlineno__" 241 (.int 9 240),Ek P "__static_attributes__" 242 (.ref 54),Ek P "__doc__" 243 .none] 2,oQ "NoBend" 31 56 55 47 230 238,OL 56,OO 56,lX 31,OM,Lm [Ek P "__module__" 253 (.str "doletaper.errors" 194),Ek P "__qualname__" 255 (.str "Unknown" 254),Ek P "__firstlineno__" 257 (.int 11 256),Ek P "__init__" 265 (.ref 72),Ek P "__static_attributes__" 267 (.ref 73)] 5,Ls,OR [(13,4,71)],OG "Unknown" "Unknown" 248 11 0 0 62 false 181 63 .none .none .none .none 251,OE 64 61 "doletaper.errors" 194]++(qi pQ++([RH ["title"] 266,lJ P,lI P,OL 75,OO 75,lX 31,OM,Lm [Ek P "__module__" 278 (.str "doletaper.errors" 194),Ek P "__qualname__" 280 (.str "NoWord" 279),Ek P "__firstlineno__" 282 (.int 15 281),Ek P "__static_attributes__" 283 (.ref 85)] 4,Ls,oP,OG "NoWord" "NoWord" 273 15 0 0 81 false 181 82 .none .none .none .none 276,OE 83 80 "doletaper.errors" 194,Ls,lH P,lG P,OL 87]++([OO 87,lX 31,OM,Lm [Ek P "__module__" 294 (.str "doletaper.errors" 194),Ek P "__qualname__" 296 (.str "NoRow" 295),Ek P "__firstlineno__" 298 (.int 17 297),Ek P "__init__" 306 (.ref 103),Ek P "__static_attributes__" 308 (.ref 104)] 5,Ls,OR [(19,4,102)],OG "NoRow" "NoRow" 289 17 0 0 93 false 181 94 .none .none .none .none 292,OE 95 92 "doletaper.errors" 194]++(qi oJ++([RH ["place"] 307,RG P,RF P,OL 106,OO 106]++(og lC++(og lB++(rZ lA++(og kz++(og ky++([RE P])))))))))))))))
def qG (P:Params):List Obj:=TV ku++(TV ko++(TV km++(TV kj++(TV ki++(TV kh++(TV kZ++(TV kY++(TV kX++(TV kW++(TV kU++(TV kT++(TV kR++(rY kQ++(oi kP++(oi kO)))))))))))))))
def qF (P:Params):List Obj:=oi kN++(oi kM++([RD P,RC P]++(oh kL++(oh jz++(oh jy++(oh jx++(rX jw++(nP jv++(nP ju++(nP js++(nP jr++(nP jq++(nP jo++(nP jm++([Ls,OM,Lm [Ek P "__module__" 639 (.str "doletaper.kinds" 630),Ek P "__qualname__" 641 (.str "Kind" 640),Ek P "__firstlineno__" 643 (.int 191 642),Ek P "__init__" 660 (.ref 359),Ek P "full_of" 666 (.ref 364),Ek P "may_have" 672 (.ref 369),Ek P "owns" 678 (.ref 374),Ek P "taken_off" 685 (.ref 381),Ek P "greatest_rate" 694 (.ref 388),Ek P "amount_from" 702 (.ref 395),Ek P "__static_attributes__" 712 (.ref 396)] 11,Ls,OR [(193,4,358),(204,4,363),(207,4,368),(210,4,373),(213,4,380),(216,4,387),(224,4,394)],OG "Kind" "Kind" 634 191 0 0 348 false 181 349 .none .none .none .none 637,OE 350 347 "doletaper.kinds" 630,RA P])))))))))))))))
def qE (P:Params):List Obj:=mK jl++(qI jk++(qI jj++(qI ji++(mK jh++(mK jg++(mK jf++([RH ["counts","limit","offs","parts","pays","terms","title","unit","way"] 703,Qs P,Oz P,TU "__dict__" 713 398 (.builtin "function.__dict__") (.builtin "function.__dict__#set"),TU "__weakref__" 715 398 (.builtin "ExceptionGroup.__weakref__") .none,OL 398,OO 398,Ls,OM,Lm [Ek P "__module__" 727 (.str "doletaper.kinds" 630),Ek P "__qualname__" 729 (.str "Cap" 728),Ek P "__firstlineno__" 731 (.int 228 730),Ek P "__init__" 741 (.ref 416),Ek P "room_for" 749 (.ref 423),Ek P "__static_attributes__" 753 (.ref 424)] 6,Ls,OR [(230,4,415),(235,4,422)],OG "Cap" "Cap" 722 228 0 0 406 false 181 407 .none .none .none .none 725,OE 408 405 "doletaper.kinds" 630]++(mK je++(mK jd++([RH ["each","limit","titles"] 750,Oy P,Ox P,TU "__dict__" 754 426 (.builtin "function.__dict__") (.builtin "function.__dict__#set"),TU "__weakref__" 756 426 (.builtin "ExceptionGroup.__weakref__") .none,OL 426,OO 426,Ls,OM,Lm [Ek P "__module__" 768 (.str "doletaper.kinds" 630),Ek P "__qualname__" 770 (.str "Office" 769),Ek P "__firstlineno__" 772 (.int 237 771),Ek P "__init__" 781 (.ref 444),Ek P "kind" 790 (.ref 451),Ek P "named" 797 (.ref 458),Ek P "__static_attributes__" 800 (.ref 459)] 7,Ls,OR [(239,4,443),(243,4,450),(249,4,457)],OG "Office" "Office" 763 237 0 0 434 false 181 435 .none .none .none .none 766,OE 436 433 "doletaper.kinds" 630]++(mK jc++(mK jb++(mK oI++([RH ["caps","kinds"] 798,Ow P,Ov P,TU "__dict__" 801 461 (.builtin "function.__dict__") (.builtin "function.__dict__#set"),TU "__weakref__" 803 461 (.builtin "ExceptionGroup.__weakref__") .none,OL 461,OO 461]++(rW ja)))))))))))))))
def qD (P:Params):List Obj:=[Ls,OM,Lm [Ek P "__module__" 823 (.str "doletaper.parts" 808),Ek P "__qualname__" 825 (.str "Part" 824),Ek P "__firstlineno__" 827 (.int 254 826),Ek P "worth" 835 (.ref 484),Ek P "row" 842 (.ref 491),Ek P "__static_attributes__" 843 (.ref 492)] 6,Ls,OR [(256,4,483),(259,4,490)],OG "Part" "Part" 818 254 0 0 474 false 181 475 .none .none .none .none 821,OE 476 473 "doletaper.parts" 808]++(OF oH++(OF oG++([Ls,Ou P,Ot P,TU "__dict__" 844 494 (.builtin "function.__dict__") (.builtin "function.__dict__#set"),TU "__weakref__" 846 494 (.builtin "ExceptionGroup.__weakref__") .none,OL 494,OO 494,lX 494,OM,Lm [Ek P "__module__" 858 (.str "doletaper.parts" 808),Ek P "__qualname__" 860 (.str "Base" 859),Ek P "__firstlineno__" 862 (.int 261 861),Ek P "__init__" 870 (.ref 512),Ek P "worth" 878 (.ref 519),Ek P "row" 885 (.ref 526),Ek P "__static_attributes__" 887 (.ref 527)] 7,Ls,OR [(263,4,511),(266,4,518),(269,4,525)],OG "Base" "Base" 853 261 0 0 502 false 181 503 .none .none .none .none 856,OE 504 501 "doletaper.parts" 808]++(OF iz++(OF iy++(OF ix++([RH ["amount"] 886,Os P,Oq P,OL 529,OO 529,lX 494,OM,Lm [Ek P "__module__" 898 (.str "doletaper.parts" 808),Ek P "__qualname__" 900 (.str "Each" 899),Ek P "__firstlineno__" 902 (.int 271 901),Ek P "__init__" 912 (.ref 545),Ek P "worth" 920 (.ref 552),Ek P "row" 927 (.ref 559),Ek P "__static_attributes__" 931 (.ref 560)] 7,Ls,OR [(273,4,544),(278,4,551),(281,4,558)],OG "Each" "Each" 893 271 0 0 535 false 181 536 .none .none .none .none 896,OE 537 534 "doletaper.parts" 808]++(OF iw++(OF iu++(OF ir++([RH ["amount","high","low"] 928,Oo P,On P,OL 562,OO 562,lX 494,OM,Lm [Ek P "__module__" 942 (.str "doletaper.parts" 808),Ek P "__qualname__" 944 (.str "Rent" 943),Ek P "__firstlineno__" 946 (.int 283 945),Ek P "__init__" 955 (.ref 578),Ek P "worth" 963 (.ref 585),Ek P "row" 970 (.ref 592),Ek P "__static_attributes__" 973 (.ref 593)] 7,Ls,OR [(285,4,577),(289,4,584),(292,4,591)],OG "Rent" "Rent" 937 283 0 0 568 false 181 569 .none .none .none .none 940,OE 570 567 "doletaper.parts" 808]++(OF iq++(OF ip++(OF ik++([RH ["most","rate"] 971,Om P,Ol P,OL 595,OO 595,Ls,OM,Lm [Ek P "__module__" 984 (.str "doletaper.parts" 808),Ek P "__qualname__" 986 (.str "Term" 985),Ek P "__firstlineno__" 988 (.int 294 987),Ek P "met" 996 (.ref 611),Ek P "row" 1003 (.ref 618),Ek P "__static_attributes__" 1004 (.ref 619)] 6,Ls,OR [(296,4,610),(299,4,617)],OG "Term" "Term" 979 294 0 0 601 false 181 602 .none .none .none .none 982,OE 603 600 "doletaper.parts" 808])))))))))))))))
def qC (P:Params):List Obj:=OF oE++(OF oC++([Ls,Oj P,Oi P,TU "__dict__" 1005 621 (.builtin "function.__dict__") (.builtin "function.__dict__#set"),TU "__weakref__" 1007 621 (.builtin "ExceptionGroup.__weakref__") .none,OL 621,OO 621,lX 621,OM,Lm [Ek P "__module__" 1019 (.str "doletaper.parts" 808),Ek P "__qualname__" 1021 (.str "From" 1020),Ek P "__firstlineno__" 1023 (.int 301 1022),Ek P "__init__" 1033 (.ref 639),Ek P "met" 1041 (.ref 646),Ek P "row" 1048 (.ref 653),Ek P "__static_attributes__" 1052 (.ref 654)] 7,Ls,OR [(303,4,638),(308,4,645),(311,4,652)],OG "From" "From" 1014 301 0 0 629 false 181 630 .none .none .none .none 1017,OE 631 628 "doletaper.parts" 808]++(OF ij++(OF ig++(OF ie++([RH ["high","low","many"] 1049,Oh P,Og P,OL 656,OO 656,lX 621,OM,Lm [Ek P "__module__" 1063 (.str "doletaper.parts" 808),Ek P "__qualname__" 1065 (.str "Upto" 1064),Ek P "__firstlineno__" 1067 (.int 313 1066),Ek P "__init__" 1077 (.ref 672),Ek P "met" 1085 (.ref 679),Ek P "row" 1092 (.ref 686),Ek P "__static_attributes__" 1096 (.ref 687)] 7,Ls,OR [(315,4,671),(320,4,678),(323,4,685)],OG "Upto" "Upto" 1058 313 0 0 662 false 181 663 .none .none .none .none 1061,OE 664 661 "doletaper.parts" 808]++(OF ic++(OF ib++(OF ia++([RH ["high","low","many"] 1093,Of P,Oe P,OL 689,OO 689,Od P,Oc P,Ob P]++(lS gy++(lS gx++(lS gw++(lS gv++(o9 gu)))))))))))))))
def qB (P:Params):List Obj:=lS gq++([Ls,OM,Lm [Ek P "__module__" 1250 (.str "doletaper.reading" 1100),Ek P "__qualname__" 1252 (.str "Reader" 1251),Ek P "__firstlineno__" 1254 (.int 374 1253),Ek P "__init__" 1261 (.ref 748),Ek P "titles_told" 1267 (.ref 753),Ek P "fits" 1276 (.ref 760),Ek P "caps_none_twice" 1286 (.ref 767),Ek P "take" 1295 (.ref 774),Ek P "office_told" 1301 (.ref 779),Ek P "__static_attributes__" 1305 (.ref 780)] 10,Ls,OR [(376,4,747),(381,4,752),(384,4,759),(391,4,766),(397,4,773),(408,4,778)],OG "Reader" "Reader" 1245 374 0 0 738 false 181 739 .none .none .none .none 1248,OE 740 737 "doletaper.reading" 1100]++(lS gp++(o9 gn++(lS gm++(lS gk++(lS gh++(o9 fw++([RH ["asked_for","caps","drafts"] 1302,Oa P,O9 P,TU "__dict__" 1306 782 (.builtin "function.__dict__") (.builtin "function.__dict__#set"),TU "__weakref__" 1308 782 (.builtin "ExceptionGroup.__weakref__") .none,OL 782,OO 782]++(lS fv++(o9 ft++(lS fq++(Xb fm++(Xb fk++(Xb fj++(Xb fe)))))))))))))))
def qA (P:Params):List Obj:=Xb fc++(Xb fb++(Xb ez++(Xb eu++(Xb ei++(Xb eh++(Xb ef++(Xb ee++(Xb dz++(Xb dw++(Xb du++(Xb dt++(Xb dq++(GV dm++(GV dk++(GV dj)))))))))))))))
def pq (P:Params):List Obj:=Xb di++(GV dh++(Xb dg++(Xb df++(Xb Zj++(Xb Z8++(GV ZQ++(Xb Yu++(GV Yt++(GV OU++(Xb OT++(Xb OS)))))))))))
def FS (P:Params):List Obj:=qH P++(qG P++(qF P++(qE P++(qD P++(qC P++(qB P++(qA P++(pq P))))))))
open PySem PySem.W in
def nC (f:Params->List Obj)(w:World)(os:OsState):Shared:=⟨⟨⟨f w.params⟩,{}⟩,#[],{},1642,os⟩
open PySem PySem.W in
def hdL0 (p:Program)(w:World)(os:OsState):=Hd.answer p 61 9000 10 (λs=>s) w os
open PySem PySem.W in
def hdR0 (p:Program)(f:Params->List Obj)(w:World)(os:OsState):=Hd.answer0 p 2 (nC f w os)
theorem rP:hdL0=hdL0:=rfl
theorem rL:hdR0=hdR0:=rfl
name_quick hdL0 for hdL0 by rP
name_quick hdR0 for hdR0 by rL
theorem BZ (w:World)(os):(λw=>hdL0 KI w os=hdR0 KI FS w os) (w.withFollow "special-get-raises" false):=by
 show _=_;rw[PySem.W.Fast.hdL0_eq,PySem.W.Fast.hdR0_eq]
 (kernel_rfl)
theorem BY (w:World)(os):(λw=>hdL0 KI w os=hdR0 KI FS w os) (w.withFollow "special-get-raises" true):=by
 show _=_;rw[PySem.W.Fast.hdL0_eq,PySem.W.Fast.hdR0_eq]
 (kernel_rfl)
theorem Ti (w)(os):hdL0 KI w os=hdR0 KI FS w os:=W.byRow2 "special-get-raises" (P:=λw=>hdL0 KI w os=hdR0 KI FS w os) (λw=>BZ w os) (λw=>BY w os) w
open PySem PySem.W in
def hdL1 (p q:Program)(A:List Addr)(rs:W.WRecords)(lo:List Str)(s:Shared)(w:World):=Hd.fH s λs=>((W.staticsOk (importedModules p.main.body) (W.boot_heap w.params) s.heap&&W.namesBound p s.heap&&W.gensDone s&&W.laidKept (W.boot_heap w.params) s.heap),A.map s.heap.get?)
open PySem PySem.W in
def hdR1 (p q:Program)(f:Params->W.Frag)(lo:List Str)(w:World):=(true,(f w.params).map λp=>some p.2)
theorem rO:hdL1=hdL1:=rfl
name_quick hdL1 for hdL1 by rO
theorem F1 (w)(os):hdL1 KI hkV hkA (W.RowW.records (W.OpenRow.toRowW KJ)) hkLo (nC FS w os) w=hdR1 KI hkV HK hkLo w:=by
 rw[PySem.W.Fast.hdL1_eq]
 (kernel_rfl)
open PySem PySem.W in
def hdL2 (p q:Program)(A:List Addr)(rs:W.WRecords)(lo:List Str)(s:Shared)(w:World):=Hd.fH s λs=>seen ((recsOf q).map (·.name)) (ownsOf q) [] { s with gens:=#[] }
open PySem PySem.W in
def hdR2 (p q:Program)(f:Params->W.Frag)(lo:List Str)(w:World):=(expectedOf q)
theorem rN:hdL2=hdL2:=rfl
name_quick hdL2 for hdL2 by rN
theorem F0 (w)(os):hdL2 KI hkV hkA (W.RowW.records (W.OpenRow.toRowW KJ)) hkLo (nC FS w os) w=hdR2 KI hkV HK hkLo w:=by
 rw[PySem.W.Fast.hdL2_eq]
 (kernel_rfl)
open PySem PySem.W in
def hdL31 (p q:Program)(A:List Addr)(rs:W.WRecords)(lo:List Str)(s:Shared)(w:World):=Hd.fH s λs=>(s.heap.bltView)
open PySem PySem.W in
def hdR31 (p q:Program)(f:Params->W.Frag)(lo:List Str)(w:World):=bltViewBooted
theorem Th (w)(os):hdL31 KI hkV hkA (W.RowW.records (W.OpenRow.toRowW KJ)) hkLo (nC FS w os) w=hdR31 KI hkV HK hkLo w:=by
 (kernel_rfl)
open PySem PySem.W in
def hdL32 (p q:Program)(A:List Addr)(rs:W.WRecords)(lo:List Str)(s:Shared)(w:World):=Hd.fH s λs=>(s.heap.keysOk (looseW q lo) ((recsOf q).map (·.name)) ((litsOf q).map (·.1)) ((clssOf q (looseW q lo)).map (·.name))&&s.heap.accountedOkI (importedModules p.main.body)&&s.heap.isNs mainGlobals&&s.heap.isNs builtinsNs&&tablesOk q s.heap&&(λs=>W.xlAt q [] s&&W.recOk rs s) s&&(if true then s.gens.size==0 else !leftWithCleanup s.gens))
open PySem PySem.W in
def hdR32 (p q:Program)(f:Params->W.Frag)(lo:List Str)(w:World):=true
theorem C6:hdL32=hdL32:=rfl
name_quick hdL32 for hdL32 by C6
theorem Tg (w)(os):hdL32 KI hkV hkA (W.RowW.records (W.OpenRow.toRowW KJ)) hkLo (nC FS w os) w=hdR32 KI hkV HK hkLo w:=by
 rw[PySem.W.Fast.hdL32_eq]
 (kernel_rfl)
open PySem PySem.W in
def hdL33 (p q:Program)(A:List Addr)(rs:W.WRecords)(lo:List Str)(s:Shared)(w:World):=Hd.fH s λs=>(tabsOk q s)
open PySem PySem.W in
def hdR33 (p q:Program)(f:Params->W.Frag)(lo:List Str)(w:World):=true
theorem C5:hdL33=hdL33:=rfl
name_quick hdL33 for hdL33 by C5
theorem Tf (w)(os):hdL33 KI hkV hkA (W.RowW.records (W.OpenRow.toRowW KJ)) hkLo (nC FS w os) w=hdR33 KI hkV HK hkLo w:=by
 rw[PySem.W.Fast.hdL33_eq]
 (kernel_rfl)
open PySem PySem.W in
def hdL4 (p q:Program)(A:List Addr)(rs:W.WRecords)(lo:List Str)(s:Shared)(w:World):=Hd.fH s λs=>(pinSeenD q (drecsOf q) s,plainSeenE q (looseW q lo) s,plainSeenD q lo s,wideSeen q s,clsSeenW q lo s)
open PySem PySem.W in
def hdR4 (p q:Program)(f:Params->W.Frag)(lo:List Str)(w:World):=(pinGoodD (drecsOf q),plainGoodE q (looseW q lo),plainGoodD q lo,wideGood q,clsGoodW q lo)
theorem rM:hdL4=hdL4:=rfl
name_quick hdL4 for hdL4 by rM
theorem FZ (w)(os):hdL4 KI hkV hkA (W.RowW.records (W.OpenRow.toRowW KJ)) hkLo (nC FS w os) w=hdR4 KI hkV HK hkLo w:=by
 rw[PySem.W.Fast.hdL4_eq]
 (kernel_rfl)
theorem hd_left:W.LeftO KI hkV hkLo (λs=>W.xlAt hkV [] s&&W.recOk (W.RowW.records (W.OpenRow.toRowW KJ)) s) (W.Hook.obs (W.kHook HK hkA hkA_eq)) (W.Hook.val (W.kHook HK hkA hkA_eq)) 400000:=
 Hd.left_okF (c:=61) (F:=9000) (M:=10) (n:=2) (fin:=nC FS) (by kernel_rfl) rfl (λs=>by kernel_rfl) Hd.size Ti F1 F0 Th Tg Tf FZ (by kernel_rfl)
end My
namespace L2
open PySem PySem.Spec PyProof.Rows
abbrev Key:=Sum Int Str
def JK:Key->Value->Bool
 | .inl k,v=>Value.isInt k v
 | .inr x,v=>Value.isStrOf x v
def C9 (w:World):Key->Int
 | .inl k=>hashInt k
 | .inr x=>hashStr w x
theorem Q0:∀{k}{v},JK k v=true->(∃i t,k=Sum.inl i/\v=Value.int i t)∨(∃x t,k=Sum.inr x/\v=Value.str x t)
 | .inl i,v,h=>by
  obtain⟨t,e⟩:=Value.isInt_shape (k:=i) (v:=v) h;exact .inl ⟨i,t,rfl,e⟩
 | .inr x,v,h=>by
  obtain⟨t,e⟩:=Value.isStrOf_shape (x:=x) (v:=v) h;exact .inr ⟨x,t,rfl,e⟩
theorem MN (i:Int)(t):JK (.inl i) (.int i t)=true:=by simp[JK,Value.isInt]
theorem WJ (x)(t):JK (.inr x) (.str x t)=true:=by simp[JK,Value.isStrOf]
theorem FQ (a b:Int):decide ((Sum.inl a:Key)=Sum.inl b)=(a==b):=by
 by_cases e:a=b
 ·subst e;simp
 ·have h:¬(Sum.inl a:Key)=Sum.inl b:=λq=>e (Sum.inl.inj q)
  rw[AV h];exact(beq_eq_false_iff_ne.mpr e).symm
theorem FN (a b):decide ((Sum.inr a:Key)=Sum.inr b)=decide (a=b):=by
 by_cases e:a=b
 ·subst e;simp
 ·have h:¬(Sum.inr a:Key)=Sum.inr b:=λq=>e (Sum.inr.inj q)
  rw[AV h,AV e]
theorem FP (a:Int)(b):decide ((Sum.inl a:Key)=Sum.inr b)=false:=AV (λq=>nomatch q)
theorem FO (a)(b:Int):decide ((Sum.inr a:Key)=Sum.inl b)=false:=AV (λq=>nomatch q)
def QU (prog:Program)(w:World):PySem.KeyKind prog w Key where
 is:=JK
 hash:=C9 w
 inj:=λv a b ha U=>by
  rcases Q0 ha with ⟨i,t,rfl,rfl⟩|⟨x,t,rfl,rfl⟩
  ·rcases Q0 U with ⟨j,u,rfl,e⟩|⟨y,u,rfl,e⟩
   ·injection e with e1 _;rw[e1]
   ·exact nomatch e
  ·rcases Q0 U with ⟨j,u,rfl,e⟩|⟨y,u,rfl,e⟩
   ·exact nomatch e
   ·injection e with e1 _;rw[e1]
 byValue:=λk v h=>by
  rcases Q0 h with ⟨i,t,rfl,rfl⟩|⟨x,t,rfl,rfl⟩<;>rfl
 pyHash:=λJ h=>by
  rcases Q0 J with ⟨i,t,rfl,rfl⟩|⟨x,t,rfl,rfl⟩
  ·exact wpAny_pyHash_int h
  ·exact wpAny_pyHash_str h
 eqBool:=λhu J h=>by
  rcases Q0 hu with ⟨i,t,rfl,rfl⟩|⟨x,t,rfl,rfl⟩
  ·rcases Q0 J with ⟨j,u,rfl,rfl⟩|⟨y,u,rfl,rfl⟩
   ·rw[FQ] at h;exact wpAny_eqBool_int h
   ·rw[FP] at h;exact SeqAt.EqAt.int_str i t y u _ _ _ _ h
  ·rcases Q0 J with ⟨j,u,rfl,rfl⟩|⟨y,u,rfl,rfl⟩
   ·rw[FO] at h;exact SeqAt.EqAt.str_int x t j u _ _ _ _ h
   ·rw[FN] at h;exact wpAny_eqBool_str h
 «strs»:=λk x t v h=>by
  rcases Q0 h with ⟨i,u,rfl,e⟩|⟨y,u,rfl,e⟩
  ·exact nomatch e
  ·injection e with e1 _
   subst e1;cases v<;>rfl
theorem Uw (prog)(w)(i:Int)(t):(QU prog w).is (.inl i) (.int i t)=true:=MN i t
theorem Uv (prog)(w)(x)(t):(QU prog w).is (.inr x) (.str x t)=true:=WJ x t
inductive V where
 | non|bl (b:Bool)|int (i:Int)|str (x:Str)|byt (b:Array UInt8)|flt (b:UInt64)|ref (a:Addr)|ty (n:String)
 deriving DecidableEq
def RelV:V->Value->Prop
 | .non,u=>u=Value.none
 | .bl b,u=>u=Value.bool b
 | .int i,u=>∃t,u=Value.int i t
 | .str x,u=>∃t,u=Value.str x t
 | .byt b,u=>∃t,u=Value.bytes b t
 | .flt b,u=>∃t,u=Value.float b t
 | .ref a,u=>u=Value.ref a
 | .ty n,u=>u=Value.type n
abbrev Vals:List V->List Value->Prop:=Paired RelV
theorem Vals.length {xs}(r:Vals xs us):xs.length=us.length:=Paired.length r
theorem Vals.get:∀{xs}{us}{i:Nat}{x:V},Vals xs us->xs[i]?=some x->∃u,us[i]?=some u/\RelV x u
 | _,_,_,_,.nil,e=>by simp at e
 | _,_,0,_,.cons r _,e=>by simp at e;subst e;exact⟨_,rfl,r⟩
 | _,_,i+1,x,.cons _ t,e=>by
  obtain⟨u,h1,h2⟩:=Vals.get (i:=i) (x:=x) t (by simpa using e);exact⟨u,by simpa using h1,h2⟩
theorem Vals.append:∀{xs ys}{us ws},Vals xs us->Vals ys ws->Vals (xs++ys) (us++ws)
 | _,_,_,_,.nil,s=>s
 | _,_,_,_,.cons r t,s=>.cons r (Vals.append t s)
theorem Vals.take:∀{xs}{us}(n:Nat),Vals xs us->Vals (xs.take n) (us.take n)
 | _,_,0,_=>.nil
 | _,_,_+1,.nil=>.nil
 | _,_,n+1,.cons r t=>.cons r (Vals.take n t)
theorem Vals.drop:∀{xs}{us}(n:Nat),Vals xs us->Vals (xs.drop n) (us.drop n)
 | _,_,0,r=>r
 | _,_,_+1,.nil=>.nil
 | _,_,n+1,.cons _ t=>Vals.drop n t
def RelO:Option V->Option Value->Prop
 | some v,some u=>RelV v u
 | none,none=>True
 | _,_=>False
def KV {κ:Type}:List (κ×V)->List (κ×Value)->Prop:=Paired λ(p:κ×V) (q:κ×Value)=>p.1=q.1/\RelV p.2 q.2
def kV:Key->V
 | .inl i=>.int i
 | .inr x=>.str x
inductive HO where
 | lst (xs:List V)
 | tup (xs:List V)
 | dK (kvs:List (Key×V))|dT (kvs:List (List Key×V))
 | set (S:Int->Bool) (n:Nat)
 | ins (C dx:Addr) (fs:List (Str×V))
 | own (x:Addr)
 | xd (fs:List (Str×V))
 | met (f x:Addr)
 | rng (lo hi:Int)
 | frz (o:Obj) (u:HO)
 | tbl (ps:Array Value)
 | ext (φ:Heap->Prop)
abbrev Hp:=Addr->Option HO
def upd (H:Hp)(a:Addr)(o:HO):Hp:=λb=>if b=a then some o else H b
theorem Qb:upd H a o a=some o:=by unfold upd;rw[An rfl]
theorem Qk {H}{a b}{o}(h:b≠a):upd H a o b=H b:=by unfold upd;rw[Am h]
theorem YH {H:Hp}{o u:HO}(h:H a=some o)(h':H b=some u)(d:o≠u):a≠b:=by
 intro e;subst e;rw[h] at h';exact d (AO h')
theorem Qj {H:Hp}(h:H a=some o)(h':H b=none):a≠b:=by
 intro e;subst e;rw[h] at h';cases h'
section
variable (P:Program) (w:World)
def ObjOk (H:Hp)(h:Heap)(a:Addr):HO->Prop
 | .lst xs=>xs.length<=sizeLine/\∃(its:List Value) (n:Nat),Vals xs its/\h.get? a=some { cls:=.type "list",data:=.seq its.toArray n }
 | .tup xs=>xs.length<=sizeLine/\∃its:List Value,Vals xs its/\IsTup h a its.toArray
 | .dK kvs=>kvs.length<=sizeLine/\(a==sysModules)=false/\∃vs,KV kvs vs/\h.DictOf (QU P w) a vs
 | .dT kvs=>kvs.length<=sizeLine/\(a==sysModules)=false/\∃xs:List (List Key×Addr×Value),
   Paired (λ(p:List Key×V) (q:List Key×Addr×Value)=>p.1=q.1/\H q.2.1=some (.tup (p.1.map kV))/\RelV p.2 q.2.2) kvs xs /\
   ∃o es ep,h.get? a=some o/\o.ExactDict/\o.data=.dict es ep/\es.toList=xs.map (entryOfKey (tupleKind (QU P w)))/\(xs.map (·.1)).Nodup
 | .set S n=>h.SetOf (intKind P w) a S n
 | .ins C dx fs=>H dx=some (.own a)/\fs.length<=1000/\dx≠a/\h.get? a=some (W.instObj C dx) /\
   ∃mA,h.Ns1 dx mA/\(∀f,RelO (fs.lookup f) (mA f))/\PySem.Within mA (fs.map (·.1))
 | .own _=>∃o,h.get? a=some o
 | .xd fs=>∃mA,h.Ns1 a mA/\∀f,RelO (fs.lookup f) (mA f)
 | .rng lo hi=>∃t u v,h.get? a=some { cls:=.type "range",data:=.fields #[.int lo t,.int hi u,.int 1 v] }
 | .frz o u=>h.get? a=some o/\ObjOk H h a u
 | .tbl ps=>h.get? a=some { cls:=.none,data:=.fields ps }
 | .met f x=>h.get? a=some (W.methodObj (.ref f) (.ref x))
 | .ext φ=>φ h/\(∃o,h.get? a=some o)/\∀h1 h2:Heap,φ h1->(∀o,h1.get? a=some o->h2.get? a=some o)->φ h2
def HOk (H:Hp)(h:Heap):Prop:=∀a o,H a=some o->ObjOk P w H h a o
end
section
variable {P:Program} {w:World} {H H':Hp} {h h':Heap} {a:Addr} {o:HO}
theorem ObjOk.lt (x:ObjOk P w H h a o):a<h.objs.size:=by
 cases o with
 | lst xs=>obtain⟨_,_,_,_,e⟩:=x;exact AC e
 | tup xs=>obtain⟨_,_,_,p⟩:=x;exact p.lt
 | dK kvs=>obtain⟨_,_,_,_,o,_,_,e,_⟩:=x;exact AC e
 | dT kvs=>obtain⟨_,_,_,_,o,_,_,e,_⟩:=x;exact AC e
 | set S n=>obtain⟨o,_,_,_,e,_⟩:=x;exact AC e
 | ins C dx fs=>obtain⟨_,_,_,e,_⟩:=x;exact AC e
 | own y=>obtain⟨_,e⟩:=x;exact AC e
 | xd fs=>obtain⟨_,⟨_,_,_,e,_⟩,_⟩:=x;exact AC e
 | rng lo hi=>obtain⟨_,_,_,e⟩:=x;exact AC e
 | frz J u=>obtain⟨e,_⟩:=x;exact AC e
 | tbl ps=>exact AC (show h.get? a=some _ from x)
 | met f y=>exact AC (show h.get? a=some _ from x)
 | ext φ=>obtain⟨_,⟨_,e⟩,_⟩:=x;exact AC e
theorem Paired.mapP {F G}:∀{l₁:List α}{l₂:List β},Paired F l₁ l₂->(∀a b,F a b->G a b)->Paired G l₁ l₂
 | _,_,.nil,_=>.nil
 | _,_,.cons r t,f=>.cons (f _ _ r) (Paired.mapP t f)
theorem ObjOk.stay (x:ObjOk P w H h a o)(k:∀b u,(b=a∨H b=some (.own a))->h.get? b=some u->h'.get? b=some u)
  (ho:∀b,H b=some (.own a)->H' b=some (.own a)) (ht:∀b xs,H b=some (.tup xs)->H' b=some (.tup xs)):ObjOk P w H' h' a o:=by
 induction o with
 | lst xs=>obtain⟨z,its,n,r,e⟩:=x;exact⟨z,its,n,r,k _ _ (.inl rfl) e⟩
 | tup xs=>obtain⟨z,its,r,J,e,c⟩:=x;exact⟨z,its,r,J,k _ _ (.inl rfl) e,c⟩
 | dK kvs=>obtain⟨z,y,vs,r,J,es,U,e,c⟩:=x;exact⟨z,y,vs,r,J,es,U,k _ _ (.inl rfl) e,c⟩
 | dT kvs=>
  obtain⟨z,y,xs,r,J,es,U,e,c⟩:=x;exact⟨z,y,xs,Paired.mapP r λp q z=>⟨z.1,ht _ _ z.2.1,z.2.2⟩,J,es,U,k _ _ (.inl rfl) e,c⟩
 | set S n=>obtain⟨J,es,U,t,e,c⟩:=x;exact⟨J,es,U,t,k _ _ (.inl rfl) e,c⟩
 | ins C dx fs=>
  obtain⟨d,z,ne,e,mA,⟨od,es,U,e2,c⟩,r⟩:=x;exact⟨ho _ d,z,ne,k _ _ (.inl rfl) e,mA,⟨od,es,U,k _ _ (.inr d) e2,c⟩,r⟩
 | own y=>obtain⟨J,e⟩:=x;exact⟨J,k _ _ (.inl rfl) e⟩
 | xd fs=>obtain⟨mA,⟨od,es,U,e,c⟩,r⟩:=x;exact⟨mA,⟨od,es,U,k _ _ (.inl rfl) e,c⟩,r⟩
 | rng lo hi=>obtain⟨t,u,v,e⟩:=x;exact⟨t,u,v,k _ _ (.inl rfl) e⟩
 | frz J u ih=>obtain⟨e,q⟩:=x;exact⟨k _ _ (.inl rfl) e,ih q⟩
 | tbl ps=>
  have e:h.get? a=some { cls:=.none,data:=.fields ps }:=x;show h'.get? a=some { cls:=.none,data:=.fields ps };exact k a _ (.inl rfl) e
 | met f y=>
  have e:h.get? a=some (W.methodObj (.ref f) (.ref y)):=x;show h'.get? a=some (W.methodObj (.ref f) (.ref y));exact k a _ (.inl rfl) e
 | ext φ=>obtain⟨p,⟨o,e⟩,st⟩:=x;exact⟨st _ _ p λo q=>k _ _ (.inl rfl) q,⟨o,k _ _ (.inl rfl) e⟩,st⟩
theorem HOk.lt (x:HOk P w H h)(e:H a=some o):a<h.objs.size:=(x a o e).lt
theorem HOk.fresh (x:HOk P w H h)(e:h.objs.size<=a):H a=none:=by
 cases q:H a with
 | none=>rfl
 | some u=>exact absurd (AW (x.lt q) e) (Ij _)
theorem HOk.kept (x:HOk P w H h)(k:∀b u,h.get? b=some u->h'.get? b=some u):HOk P w H h':=λa o e=>
 (x a o e).stay (λb u _ q=>k b u q) (λ_ q=>q) λ_ _ q=>q
theorem HOk.laid (x:HOk P w H h)(k:∀b u,h.get? b=some u->h'.get? b=some u)(hp:h.objs.size<=a)(new:ObjOk P w (upd H a o) h' a o):HOk P w (upd H a o) h':=λb u e=>by
 have hn:=x.fresh hp;by_cases J:b=a
 ·subst J;rw[Qb] at e;cases e;exact new
 ·rw[Qk J] at e;exact(x b u e).stay (λc v _ q=>k c v q) (λc q=>by rw[Qk (Qj q hn)];exact q) λc xs q=>by rw[Qk (Qj q hn)];exact q
end
def Rd (H:Hp)(a:Addr)(u:HO):Prop:=H a=some u∨∃o,H a=some (.frz o u)
theorem Rd.ok {H}{h}{a}{u}(r:Rd H a u)(x:HOk P w H h):ObjOk P w H h a u:=by
 rcases r with r|⟨o,r⟩
 ·exact x a u r
 ·obtain⟨_,q⟩:=x a _ r;exact q
def oX:Option HO->Prop
 | some (.lst _)=>True
 | some (.dK _)=>True
 | some (.dT _)=>True
 | some (.set _ _)=>True
 | some (.ins _ _ _)=>True
 | some (.ext _)=>True
 | _=>False
section
variable {P:Program} {w:World} {H:Hp} {h h':Heap} {x e:Addr} {o':HO}
theorem HOk.write (ok:HOk P w H h)(mu:oX (H x))(he:e=x∨H e=some (.own x))(k:∀b u,b≠e->h.get? b=some u->h'.get? b=some u)(heo:∃u,h'.get? e=some u)
  (new:ObjOk P w (upd H x o') h' x o'):HOk P w (upd H x o') h':=λb u q=>by
 have U:∀c y,H c=some (.own y)->c≠x:=λc y r z=>by subst z;rw[r] at mu;exact mu
 have a0:∀c xs,H c=some (.tup xs)->c≠x:=λc xs r z=>by subst z;rw[r] at mu;exact mu
 by_cases hb:b=x
 ·subst hb;rw[Qb] at q;cases q;exact new
 ·rw[Qk hb] at q;by_cases J:b=e
  ·have q':H b=some (.own x):=by
    rcases he with z|z
    ·exact absurd (J.trans z) hb
    ·rw[J];exact z
   rw[q] at q';cases q';obtain⟨v,hv⟩:=heo;exact⟨v,by rw[J];exact hv⟩
  ·refine(ok b u q).stay (λc v hc r=>k c v ?_ r) (λc r=>by rw[Qk (U c b r)];exact r) λc xs r=>by rw[Qk (a0 c xs r)];exact r
   rcases hc with rfl|hc
   ·exact J
   ·rintro rfl;rcases he with z|z
    ·exact U c b hc z
    ·rw[hc] at z;cases z;exact hb rfl
end
structure Un (fs ex:List Addr)(H H':Hp)(h h':Heap):Prop where
 keep:∀b o,h.get? b=some o->H b=none->b∉fs->b∉ex->h'.get? b=some o
 slot:∀b o,h.get? b=some o->H b=none->b∈fs->b∉ex->∃sl,h'.get? b=some { o with slots:=sl }
 free:∀b o,h.get? b=some o->H b=none->b∉ex->H' b=none
 there:∀b o,h.get? b=some o->b∉ex->∃o',h'.get? b=some o'
 tups:∀b xs,H b=some (.tup xs)->H' b=some (.tup xs)
 frzs:∀b o u,H b=some (.frz o u)->H' b=some (.frz o u)
 tbls:∀b ps,H b=some (.tbl ps)->∃more,H' b=some (.tbl (ps++more))
section
variable {fs fs' ex ex':List Addr} {H H1 H2:Hp} {h h1 h2 h':Heap} {a x e:Addr} {o:HO}
theorem Un.any (u:Un fs ex H H1 h h1){b}{ob}(q:h.get? b=some ob)(n:H b=none)(hx:b∉ex):∃sl,h1.get? b=some { ob with slots:=sl }:=by
 by_cases J:b∈fs
 ·exact u.slot b ob q n J hx
 ·exact⟨ob.slots,u.keep b ob q n J hx⟩
theorem Un.kept (k:∀b u,h.get? b=some u->h'.get? b=some u):Un fs ex H H h h':=
 ⟨λb J q _ _ _=>k b J q,λb J q _ _ _=>⟨J.slots,k b J q⟩,λ_ _ _ n _=>n,λb J q _=>⟨J,k b J q⟩,λ_ _ q=>q,λ_ _ _ q=>q,λ_ ps q=>⟨#[],by rw[q];simp⟩⟩
theorem Un.refl:Un fs ex H H h h:=Un.kept λ_ _ q=>q
theorem Un.laid (k:∀b u,h.get? b=some u->h'.get? b=some u)(hp:h.objs.size<=a)(hn:H a=none):Un fs ex H (upd H a o) h h' where
 keep:=λb u q _ _ _=>k b u q
 slot:=λb u q _ _ _=>⟨u.slots,k b u q⟩
 free:=λb u q n _=>by rw[Qk (AQ (AW (AC q) hp))];exact n
 there:=λb u q _=>⟨u,k b u q⟩
 tups:=λb xs q=>by rw[Qk (Qj q hn)];exact q
 frzs:=λb u xs q=>by rw[Qk (Qj q hn)];exact q
 tbls:=λb ps q=>⟨#[],by rw[Qk (Qj q hn),q];simp⟩
theorem Un.write (mu:oX (H x))(he:e=x∨H e=some (.own x))(k:∀b u,b≠e->h.get? b=some u->h'.get? b=some u)(heo:∃u,h'.get? e=some u):Un fs ex H (upd H x o) h h':=by
 have hx:∀b,H b=none->b≠x:=λb n z=>by subst z;rw[n] at mu;exact mu
 have hb:∀b,H b=none->b≠e:=λb n z=>by
  subst z;rcases he with r|r
  ·exact hx b n r
  ·rw[n] at r;cases r
 have U:∀b u,H b=some u->¬oX (some u)->b≠x:=λb u q nm z=>by subst z;rw[q] at mu;exact nm mu
 refine⟨λb u q n _ _=>k b u (hb b n) q,λb u q n _ _=>⟨u.slots,k b u (hb b n) q⟩,λb u q n _=>by rw[Qk (hx b n)];exact n,λb u q _=>?_,
  λb xs q=>by rw[Qk (U b _ q λz=>z)];exact q,λb u xs q=>by rw[Qk (U b _ q λz=>z)];exact q,λb ps q=>⟨#[],by rw[Qk (U b _ q λz=>z),q];simp⟩⟩
 by_cases J:b=e
 ·subst J;exact heo
 ·exact⟨u,k b u J q⟩
end
def oZ (h:Heap)(H:Hp):List Addr:=(List.range h.objs.size).filter λa=>(H a).isSome
def VG (h:Heap)(H:Hp):Heap:=W.hideAll h (oZ h H)
theorem MR (h)(H):(VG h H).objs.size=h.objs.size:=W.hideAll_size _ _
theorem BX {h}{H}{b}{o}(e:h.get? b=some o)(n:H b=none):(VG h H).get? b=some o:=
 W.hideAll_get _ e λJ=>by
  have q:(H b).isSome=true:=(Ik.mp J).2;rw[n] at q;simp at q
theorem P3 {h}{H}{b}{o}(e:(VG h H).get? b=some o):h.get? b=some o/\H b=none:=by
 have J:h.get? b=some o:=W.of_hideAll (oZ h H) e;refine⟨J,?_⟩;cases q:H b with
 | none=>rfl
 | some x=>
  have U:b∈oZ h H:=Ik.mpr ⟨List.mem_range.mpr (AC J),by simp[q]⟩;have z:(VG h H).get? b=none:=W.hideAll_none (oZ h H) U;rw[z] at e;cases e
def TN (g h:Heap)(L:Addr):List (Addr×Obj):=(List.range h.objs.size).filterMap λa=>if a=L∨(g.get? a).isSome=true then none else(h.get? a).map λo=>(a,o)
def rest (g h:Heap)(L d:Addr):List (Addr×Obj):=(TN g h L).filter λp=>decide (p.1≠d)
structure Mod (K:W.Frag)(mg:Str->Option Value)(base:Heap):Prop where
 kin:K.In base
 glob:base.Ns mainGlobals mg
 blt:∃mb,base.Ns builtinsNs mb/\∀x:Str,x≠"__name__"->mb x=bootBuiltins x
 nolimit:base.NoLimit
structure Cx where
 prog:Program
 w:World
 K:W.Frag
 mg:Str->Option Value
 base:Heap
 A:Around
 N:List Str
 s₀:Shared
 H₀:Hp
 env:Env
 outer:List Env
 stack:List Env
 ex:List Addr
 fn:Str->Bool
 calm:Bool
 pn:List (Addr×Obj)
 xe:Value->Shared->Prop
def Nb (l:List Env):List Addr:=l.filterMap (·.frame)
abbrev Cx.fs (X:Cx):List Addr:=Nb X.outer
def oS (sc:Scope)(x:Str):Prop:=sc.names.lookup x=some .local∨sc.names.lookup x=some .cell∨sc.names.lookup x=some .free
def mL (sc:Scope)(x:Str):Prop:=sc.names.lookup x=some .local∨sc.names.lookup x=some .cell
def Aj (env:Env)(h:Heap)(m:Str->Option Value)(x:Str)(u:Value):Prop:=
 (env.kindOf x=some .local/\m x=some u)∨((env.kindOf x=some .cell∨env.kindOf x=some .free)/\∃c,env.cells.lookup x=some c/\h.IsCell c (some u))
structure Cx.Ok (X:Cx):Prop where
 mod:Mod X.K X.mg X.base
 kind:X.env.scope.kind=.function
 glob:X.env.globals=mainGlobals
 blt:X.env.builtins=builtinsNs
 above:X.s₀.heap.objs.size<=X.env.locals
 inj:∀x y c,X.env.cells.lookup x=some c->X.env.cells.lookup y=some c->x=y
 has:∀x,(X.env.kindOf x=some .cell∨X.env.kindOf x=some .free)->∃c,X.env.cells.lookup x=some c
 cab:∀x c,X.fn x=true->X.env.cells.lookup x=some c->X.s₀.heap.objs.size<=c
 hd:X.calm=true->X.A.handled=none
 frames:X.A.frames=some X.stack
 stk:X.stack=X.outer∨(X.stack=X.env::X.outer/\X.env.frame=some X.env.locals)
 exf:∀b∈X.ex,b≠X.env.locals/\∀x c,X.env.cells.lookup x=some c->c≠b
 bs:∀b o,X.base.get? b=some o->X.s₀.heap.get? b=some o/\X.H₀ b=none
 bsz:X.base.objs.size<=X.s₀.heap.objs.size
 noex:∀b o,X.base.get? b=some o->b∉X.ex
 exfs:∀b∈X.ex,b∉X.fs
 funs:X.s₀.heap.FunFrames X.base X.outer
 frf:∀b∈X.fs,X.H₀ b=none
structure Inv (X:Cx)(pins:List (Addr×Obj))(σ:List (Option V))(H:Hp)(s:Shared):Prop where
 ok:X.Ok
 os:s.os=X.s₀.os
 bare:AllBare s.gens
 base:Un X.fs X.ex X.H₀ H X.s₀.heap s.heap
 loc:∃m,s.heap.Ns X.env.locals m/\∀(i:Nat) (x:Str) (v:V),X.N[i]?=some x->σ[i]?=some (some v)->oS X.env.scope x->∃u,RelV v u/\Aj X.env s.heap m x u
 cell:∀x c,X.env.cells.lookup x=some c->∃v,s.heap.IsCell c v
 free:H X.env.locals=none
 freeC:∀x c,X.env.cells.lookup x=some c->H c=none
 pin:∀p∈X.pn++pins,s.heap.get? p.1=some p.2/\H p.1=none/\p.1≠X.env.locals/\p.1∉X.fs/\∀v,p.2.data≠.cell v
 hok:HOk X.prog X.w H s.heap
 len:σ.length=X.N.length
section
variable {X:Cx} {pins:List (Addr×Obj)} {σ:List (Option V)} {H H':Hp} {s:Shared} {h':Heap}
theorem Cx.Ok.nofr (ok:X.Ok){b}{o}(e:X.base.get? b=some o):b∉X.fs:=λhb=>by
 have:=(ok.funs.mem hb).1;rw[e] at this;cases this
theorem Inv.bs (I:Inv X pins σ H s):∀b o,X.base.get? b=some o->s.heap.get? b=some o/\H b=none:=λb o e=>
 ⟨I.base.keep b o (I.ok.bs b o e).1 (I.ok.bs b o e).2 (I.ok.nofr e) (I.ok.noex b o e),I.base.free b o (I.ok.bs b o e).1 (I.ok.bs b o e).2 (I.ok.noex b o e)⟩
theorem Inv.bk (I:Inv X pins σ H s):∀b o,X.base.get? b=some o->s.heap.get? b=some o:=λb o e=>(I.bs b o e).1
theorem Inv.mod (I:Inv X pins σ H s):Mod X.K X.mg X.base:=I.ok.mod
theorem Inv.kIn (I:Inv X pins σ H s):X.K.In s.heap:=I.ok.mod.kin.keeps I.bk
theorem Inv.lt (I:Inv X pins σ H s):X.env.locals<s.heap.objs.size:=let ⟨_,hn,_⟩:=I.loc;hn.lt
theorem Inv.sz (I:Inv X pins σ H s):X.s₀.heap.objs.size<=s.heap.objs.size:=A4 I.ok.above (pJ I.lt)
theorem Inv.nofs (I:Inv X pins σ H s){a}(h:s.heap.objs.size<=a):a∉X.fs:=λU=>by
 obtain⟨_,o,J,_⟩:=I.ok.funs.mem U;exact absurd (AW (AC J) (A4 I.sz h)) (Ij _)
theorem Inv.cne (I:Inv X pins σ H s):∀x c,X.env.cells.lookup x=some c->c≠X.env.locals:=λx c e z=>by
 obtain⟨v,o,ho,hd⟩:=I.cell x c e;obtain⟨m,⟨o',es,ep,J,U,_⟩,_⟩:=I.loc;rw[z,J] at ho;cases ho;rw[U] at hd;cases hd
theorem Inv.funs (I:Inv X pins σ H s):s.heap.FunFrames X.base X.outer:=by
 have all:∀(l:List Env),(∀b∈Nb l,b∈X.fs)->X.s₀.heap.FunFrames X.base l->s.heap.FunFrames X.base l:=by
  intro l
  induction l with
  | nil=>intro _ _;trivial
  | cons env r ih=>
   intro hs hl;obtain⟨hk,⟨L,o,J,hn,ho,hd⟩,hr⟩:=hl;have U:L∈X.fs:=hs L (by unfold Nb;rw[List.filterMap_cons,J];exact AH);obtain⟨sl,e⟩:=I.base.slot L o ho (I.ok.frf L U) U λz=>I.ok.exfs L z U
   exact⟨hk,⟨L,_,J,hn,e,hd⟩,ih (λb hb=>hs b (by unfold Nb;rw[List.filterMap_cons,J];exact AE _ hb)) hr⟩
 exact all X.outer (λ_ hb=>hb) I.ok.funs
theorem Inv.stack (I:Inv X pins σ H s):s.heap.FunFrames X.base X.stack:=by
 rcases I.ok.stk with e|⟨e,hf⟩
 ·rw[e];exact I.funs
 ·rw[e];obtain⟨m,hn,_⟩:=I.loc;refine .cons (by rw[I.ok.kind];decide) hf hn ?_ I.funs;exact Heap.get?_none_of_le (A4 I.ok.bsz I.ok.above)
theorem Inv.stkSub (I:Inv X pins σ H s):∀b∈Nb X.stack,b∈X.env.locals::X.fs:=λb J=>by
 rcases I.ok.stk with e|⟨e,hf⟩
 ·rw[e] at J;exact AE _ J
 ·rw[e] at J;unfold Nb at J;rw[List.filterMap_cons,hf] at J;exact J
theorem Inv.stkFree (I:Inv X pins σ H s):∀b∈Nb X.stack,H b=none:=λb J=>by
 rcases AF.mp (I.stkSub b J) with e|J
 ·rw[e];exact I.free
 ·obtain⟨_,o,U,_⟩:=I.ok.funs.mem J;exact I.base.free b o U (I.ok.frf b J) λz=>I.ok.exfs b z J
theorem Inv.step {g'}{d'}(I:Inv X pins σ H s)
  (hch:∀b∈ch,(b∈X.ex∨X.s₀.heap.objs.size<=b)/\b≠X.env.locals/\(∀x c,X.env.cells.lookup x=some c->c≠b)/\∀p∈X.pn++pins,p.1≠b)
  (keep:∀b o,b≠X.env.locals->b∉X.fs->b∉ch->s.heap.get? b=some o->H b=none->h'.get? b=some o)
  (slot:∀b o,b≠X.env.locals->b∈X.fs->b∉ch->s.heap.get? b=some o->H b=none->∃sl,h'.get? b=some { o with slots:=sl }) (free:∀b o,b∉ch->s.heap.get? b=some o->H b=none->H' b=none)
  (there:∀b o,b∉ch->s.heap.get? b=some o->∃o',h'.get? b=some o')
  (tups:∀b xs,H b=some (.tup xs)->H' b=some (.tup xs)) (frzs:∀b o u,H b=some (.frz o u)->H' b=some (.frz o u)) (tbls:∀b ps,H b=some (.tbl ps)->∃more,H' b=some (.tbl (ps++more)))
  (ns:∀m,s.heap.Ns X.env.locals m->h'.Ns X.env.locals m) (hok:HOk X.prog X.w H' h') (hg:AllBare g') :
  Inv X pins σ H' { s with heap:=h',gens:=g',drawn:=d',toks:=t' }:=by
 have a5:∀b o,X.s₀.heap.get? b=some o->b≠X.env.locals:=λb o e=>AQ (AW (AC e) I.ok.above)
 have a4:∀b o,X.s₀.heap.get? b=some o->b∉X.ex->b∉ch:=λb o e J hb=>by
  rcases(hch b hb).1 with z|z
  ·exact J z
  ·exact absurd (AW (AC e) z) (Ij _)
 have a0:∀x c,X.env.cells.lookup x=some c->∀v,s.heap.IsCell c v->h'.IsCell c v:=λx c e v ⟨o,ho,hd⟩=>by
  have U:c∉ch:=λz=>(hch c z).2.2.1 x c e rfl
  by_cases hc:c∈X.fs
  ·obtain⟨sl,q⟩:=slot c o (I.cne x c e) hc U ho (I.freeC x c e);exact⟨_,q,hd⟩
  ·exact⟨o,keep c o (I.cne x c e) hc U ho (I.freeC x c e),hd⟩
 refine⟨I.ok,I.os,hg,⟨λb o e n hb J=>?_,λb o e n hb J=>?_,λb o e n J=>?_,λb o e J=>?_,λb xs e=>tups b xs (I.base.tups b xs e),λb o xs e=>frzs b o xs (I.base.frzs b o xs e),λb ps e=>?_⟩,?_,λx c e=>?_,?_,λx c e=>?_,λp hp=>?_,hok,I.len⟩
 ·exact keep b o (a5 b o e) hb (a4 b o e J) (I.base.keep b o e n hb J) (I.base.free b o e n J)
 ·obtain⟨sl,e1⟩:=I.base.slot b o e n hb J;obtain⟨a6,e2⟩:=slot b _ (a5 b o e) hb (a4 b o e J) e1 (I.base.free b o e n J);exact⟨a6,e2⟩
 ·obtain⟨o',e1⟩:=I.base.there b o e J;exact free b o' (a4 b o e J) e1 (I.base.free b o e n J)
 ·obtain⟨o',e1⟩:=I.base.there b o e J;exact there b o' (a4 b o e J) e1
 ·obtain⟨m1,e1⟩:=I.base.tbls b ps e;obtain⟨m2,e2⟩:=tbls b _ e1;exact⟨m1++m2,by rw[e2,Array.append_assoc]⟩
 ·obtain⟨m,hn,hl⟩:=I.loc;refine⟨m,ns m hn,λi x v e1 e2 e3=>?_⟩;obtain⟨u,r,l⟩:=hl i x v e1 e2 e3;refine⟨u,r,?_⟩;rcases l with l|⟨k,c,e,z⟩
  ·exact .inl l
  ·exact .inr ⟨k,c,e,a0 x c e _ z⟩
 ·obtain⟨v,z⟩:=I.cell x c e;exact⟨v,a0 x c e v z⟩
 ·obtain⟨m,⟨o,_,_,ho,_⟩,_⟩:=I.loc;exact free _ o (λz=>(hch _ z).2.1 rfl) ho I.free
 ·obtain⟨v,o,ho,hd⟩:=I.cell x c e;exact free c o (λz=>(hch c z).2.2.1 x c e rfl) ho (I.freeC x c e)
 ·obtain⟨e,n,ne,nf,d⟩:=I.pin p hp;have U:p.1∉ch:=λz=>(hch p.1 z).2.2.2 p hp rfl
  exact⟨keep p.1 p.2 ne nf U e n,free p.1 p.2 U e n,ne,nf,d⟩
theorem Inv.un (I:Inv X pins σ H s)(u:Un X.fs [] H H' s.heap h')(hok:HOk X.prog X.w H' h'):Inv X pins σ H' { s with heap:=h',toks:=t' }:=by
 obtain⟨m,⟨o,es,ep,ho,r⟩,_⟩:=id I.loc;obtain⟨sl,hL⟩:=u.any ho I.free (by simp);exact I.step (g':=s.gens) (d':=s.drawn) (ch:=[]) (λ_ z=>nomatch z) (λb o _ hb _ e n=>u.keep b o e n hb (by simp)) (λb o _ hb _ e n=>u.slot b o e n hb (by simp)) (λb o _ e n=>u.free b o e n (by simp)) (λb o _ e=>u.there b o e (by simp)) u.tups u.frzs u.tbls (λm' hm=>by
  obtain⟨o',U,a0,J,r'⟩:=hm;rw[ho] at J;cases J;exact⟨_,U,a0,hL,r'⟩) hok I.bare
theorem Inv.call {g'}{d'}(I:Inv X pins σ H s)(u:Un (Nb X.stack) ch H H' s.heap h')(hok:HOk X.prog X.w H' h')(hg:AllBare g')
  (hch:∀b∈ch,(b∈X.ex∨X.s₀.heap.objs.size<=b)/\b≠X.env.locals/\(∀x c,X.env.cells.lookup x=some c->c≠b)/\∀p∈X.pn++pins,p.1≠b) :
  Inv X pins σ H' { s with heap:=h',gens:=g',drawn:=d',toks:=t' }:=by
 obtain⟨m,⟨o,es,ep,ho,r⟩,_⟩:=id I.loc;obtain⟨sl,hL⟩:=u.any ho I.free λz=>(hch _ z).2.1 rfl
 exact I.step (ch:=ch) hch (λb o hL hb J e n=>u.keep b o e n (λz=>(AF.mp (I.stkSub b z)).elim hL hb) J) (λb o _ _ J e n=>u.any e n J) (λb o J e n=>u.free b o e n J) (λb o J e=>u.there b o e J) u.tups u.frzs u.tbls (λm' hm=>by
  obtain⟨o',a0,a4,U,r'⟩:=hm;rw[ho] at U;cases U;exact⟨_,a0,a4,hL,r'⟩) hok hg
theorem Inv.turned (I:Inv X pins σ H s)(k:∀b o,b≠it->s.heap.get? b=some o->h'.get? b=some o)(hn:H it=none)(hL:it≠X.env.locals)
  (h1:it∈X.ex∨X.s₀.heap.objs.size<=it) (h2:∀x c,X.env.cells.lookup x=some c->c≠it) (h3:∀p∈X.pn++pins,p.1≠it):Inv X pins σ H { s with heap:=h',toks:=t' }:=by
 have U:∀b u,H b=some u->b≠it:=λb u e z=>by rw[z,hn] at e;cases e
 refine I.step (g':=s.gens) (d':=s.drawn) (ch:=[it]) (λb hb=>?_) (λb o _ _ J e _=>k b o (λz=>J (by simp[z])) e) (λb o _ _ J e _=>⟨o.slots,k b o (λz=>J (by simp[z])) e⟩) (λ_ _ _ _ n=>n)
  (λb o J e=>⟨o,k b o (λz=>J (by simp[z])) e⟩) (λ_ _ e=>e) (λ_ _ _ e=>e) (λb ps e=>⟨#[],by rw[e];simp⟩) (λm hm=>?_) (λb u e=>?_) I.bare
 ·have e:b=it:=by simpa using hb
  subst e;exact⟨h1,hL,h2,h3⟩
 ·obtain⟨o,es,ep,ho,r⟩:=hm;exact⟨o,es,ep,k _ o (Ir hL) ho,r⟩
 ·refine(I.hok b u e).stay (λc v J q=>k c v ?_ q) (λ_ q=>q) λ_ _ q=>q
  rcases J with z|z
  ·rw[z];exact U b u e
  ·exact U c _ z
theorem Inv.tok (I:Inv X pins σ H s)(t:Nat):Inv X pins σ H { s with toks:=t }:=I.un (h':=s.heap) (t':=t) Un.refl I.hok
theorem Inv.kept (I:Inv X pins σ H s)(k:∀b u,s.heap.get? b=some u->h'.get? b=some u):Inv X pins σ H { s with heap:=h',toks:=t' }:=I.un (Un.kept k) (I.hok.kept k)
theorem Inv.laid {a}{o}(I:Inv X pins σ H s)(k:∀b u,s.heap.get? b=some u->h'.get? b=some u)(hp:s.heap.objs.size<=a)(new:ObjOk X.prog X.w (upd H a o) h' a o) :
  Inv X pins σ (upd H a o) { s with heap:=h',toks:=t' }:=I.un (Un.laid k hp (I.hok.fresh hp)) (I.hok.laid k hp new)
theorem Inv.write {x e}{o}(I:Inv X pins σ H s)(mu:oX (H x))(he:e=x∨H e=some (.own x))(k:∀b u,b≠e->s.heap.get? b=some u->h'.get? b=some u)(heo:∃u,h'.get? e=some u)
  (new:ObjOk X.prog X.w (upd H x o) h' x o):Inv X pins σ (upd H x o) { s with heap:=h',toks:=t' }:=I.un (Un.write mu he k heo) (I.hok.write mu he k heo new)
theorem Inv.pins_of {pins'}(I:Inv X pins σ H s)(h:∀p∈pins',s.heap.get? p.1=some p.2/\H p.1=none/\p.1≠X.env.locals/\p.1∉X.fs/\∀v,p.2.data≠.cell v):Inv X pins' σ H s:=
 ⟨I.ok,I.os,I.bare,I.base,I.loc,I.cell,I.free,I.freeC,λp hp=>(AK.mp hp).elim (λz=>I.pin p (Im _ z)) (h p),I.hok,I.len⟩
theorem Ut {N:List Str}(hN:N.Nodup){i j:Nat}{x:Str}(a:N[i]?=some x)(b:N[j]?=some x):i=j:=by
 obtain⟨h1,e1⟩:=AU.mp a;obtain⟨h2,e2⟩:=AU.mp b;exact(List.getElem_inj hN).mp (e1.trans e2.symm)
theorem KR {v}{Q}(I:Inv X pins σ H s)(hN:X.N.Nodup)(hi:X.N[i]?=some x)(hx:mL X.env.scope x)(r:RelV v u)
  (h:∀s',Inv X pins (σ.set i (some v)) H s'->(∃a,Heap.SameBut a s.heap s'.heap/\(a=X.env.locals∨X.env.cells.lookup x=some a))->Q () s') (hf:X.fn x=true∨X.env.scope.names.lookup x=some .local:=by first|exact .inl rfl|exact .inr rfl|assumption):wpAny M A (storeName X.env x u) Q E s:=by
 obtain⟨m,hn,hl⟩:=id I.loc;have a5:(X.env.scope.kind==.class||(X.env.scope.kind==.module&&X.env.locals != X.env.globals))=false:=by rw[I.ok.kind];rfl
 have a6:i<σ.length:=by rw[I.len];exact(AU.mp hi).1
 have cne:=I.cne;have U:∀{a:Addr} {h':Heap},(∃o,s.heap.get? a=some o/\H a=none)->Heap.SameBut a s.heap h'->HOk X.prog X.w H h':=λ{a h'} ha J b ob e=>by
  obtain⟨_,_,a0⟩:=ha;refine(I.hok b ob e).stay (λc w' hc q=>(J.2 c ?_).trans q) (λ_ q=>q) λ_ _ q=>q
  rintro rfl;rcases hc with rfl|hc
  ·rw[a0] at e;cases e
  ·rw[a0] at hc;cases hc
 rcases hx with hk|hk
 ·refine wpAny_storeName_local hk hn (λh' ae J=>?_) a5;obtain⟨oL,_,_,ab,_⟩:=id hn;refine h _ ⟨I.ok,I.os,I.bare,⟨λb o e n hb hx=>?_,λb o e n hb hx=>?_,I.base.free,λb o e hx=>?_,I.base.tups,I.base.frzs,I.base.tbls⟩,⟨_,ae,λj y v' e1 e2 e3=>?_⟩,λy c e=>?_,I.free,I.freeC,λp hp=>?_,U ⟨oL,ab,I.free⟩ J,by simpa using I.len⟩ ⟨_,J,.inl rfl⟩
  ·exact(J.2 b (AQ (AW (AC e) I.ok.above))).trans (I.base.keep b o e n hb hx)
  ·obtain⟨sl,e1⟩:=I.base.slot b o e n hb hx;exact⟨sl,(J.2 b (AQ (AW (AC e) I.ok.above))).trans e1⟩
  ·obtain⟨o',e1⟩:=I.base.there b o e hx;exact⟨o',(J.2 b (AQ (AW (AC e) I.ok.above))).trans e1⟩
  ·by_cases hj:j=i
   ·subst hj;rw[hi] at e1;cases e1;rw[List.getElem?_set_self a6] at e2;cases e2;exact⟨u,r,.inl ⟨hk,by simp⟩⟩
   ·rw[List.getElem?_set_ne (Ir hj)] at e2;obtain⟨u',r',q⟩:=hl j y v' e1 e2 e3;refine⟨u',r',?_⟩;rcases q with ⟨k,e⟩|⟨k,c,e,z⟩
    ·refine .inl ⟨k,?_⟩;have:y≠x:=λe=>hj (Ut hN e1 (e▸hi))
     simp[this,e]
    ·exact .inr ⟨k,c,e,z.sameBut J (cne y c e)⟩
  ·obtain⟨w',z⟩:=I.cell y c e;exact⟨w',z.sameBut J (cne y c e)⟩
  ·obtain⟨e,n,ne,nf,d⟩:=I.pin p hp;exact⟨(J.2 p.1 ne).trans e,n,ne,nf,d⟩
 ·have a4:X.fn x=true:=by
   rcases hf with z|z
   ·exact z
   ·rw[z] at hk;cases hk
  obtain⟨c,hc⟩:=I.ok.has x (.inl hk);obtain⟨w',z⟩:=I.cell x c hc;refine wpAny_storeName_cell I.ok.kind hk hc z (λh' a8 J=>?_);obtain⟨oc,a9,a7⟩:=id z;refine h { s with heap:=h' } ⟨I.ok,I.os,I.bare,⟨λb o e n hb hx=>?_,λb o e n hb hx=>?_,I.base.free,λb o e hx=>?_,I.base.tups,I.base.frzs,I.base.tbls⟩,⟨m,hn.sameBut J (Ir (cne x c hc)),λj y v' e1 e2 e3=>?_⟩,λy c' e=>?_,I.free,I.freeC,λp hp=>?_,U ⟨oc,a9,I.freeC x c hc⟩ J,by simpa using I.len⟩ ⟨c,J,.inr hc⟩
  ·exact(J.2 b (AQ (AW (AC e) (I.ok.cab x c a4 hc)))).trans (I.base.keep b o e n hb hx)
  ·obtain⟨sl,e1⟩:=I.base.slot b o e n hb hx;exact⟨sl,(J.2 b (AQ (AW (AC e) (I.ok.cab x c a4 hc)))).trans e1⟩
  ·obtain⟨o',e1⟩:=I.base.there b o e hx;exact⟨o',(J.2 b (AQ (AW (AC e) (I.ok.cab x c a4 hc)))).trans e1⟩
  ·by_cases hj:j=i
   ·subst hj;rw[hi] at e1;cases e1;rw[List.getElem?_set_self a6] at e2;cases e2;exact⟨u,r,.inr ⟨.inl hk,c,hc,a8⟩⟩
   ·rw[List.getElem?_set_ne (Ir hj)] at e2;obtain⟨u',r',q⟩:=hl j y v' e1 e2 e3;refine⟨u',r',?_⟩;rcases q with q|⟨k,c',e,z'⟩
    ·exact .inl q
    ·refine .inr ⟨k,c',e,z'.sameBut J ?_⟩;rintro rfl;exact hj (Ut hN e1 (I.ok.inj _ _ _ e hc▸hi))
  ·by_cases aa:c'=c
   ·subst aa;exact⟨_,a8⟩
   ·obtain⟨w2,z2⟩:=I.cell y c' e;exact⟨w2,z2.sameBut J aa⟩
  ·obtain ⟨e,n,ne,nf,d⟩:=I.pin p hp;refine ⟨(J.2 p.1 ?_).trans e,n,ne,nf,d⟩;intro q;rw [q,a9] at e;have q':oc=p.2:=AO e;exact d w' (by rw [<-q'];exact a7)
theorem X8 {v}{Q}(I:Inv X pins σ H s)(hN:X.N.Nodup)(hi:X.N[i]?=some x)(hx:mL X.env.scope x)(r:RelV v u)
  (h:∀s',Inv X pins (σ.set i (some v)) H s'->Q () s') (hf:X.fn x=true∨X.env.scope.names.lookup x=some .local:=by first|exact .inl rfl|exact .inr rfl|assumption):wpAny M A (storeName X.env x u) Q E s:=
 KR I hN hi hx r (λs' J _=>h s' J) hf
theorem Inv.call' {s'}(I:Inv X pins σ H s)(ho:s'.os=s.os)(u:Un (Nb X.stack) ch H H' s.heap s'.heap)(hok:HOk X.prog X.w H' s'.heap)(hg:AllBare s'.gens)
  (hch:∀b∈ch,(b∈X.ex∨X.s₀.heap.objs.size<=b)/\b≠X.env.locals/\(∀x c,X.env.cells.lookup x=some c->c≠b)/\∀p∈X.pn++pins,p.1≠b):Inv X pins σ H' s':=by
 obtain⟨h',g',d',t',o'⟩:=s';have e:o'=s.os:=ho;subst e;exact I.call (g':=g') (t':=t') (d':=d') u hok hg hch
end
abbrev XK:=Value->Option Addr->Hp->Prop
abbrev St:=List (Option V)
abbrev VK:=V->Hp->Prop
abbrev TE:=St->Hp->VK->Prop
abbrev TT:=St->Hp->(Bool->Hp->Prop)->Prop
abbrev TA:=St->Hp->(List V->Hp->Prop)->Prop
structure QY where
 nx:St->Hp->Prop
 rt:VK
 bk:St->Hp->Prop:=λ_ _=>False
 ct:St->Hp->Prop:=λ_ _=>False
abbrev TS:=QY->St->Hp->Prop
def EP (X:Cx)(pins:List (Addr×Obj))(σ:St)(Q:VK)(u:Value)(s':Shared):Prop:=∃v H',Inv X pins σ H' s'/\RelV v u/\Q v H'
def TP (X:Cx)(pins:List (Addr×Obj))(σ:St)(Q:Bool->Hp->Prop)(b:Bool)(s':Shared):Prop:=∃H',Inv X pins σ H' s'/\Q b H'
def AP (X:Cx)(pins:List (Addr×Obj))(σ:St)(Q:List V->Hp->Prop)(us:List Value)(s':Shared):Prop:=∃vs H',Inv X pins σ H' s'/\Vals vs us/\Q vs H'
def SP (X:Cx)(pins:List (Addr×Obj))(D:QY)(f:Flow)(s':Shared):Prop:=
 match f with
 | .next=>∃σ' H',Inv X pins σ' H' s'/\D.nx σ' H'
 | .brk=>∃σ' H',Inv X pins σ' H' s'/\D.bk σ' H'
 | .cont=>∃σ' H',Inv X pins σ' H' s'/\D.ct σ' H'
 | .ret u=>∃v σ' H',Inv X pins σ' H' s'/\RelV v u/\D.rt v H'
def PE (X:Cx)(e:Expr)(t:TE):Prop:=
 ∀(pins:List (Addr×Obj)) (s:Shared) (σ:St) (H:Hp) (Q:VK),Inv X pins σ H s->t σ H Q->wpAny (model X.prog X.w) X.A (eval e X.env) (EP X pins σ Q) X.xe s
def PT (X:Cx)(e:Expr)(t:TT):Prop:=
 ∀(pins:List (Addr×Obj)) (s:Shared) (σ:St) (H:Hp) (Q:Bool->Hp->Prop),Inv X pins σ H s->t σ H Q->wpAny (model X.prog X.w) X.A (isTrue e X.env (eval e X.env)) (TP X pins σ Q) X.xe s
def PW (X:Cx)(e:Expr)(t:TT):Prop:=
 ∀(whole:Sem Value) (pins:List (Addr×Obj)) (s:Shared) (σ:St) (H:Hp) (Q:Bool->Hp->Prop),Inv X pins σ H s->t σ H Q->wpAny (model X.prog X.w) X.A (isTrue e X.env whole) (TP X pins σ Q) X.xe s
theorem PW.pt {X}{e}{t}(h:PW X e t):PT X e t:=h _
def PA (X:Cx)(es:List Expr)(t:TA):Prop:=
 ∀(pos:Pos) (pins:List (Addr×Obj)) (s:Shared) (σ:St) (H:Hp) (Q:List V->Hp->Prop),Inv X pins σ H s->t σ H Q->wpAny (model X.prog X.w) X.A (spliced (backTo pos (starEach es X.env))) (AP X pins σ Q) X.xe s
def PS (X:Cx)(st:Stmt)(t:TS):Prop:=
 ∀(pins:List (Addr×Obj)) (s:Shared) (σ:St) (H:Hp) (D:QY),Inv X pins σ H s->t D σ H->wpAny (model X.prog X.w) X.A (exec st X.env) (SP X pins D) X.xe s
def PSs (X:Cx)(st:List Stmt)(t:TS):Prop:=
 ∀(pins:List (Addr×Obj)) (s:Shared) (σ:St) (H:Hp) (D:QY),Inv X pins σ H s->t D σ H->wpAny (model X.prog X.w) X.A (execs st X.env) (SP X pins D) X.xe s
theorem Kw (h:wpAny M A t Q E s)(hQ:∀a s,Q a s->Q' a s):wpAny M A t Q' E s:=A9 h hQ λ_ _ x=>x
section
variable {X:Cx}
theorem sj (ha:PE X a ta)(hb:PE X b tb){pins:List (Addr×Obj)}{s:Shared}{σ:St}{H:Hp}{R:V->V->Hp->Prop}(I:Inv X pins σ H s)(h:ta σ H λx H1=>tb σ H1 λy H2=>R x y H2)
  {α:Type} {Q:α->Shared->Prop} {f:Value->Value->Sem α}
  (hf:∀v u J x y H2,Inv X pins σ H2 J->RelV x v->RelV y u->R x y H2->wpAny (model X.prog X.w) X.A (f v u) Q X.xe J) :
  wpAny (model X.prog X.w) X.A (eval a X.env) (λv s₁=>wpAny (model X.prog X.w) X.A (eval b X.env) (λu s₂=>wpAny (model X.prog X.w) X.A (f v u) Q X.xe s₂) X.xe s₁) X.xe s:=by
 refine Kw (ha pins s σ H _ I h) λv s1 ⟨x,H1,I1,r1,q1⟩=>?_
 refine Kw (hb pins s1 σ H1 _ I1 q1) λu J ⟨y,H2,I2,r2,U⟩=>?_
 exact hf v u J x y H2 I2 r1 r2 U
def DD (i:Nat):TE:=λσ H Q=>∃v,σ[i]?=some (some v)/\Q v H
def tC (v:V):TE:=λ_ H Q=>Q v H
theorem Fm (hN:X.N[i]?=some x)(hv:oS X.env.scope x)(hd:(x==("__debug__":Str))=false:=by decide)(hcd:(x==("__classdict__":Str))=false:=by decide):PE X (.Name x pos) (DD i):=by
 intro pins s σ H Q I h;obtain⟨v,e,h⟩:=h;obtain⟨m,hn,U⟩:=I.loc;obtain⟨u,r,l⟩:=U i x v hN e hv;have fin:EP X pins σ Q u s:=⟨v,H,I,r,h⟩
 rcases l with ⟨J,hm⟩|⟨J,c,hc,hcell⟩
 ·exact wpAny_Name (wpAny_loadName_local I.ok.kind J hn hm fin) hd
 ·rcases J with J|J
  ·exact wpAny_Name (wpAny_loadName_cell I.ok.kind J hc hcell fin) hd
  ·exact wpAny_Name (wpAny_loadName_free I.ok.kind J hc hcell fin hcd) hd
theorem Qe {i j pos}:PE X (.Constant (.int i) j pos) (tC (.int i)):=λ_ _ _ H _ I h=>wpAny_Constant_int ⟨.int i,H,I.tok _,⟨_,rfl⟩,h⟩
theorem ZF {b j pos}:PE X (.Constant (.bool b) j pos) (tC (.bl b)):=λ_ _ _ H _ I h=>Constant_bool ⟨.bl b,H,I,rfl,h⟩
theorem JD {j pos}:PE X (.Constant .none j pos) (tC .non):=λ_ _ _ H _ I h=>Constant_none ⟨.non,H,I,rfl,h⟩
theorem Qi {x j pos}:PE X (.Constant (.str x) j pos) (tC (.str x)):=λ_ _ _ H _ I h=>Calls.Constant_str ⟨.str x,H,I.tok _,⟨_,rfl⟩,h⟩
def Gl (X:Cx)(x:Str):Prop:=X.env.kindOf x=some .globalImplicit
theorem X0 {σ}{H}{Q}(I:Inv X pins σ H s)(hg:Gl X x)(hm:X.mg x=some u)(h:Q u s)
  (hd:(x==("__debug__":Str))=false:=by decide):wpAny (model X.prog X.w) X.A (eval (.Name x pos) X.env) Q E s:=
 Calls.Name_function_global I.ok.kind hg (Calls.loadGlobal_global (by rw[I.ok.glob];exact I.mod.glob.keeps I.bk) hm h) hd
theorem WH {σ}{H}{Q}(I:Inv X pins σ H s)(hg:Gl X x)(hm:X.mg x=none)(hv:bootBuiltins x=some u)(h:Q u s)
  (hn:x≠"__name__":=by decide) (hd:(x==("__debug__":Str))=false:=by decide):wpAny (model X.prog X.w) X.A (eval (.Name x pos) X.env) Q E s:=by
 obtain⟨J,h1,h2⟩:=I.mod.blt;exact Calls.Name_function_global I.ok.kind hg (Calls.loadGlobal_builtin (by rw[I.ok.glob];exact I.mod.glob.keeps I.bk) hm (by rw[I.ok.blt];exact h1.keeps I.bk) ((h2 x hn).trans hv) h) hd
theorem Vs {v}(hg:Gl X x)(hm:X.mg x=some u)(r:RelV v u)(hd:(x==("__debug__":Str))=false:=by decide):PE X (.Name x pos) (tC v):=
 λ_ _ _ H _ I h=>X0 I hg hm ⟨v,H,I,r,h⟩ hd
theorem PU {v}(hg:Gl X x)(hm:X.mg x=none)(hv:bootBuiltins x=some u)(r:RelV v u)(hn:x≠"__name__":=by decide)(hd:(x==("__debug__":Str))=false:=by decide):PE X (.Name x pos) (tC v):=
 λ_ _ _ H _ I h=>WH I hg hm hv ⟨v,H,I,r,h⟩ hn hd
variable {a b:Expr} {ta tb:TE} {pos:Pos}
def PC (X:Cx)(op:CmpOp)(a b:Expr)(t:TE):Prop:=
 ∀(pins:List (Addr×Obj)) (s:Shared) (σ:St) (H:Hp) (Q:VK),Inv X pins σ H s->t σ H Q ->
  wpAny (model X.prog X.w) X.A (eval a X.env) (λv J=>wpAny (model X.prog X.w) X.A (eval b X.env) (λu U=>wpAny (model X.prog X.w) X.A (compareOp op v u) (EP X pins σ Q) X.xe U) X.xe J) X.xe s
theorem BG (b){op}(h:op≠.In)(h2:op≠.NotIn):behindInMarks op b=false:=by
 have e1:(op==CmpOp.In)=false:=by cases op<;>first|rfl|exact absurd rfl h
 have e2:(op==CmpOp.NotIn)=false:=by cases op<;>first|rfl|exact absurd rfl h2
 cases b<;>simp[behindInMarks,e1,e2]
def tB (t:TE):TT:=λσ H Q=>t σ H λx H1=>∃c,x=.bl c/\Q c H1
theorem Bl {t}(h:PC X op a b t)(h1:behindInMarks op b=false:=by first|exact BG _ (by decide) (by decide)|rfl):PT X (.Compare a [op] [b] pos) (tB t):=by
 intro pins s σ H Q I U;refine wpAny_isTrue_Compare1 (Kw (h pins s σ H _ I U) λv s1 h1=>Kw h1 λu s2 h2=>Kw h2 λc s3 ⟨x,H1,I1,r1,J⟩=>?_) h1;obtain⟨d,rfl,q⟩:=J;cases r1;exact ID ⟨H1,I1,q⟩
variable {tA tB':TT} {rest:List Expr}
def Ub (t u:TT):TT:=λσ H Q=>t σ H λc H1=>if c=true then u σ H1 Q else Q false H1
def qd (t u:TT):TT:=λσ H Q=>t σ H λc H1=>if c=true then Q true H1 else u σ H1 Q
def DG (t:TT):TT:=λσ H Q=>t σ H λc H1=>Q (!c) H1
theorem Zo (ha:PT X a tA):PW X (.BoolOp .And [a] pos) tA:=by
 intro J pins s σ H Q I h;refine isTrue_and (Kw (ha pins s σ H Q I h) λc U e=>?_);cases c with
 | true=>exact isTrue_and_nil e
 | false=>exact e
theorem Z9 (ha:PT X a tA):PW X (.BoolOp .Or [a] pos) tA:=by
 intro J pins s σ H Q I h;refine isTrue_or (Kw (ha pins s σ H Q I h) λc U e=>?_);cases c with
 | false=>exact isTrue_or_nil e
 | true=>exact e
theorem Zu (ha:PT X a tA)(hb:PW X (.BoolOp .And (b::rest) pos) tB'):PW X (.BoolOp .And (a::b::rest) pos) (Ub tA tB'):=by
 intro wh pins s σ H Q I h;refine isTrue_and (Kw (ha pins s σ H _ I h) λc s1 ⟨H1,J,U⟩=>?_);cases c with
 | true=>exact hb wh pins s1 σ H1 Q J U
 | false=>exact⟨H1,J,U⟩
theorem Xo (ha:PT X a tA)(hb:PW X (.BoolOp .Or (b::rest) pos) tB'):PW X (.BoolOp .Or (a::b::rest) pos) (qd tA tB'):=by
 intro wh pins s σ H Q I h;refine isTrue_or (Kw (ha pins s σ H _ I h) λc s1 ⟨H1,J,U⟩=>?_);cases c with
 | true=>exact⟨H1,J,U⟩
 | false=>exact hb wh pins s1 σ H1 Q J U
theorem Zc (ha:PT X a tA):PT X (.UnaryOp .Not a pos) (DG tA):=by
 intro pins s σ H Q I h;exact isTrue_not (ha pins s σ H (λc H1=>Q (!c) H1) I h)
theorem Yb {op}{t}(h:PE X a t):PE X (.BoolOp op [a] pos) t:=λpins s σ H Q I hw=>BoolOp_one (h pins s σ H Q I hw)
def qe (t:TT)(ta tb:TE):TE:=λσ H Q=>t σ H λc H1=>if c=true then ta σ H1 Q else tb σ H1 Q
theorem Yc {c}(hc:PT X c tA)(ha:PE X a ta)(hb:PE X b tb):PE X (.IfExp c a b pos) (qe tA ta tb):=by
 intro pins s σ H Q I h;refine wpAny_IfExp (Kw (hc pins s σ H _ I h) λd U ⟨H1,J,q1⟩=>?_);cases d with
 | true=>exact ha pins U σ H1 Q J q1
 | false=>exact hb pins U σ H1 Q J q1
end
def Kv (K:W.Frag)(H:Hp)(a:Addr)(xs:List V):Prop:=
 Rd H a (.lst xs) ∨
  ∃(o:Obj) (its:Array Value) (n:Nat),K.lookup a=some o/\o.cls=.type "list"/\o.dict=none/\o.data=.seq its n/\its.size<=sizeLine/\Vals xs its.toList
def Kt (K:W.Frag)(H:Hp)(a:Addr)(xs:List V):Prop:=
 Rd H a (.tup xs) ∨
  ∃(o:Obj) (its:Array Value) (n:Nat),K.lookup a=some o/\o.cls=.type "tuple"/\o.data=.seq its n/\its.size<=sizeLine/\Vals xs its.toList
def Ah:Value->Option V
 | .none=>some .non
 | .bool b=>some (.bl b)
 | .int i _=>some (.int i)
 | .str x _=>some (.str x)
 | .bytes b _=>some (.byt b)
 | .float b _=>some (.flt b)
 | .ref a=>some (.ref a)
 | .type n=>some (.ty n)
 | _=>none
theorem RelV.abs {x}(r:RelV x u):Ah u=some x:=by
 cases x with
 | non=>cases r;rfl
 | bl _=>cases r;rfl
 | int _=>obtain⟨t,rfl⟩:=r;rfl
 | str _=>obtain⟨t,rfl⟩:=r;rfl
 | byt _=>obtain⟨t,rfl⟩:=r;rfl
 | flt _=>obtain⟨t,rfl⟩:=r;rfl
 | ref _=>cases r;rfl
 | ty _=>cases r;rfl
theorem RelV.inj {x y}(r:RelV x u)(q:RelV y u):x=y:=AO (r.abs.symm.trans q.abs)
theorem Vals.inj:∀{xs ys}{us},Vals xs us->Vals ys us->xs=ys
 | _,_,_,.nil,.nil=>rfl
 | _,_,_,.cons r t,.cons r' t'=>by rw[r.inj r',Vals.inj t t']
section
variable {X:Cx} {pins:List (Addr×Obj)} {σ:St} {H:Hp} {s:Shared} {a:Addr} {xs ys:List V}
theorem G5 (h:H a=some (.lst xs)):Kv K H a xs:=.inl (.inl h)
theorem G6 (h:H a=some (.tup xs)):Kt K H a xs:=.inl (.inl h)
theorem Inv.list (I:Inv X pins σ H s)(h:Kv X.K H a xs):∃its,Vals xs its/\PlainL s.heap a its.toArray/\xs.length<=sizeLine:=by
 rcases h with h|⟨o,its,n,hk,hc,hd,hs,hz,r⟩
 ·obtain⟨z,its,n,r,e⟩:=h.ok I.hok;exact⟨its,r,⟨_,n,e,rfl,rfl,rfl⟩,z⟩
 ·refine⟨its.toList,r,⟨o,n,I.kIn a o hk,hc,hd,by simpa using hs⟩,?_⟩;have e:=r.length;simp only[Ge] at e;omega
theorem Inv.tuple (I:Inv X pins σ H s)(h:Kt X.K H a xs):∃its,Vals xs its/\IsTup s.heap a its.toArray/\xs.length<=sizeLine:=by
 rcases h with h|⟨o,its,n,hk,hc,hs,hz,r⟩
 ·obtain⟨z,its,r,p⟩:=h.ok I.hok;exact⟨its,r,p,z⟩
 ·refine⟨its.toList,r,⟨o,I.kIn a o hk,hc,n,by simpa using hs⟩,?_⟩;have e:=r.length;simp only[Ge] at e;omega
theorem Inv.list_inj (I:Inv X pins σ H s)(h:Kv X.K H a xs)(h':Kv X.K H a ys):xs=ys:=by
 obtain⟨its,r,⟨o,n,e,_,_,d⟩,_⟩:=I.list h;obtain⟨its',U,⟨o',n',J,_,_,d'⟩,_⟩:=I.list h';rw[e] at J;cases J;rw[d] at d';injection d' with d1 _
 have:its=its':=by simpa using congrArg Array.toList d1
 subst this;exact r.inj U
theorem Inv.tuple_inj (I:Inv X pins σ H s)(h:Kt X.K H a xs)(h':Kt X.K H a ys):xs=ys:=by
 obtain⟨its,r,⟨o,e,_,n,d⟩,_⟩:=I.tuple h;obtain⟨its',U,⟨o',J,_,n',d'⟩,_⟩:=I.tuple h';rw[e] at J;cases J;rw[d] at d';injection d' with d1 _
 have:its=its':=by simpa using congrArg Array.toList d1
 subst this;exact r.inj U
end
abbrev Cx.wish (X:Cx)(E:Value->Shared->Prop):Cx:={ X with xe:=E }
abbrev Cx.nox (X:Cx):Cx:=X.wish λ_ _=>False
theorem Cx.Ok.wish {X:Cx}(ok:X.Ok)(E):(X.wish E).Ok:=
 ⟨ok.mod,ok.kind,ok.glob,ok.blt,ok.above,ok.inj,ok.has,ok.cab,ok.hd,ok.frames,ok.stk,ok.exf,ok.bs,ok.bsz,ok.noex,ok.exfs,ok.funs,ok.frf⟩
theorem Cx.Ok.unwish {X:Cx}(ok:(X.wish E).Ok):X.Ok:=
 ⟨ok.mod,ok.kind,ok.glob,ok.blt,ok.above,ok.inj,ok.has,ok.cab,ok.hd,ok.frames,ok.stk,ok.exf,ok.bs,ok.bsz,ok.noex,ok.exfs,ok.funs,ok.frf⟩
section
variable {X:Cx} {pins:List (Addr×Obj)} {σ:St} {H:Hp} {s:Shared} {E:Value->Shared->Prop}
theorem Inv.wish (I:Inv X pins σ H s)(E):Inv (X.wish E) pins σ H s:=⟨I.ok.wish E,I.os,I.bare,I.base,I.loc,I.cell,I.free,I.freeC,I.pin,I.hok,I.len⟩
theorem Inv.unwish (I:Inv (X.wish E) pins σ H s):Inv X pins σ H s:=⟨I.ok.unwish,I.os,I.bare,I.base,I.loc,I.cell,I.free,I.freeC,I.pin,I.hok,I.len⟩
theorem SP.unwish {D}{f}{s'}(h:SP (X.wish E) pins D f s'):SP X pins D f s':=by
 cases f with
 | next=>obtain⟨J,H',I,q⟩:=h;exact⟨J,H',I.unwish,q⟩
 | brk=>obtain⟨J,H',I,q⟩:=h;exact⟨J,H',I.unwish,q⟩
 | cont=>obtain⟨J,H',I,q⟩:=h;exact⟨J,H',I.unwish,q⟩
 | ret u=>obtain⟨v,J,H',I,r,q⟩:=h;exact⟨v,J,H',I.unwish,r,q⟩
theorem PSs.nox {st}{t}(h:PSs X.nox st t):PSs X st t:=λpins s σ H D I hw=>
 A9 (h pins s σ H D (I.wish _) hw) (λ_ _ q=>q.unwish) λ_ _ z=>Gh z
end
section
variable {X:Cx} {st:Stmt} {rest:List Stmt} {t u:TS} {e:Expr} {te:TE} {pos:Pos}
def Sa:TS:=λD σ H=>D.nx σ H
def X5 (t u:TS):TS:=λD σ H=>t { D with nx:=u D } σ H
theorem Qh:PSs X [] Sa:=λ_ _ σ H _ I h=>IQ ⟨σ,H,I,h⟩
theorem Qa (h1:PS X st t)(h2:PSs X rest u):PSs X (st::rest) (X5 t u):=by
 intro pins s σ H D I h;refine wpAny_execs_cons (Kw (h1 pins s σ H { D with nx:=u D } I h) λf J q=>?_);cases f with
 | next=>
  obtain⟨U,H',I',q⟩:=q;exact h2 pins J U H' D I' q
 | ret v=>exact q
 | brk=>exact q
 | cont=>exact q
theorem Qc (h1:PS X st t):PSs X [st] t:=by
 intro pins s σ H D I h;refine wpAny_execs_cons (Kw (h1 pins s σ H D I h) λf J q=>?_);cases f with
 | next=>exact IQ q
 | ret v=>exact q
 | brk=>exact q
 | cont=>exact q
theorem Inv.quiet {σ}{H}(I:Inv X pins σ H s):interactive X.env=false:=by simp[interactive,I.ok.kind]
def LZ (te:TE):TS:=λD σ H=>te σ H λ_ H1=>D.nx σ H1
theorem Qw (he:PE X e te)(hs:swapsWith e none pos.line X.env=pure false:=by rfl):PS X (.Expr e pos) (LZ te):=by
 intro pins s σ H D I h;exact wpAny_Expr_any (Kw (he pins s σ H _ I h) λv s1 ⟨x,H1,J,r1,U⟩=>⟨σ,H1,J,U⟩) I.quiet hs
def RW (te:TE):TS:=λD σ H=>te σ H D.rt
theorem Qf (he:PE X e te):PS X (.Return (some e) pos) (RW te):=by
 intro pins s σ H D I h;exact wpAny_Return_some (Kw (he pins s σ H _ I h) λv s1 ⟨x,H1,J,U,q1⟩=>⟨x,σ,H1,J,U,q1⟩)
def Jv (c:TT)(t u:TS):TS:=λD σ H=>c σ H λb H1=>if b=true then t D σ H1 else u D σ H1
theorem Qn {c}{a b}{tc}(hc:PT X c tc)(ha:PSs X a t)(hb:PSs X b u):PS X (.If c a b pos) (Jv tc t u):=by
 intro pins s σ H D I h;refine wpAny_If (Kw (hc pins s σ H _ I h) λd U ⟨H1,J,q1⟩=>?_);cases d with
 | true=>exact ha pins U σ H1 D J q1
 | false=>exact hb pins U σ H1 D J q1
def LX:TS:=λ_ _ _=>False
theorem XI:PS X st LX:=λ_ _ _ _ _ _ h=>h.elim
end
abbrev TG:=V->St->Hp->(St->Hp->Prop)->Prop
abbrev nE:=List V->St->Hp->(St->Hp->Prop)->Prop
def PG (X:Cx)(target:Expr)(t:TG):Prop:=
 ∀(pins:List (Addr×Obj)) (s:Shared) (σ:St) (H:Hp) (v:V) (u:Value) (Q:St->Hp->Prop),Inv X pins σ H s->RelV v u->t v σ H Q ->
  wpAny (model X.prog X.w) X.A (assign target X.env u) (λ_ s'=>∃σ' H',Inv X pins σ' H' s'/\Q σ' H') X.xe s
def PGs (X:Cx)(ts:List Expr)(t:nE):Prop:=
 ∀(pins:List (Addr×Obj)) (s:Shared) (σ:St) (H:Hp) (vs:List V) (us:List Value) (Q:St->Hp->Prop),Inv X pins σ H s->Vals vs us->t vs σ H Q ->
  wpAny (model X.prog X.w) X.A (assignInOrder ((assignEach ts X.env).map (·.2)) us) (λ_ s'=>∃σ' H',Inv X pins σ' H' s'/\Q σ' H') X.xe s
section
variable {X:Cx} {pos:Pos}
def Xd (i:Nat):TG:=λv σ H Q=>Q (σ.set i (some v)) H
theorem Wb (hN:X.N.Nodup)(hi:X.N[i]?=some x)(hx:mL X.env.scope x)(hf:X.fn x=true∨X.env.scope.names.lookup x=some .local:=by first|exact .inl rfl|exact .inr rfl|assumption):PG X (.Name x pos) (Xd i):=by
 intro pins s σ H v u Q I r h;exact wpAny_assign_Name (X8 I hN hi hx r (λs' J=>⟨_,H,J,h⟩) hf)
def Aa:nE:=λvs σ H Q=>vs=[]/\Q σ H
def Cf (t:TG)(u:nE):nE:=λvs σ H Q=>∃v r,vs=v::r/\t v σ H λσ' H'=>u r σ' H' Q
theorem pgs_nil:PGs X [] Aa:=by
 intro pins s σ H vs us Q I r h;obtain⟨e,h⟩:=h;subst e;cases r;exact assignInOrder_nil ⟨σ,H,I,h⟩
theorem Bs {e}{t}{u}(h1:PG X e t)(h2:PGs X es u)
  (hs:(assignEach (e::es) X.env).map (·.2)=assign e X.env::(assignEach es X.env).map (·.2):=by rfl):PGs X (e::es) (Cf t u):=by
 intro pins s σ H vs us Q I r h;obtain⟨v,vr,e1,h⟩:=h;subst e1;cases r with
 | cons r U=>
  rw[hs];refine assignInOrder_cons (Kw (h1 pins s σ H _ _ _ I r h) λ_ J ⟨σ1,H1,I1,q1⟩=>?_);exact h2 pins J σ1 H1 _ _ Q I1 U q1
def F2 (K:W.Frag)(n:Nat)(t:nE):TG:=λv σ H Q=>∃a xs,v=.ref a/\Kt K H a xs/\xs.length=n/\t xs σ H Q
theorem Fk {k:Nat}{t}(hc:X.calm=true)(h:PGs X es t)
  (hn:(assignEach es X.env).length=n:=by rfl) (hst:(assignEach es X.env).findIdx? (·.1)=none:=by rfl):PG X (.Tuple es k pos) (F2 X.K n t):=by
 intro pins s σ H v u Q I r J;obtain⟨a,xs,e1,hq,hl,J⟩:=J;subst e1;cases r;obtain⟨its,U,ht,hz⟩:=I.tuple hq;refine assign_Tuple_tuple (I.ok.hd hc) ht (by simp[hn,<-hl,U.length]) hst λh' hx=>?_
 have I1:Inv X pins σ H { s with heap:=h' }:=I.kept (t':=s.toks) λb o e=>hx b o (AQ (AC e)) e
 exact h pins _ σ H xs _ Q I1 (by simpa using U) J
def Y5 (te:TE)(g:TG):TS:=λD σ H=>te σ H λx H1=>g x σ H1 D.nx
theorem YQ {e}{te}{g}(he:PE X e te)(hg:PG X tg g)(hs:swapsWithSole [tg] e pos.line X.env=pure false:=by rfl)(hw:swappedStores [tg] e X.env=pure none:=by rfl)
  (h1:(assignEach [tg] X.env).map (·.2)=[assign tg X.env]:=by rfl):PS X (.Assign [tg] e pos) (Y5 te g):=by
 intro pins s σ H D I h;refine wpAny_Assign_stores (Kw (he pins s σ H _ I h) λv J ⟨x,H1,I1,r1,U⟩=>?_) hs hw;rw[h1];exact Kw (hg pins J σ H1 x v _ I1 r1 U) λ_ s2 q=>q
theorem Fd {e}{te}{pos'}(hN:X.N.Nodup)(hi:X.N[i]?=some x)(hx:mL X.env.scope x)(he:PE X e te)(hs:swapsWith e (some (.Name x pos')) pos.line X.env=pure false:=by rfl)(hf:X.fn x=true∨X.env.scope.names.lookup x=some .local:=by first|exact .inl rfl|exact .inr rfl|assumption) :
  PS X (.Assign [.Name x pos'] e pos) (Y5 te (Xd i)):=by
 intro pins s σ H D I h;refine wpAny_Assign_Name (Kw (he pins s σ H _ I h) λv s1 ⟨y,H1,U,r1,J⟩=>?_) hs;exact X8 U hN hi hx r1 (λs2 I2=>⟨_,H1,I2,J⟩) hf
def DF (i j:Nat)(ta:TA):TS:=λD σ H=>ta σ H λvs H1=>∃v w,vs=[v,w]/\D.nx ((σ.set i (some v)).set j (some w)) H1
theorem Fe {y}{a b}{ta}{pt}{kt k2 pt2}(hc:X.calm=true)(hN:X.N.Nodup)(hi:X.N[i]?=some x)(hj:X.N[j]?=some y)(hij:i≠j)
  (hx:X.env.scope.names.lookup x=some .local) (hy:X.env.scope.names.lookup y=some .local) (ha:PA X [a,b] ta)
  (hw:swappedStores [.Tuple [.Name x px,.Name y py] kt pt] (.Tuple [a,b] k2 pt2) X.env=pure (some [x,y]))
  (hs:swapsWithSole [.Tuple [.Name x px,.Name y py] kt pt] (.Tuple [a,b] k2 pt2) pos.line X.env=pure false:=by rfl) :
  PS X (.Assign [.Tuple [.Name x px,.Name y py] kt pt] (.Tuple [a,b] k2 pt2) pos) (DF i j ta):=by
 intro pins s σ H D I h;rw[exec_Assign_arm];refine Aw (wpAny_standAt ?_);rw[hs];refine Aw (AM ?_);rw[Am (by decide)];refine Aw (Tuple_ (Kw (ha _ pins s σ H _ I h) λus J ⟨vs,H1,I1,r1,q1⟩=>?_));obtain⟨v,w,e1,q1⟩:=q1;subst e1;obtain⟨U,u2,rfl,rv,a0⟩:∃U u2,us=[U,u2]/\RelV v U/\RelV w u2:=by
  cases r1 with
  | cons p q=>
   cases q with
   | cons p' q'=>
    cases q';exact⟨_,_,rfl,p,p'⟩
 refine wpAny_newObj_type ?_ (by show 2<=sizeLine;decide);have I2:Inv X pins σ H1 { J with heap:=J.heap.push { cls:=.type "tuple",data:=.seq [U,u2].toArray } }:=I1.kept (t':=J.toks) λb o e=>AI _ e
 rw[hw];refine Aw (AM ?_);show wpAny (model X.prog X.w) X.A (do rule "assign.swapped-stores";let items <-unpackItems (.ref J.heap.objs.size) 2 none;assignInOrder [λv=>bindName X.env y v,λv=>bindName X.env x v] items.reverse;pure Flow.next) _ _ _;refine Aw (wpAny_rule (Aw (unpackItems_tuple (items:=#[U,u2]) (I.ok.hd hc) (IsTup.new J.heap _) λh' a4=>?_)));have I3:=I2.kept (h':=h') (t':=J.toks) λb o e=>a4 b o (AQ (AC e)) e
 show wpAny _ _ (assignInOrder [λv=>bindName X.env y v,λv=>bindName X.env x v] [u2,U] >>= λ_=>pure Flow.next) _ _ _;refine Aw (assignInOrder_cons (wpAny_bindName (X8 I3 hN hj (.inl hy) a0 (λs2 I4=>?_) (.inr hy))));refine assignInOrder_cons (wpAny_bindName (X8 I4 hN hi (.inl hx) rv (λs3 I5=>assignInOrder_nil (AM ?_)) (.inr hx)));rw[List.set_comm _ _ (Ir hij)] at I5;exact⟨_,H1,I5,q1⟩
end
section
variable {X:Cx} {pos:Pos}
def Hz (c:TT)(tb:TS):TS:=λD σ H=>∃W:Nat->St->Hp->Prop,(∃m,W m σ H)/\∀m σ H,W m σ H ->
 c σ H λb H1=>if b=true then ∃N:St->Hp->Prop,(∀σ' H',N σ' H'->∃m',m'<m/\W m' σ' H')/\tb { D with nx:=N,ct:=N,bk:=D.nx } σ H1 else D.nx σ H1
theorem JB {c}{tc}{tb}(hp:PassesOwn (model X.prog X.w) X.A X.env X.xe)(hc:PT X c tc)(hb:PSs X body tb):PS X (.While c body [] pos) (Hz tc tb):=by
 intro pins s σ H D I h;obtain⟨W,⟨m0,w0⟩,a0⟩:=h;refine wpAny_While (codeAny_whileLoop (λn s'=>∃σ' H',Inv X pins σ' H' s'/\W n σ' H') ?_ m0 ⟨σ,H,I,w0⟩);rintro n s1 ⟨σ1,H1,I1,w1⟩;refine IE hp (Kw (hc pins s1 σ1 H1 _ I1 (a0 n σ1 H1 w1)) λb s2 ⟨H2,I2,q2⟩=>?_);cases b with
 | true=>
  obtain⟨N,hN,q2⟩:=q2;rw[An rfl];refine IE hp (Kw (hb pins s2 σ1 H2 _ I2 q2) λf s3 q3=>?_);cases f with
  | next=>
   obtain⟨J,U,I3,n3⟩:=q3;obtain⟨m',hm,w3⟩:=hN J U n3;exact⟨m',hm,J,U,I3,w3⟩
  | cont=>
   obtain⟨J,U,I3,n3⟩:=q3;obtain⟨m',hm,w3⟩:=hN J U n3;exact⟨m',hm,J,U,I3,w3⟩
  | brk=>exact q3
  | ret v=>exact q3
 | false=>
  rw[Am A2];exact IQ ⟨σ1,H2,I2,q2⟩
end
structure It where
 go:Nat->Hp->Prop
 yld:Nat->Hp->V->Hp->Prop
 stop:Nat->Hp->Prop
def W4 (X:Cx)(pins:List (Addr×Obj))(H:Hp)(b:Addr):Prop:=
 H b=none/\b≠X.env.locals/\b∉X.fs/\(b∈X.ex∨X.s₀.heap.objs.size<=b)/\(∀x c,X.env.cells.lookup x=some c->c≠b)/\∀p∈X.pn++pins,p.1≠b
theorem Inv.fpOk {X}{σ}{H H'}{b}(I:Inv X pins σ H s)(hb:s.heap.objs.size<=b)(hn:H' b=none):W4 X pins H' b:=by
 refine⟨hn,qV (AW I.lt hb),I.nofs hb,.inr (A4 I.sz hb),λx c e z=>?_,λp hp z=>?_⟩
 ·obtain⟨v,q⟩:=I.cell x c e;exact absurd (AW q.lt (by rw[z];exact hb)) (Ij _)
 ·exact absurd (AW (AC (I.pin p hp).1) (by rw[z];exact hb)) (Ij _)
structure U6 (P:Program)(w:World)(K:W.Frag)(tg:Expr)(J:It)(fp:List Addr)(it:Addr)(tn:Nat->Heap->Prop):Prop where
 mem:it∈fp
 obj:∀i h,tn i h->∀b∈fp,∃o,h.get? b=some o/\∀v,o.data≠.cell v
 keep:∀i h h',tn i h->(∀b∈fp,∀o,h.get? b=some o->h'.get? b=some o)->tn i h'
 item:∀(X:Cx),X.prog=P->X.w=w->X.K=K->X.calm=true->∀(i:Nat) (pins:List (Addr×Obj)) (s:Shared) (σ:St) (H:Hp) (E:Value->Shared->Prop),Inv X pins σ H s->(∀b∈fp,W4 X pins H b)->tn i s.heap->J.go i H ->
  wpAny (model P w) X.A (pyNext (.ref it)) (λr s1=>∃u,r=some u /\
   wpAny (model P w) X.A (letOwnedTupleGo tg (.ref it) u) (λ_ s2=>∃x H',Inv X pins σ H' s2/\RelV x u/\J.yld i H x H'/\tn (i+1) s2.heap/\∀b∈fp,H' b=none) E s1) E s
 done:∀(X:Cx),X.prog=P->X.w=w->X.K=K->X.calm=true->∀(i:Nat) (pins:List (Addr×Obj)) (s:Shared) (σ:St) (H:Hp) (E:Value->Shared->Prop),Inv X pins σ H s->(∀b∈fp,W4 X pins H b)->tn i s.heap->J.stop i H ->
  wpAny (model P w) X.A (pyNext (.ref it)) (λr s1=>r=none/\Inv X pins σ H s1) E s
 self:∀(A:Around) (i:Nat) (s:Shared) (Q:Value->Shared->Prop) (E:Value->Shared->Prop),tn i s.heap->Q (.ref it) s->wpAny (model P w) A (pyIter (.ref it)) Q E s
abbrev TI:=St->Hp->(It->Hp->Prop)->Prop
def rB (X:Cx)(pins:List (Addr×Obj))(σ:St)(tg:Expr)(R:It->Hp->Prop)(itv:Value)(s2:Shared):Prop:=
 ∃(it:Addr) (fp:List Addr) (tn:Nat->Heap->Prop) (J:It) (H':Hp),itv=.ref it/\Inv X pins σ H' s2/\U6 X.prog X.w X.K tg J fp it tn/\tn 0 s2.heap/\(∀b∈fp,W4 X pins H' b)/\R J H'
def PI (X:Cx)(tg iter:Expr)(wi:TI):Prop:=
 ∀(pins:List (Addr×Obj)) (s:Shared) (σ:St) (H:Hp) (R:It->Hp->Prop),Inv X pins σ H s->wi σ H R ->
  wpAny (model X.prog X.w) X.A (eval iter X.env) (λv J=>wpAny (model X.prog X.w) X.A (pyIter v) (rB X pins σ tg R) X.xe J) X.xe s
theorem UK {o}{n}{vs}{Q}(ho:s.heap.get? it=some o)(hc:o.cls=.type n)(hd:o.data=.fields vs)
    (hn:["enumerate","zip","dict_itemiterator","dict_reverseitemiterator","odict_iterator","itertools.zip_longest","itertools.pairwise"].contains n=false) (hQ:Q () s):wpAny M A (letOwnedTupleGo tg (.ref it) u) Q E s:=by
  unfold letOwnedTupleGo;cases tg<;>first
    | exact AM hQ
    | (cases u<;>first
        | exact AM hQ
        | (refine Aw (wpAny_load ho ?_)
           rw[hc,hd];show wpAny M A (if(["enumerate","zip","dict_itemiterator","dict_reverseitemiterator","odict_iterator","itertools.zip_longest","itertools.pairwise"].contains n&&vs[0]? == some (rawInt _))=true then _ else _) Q E s;rw[Am (by intro h;rw[hn,Bool.false_and] at h;cases h)];exact AM hQ))
def nK (K:W.Frag)(a:Addr):It:=
 ⟨λi H=>∃xs x,Kv K H a xs/\xs[i]?=some x,λi H x H'=>H'=H/\∀xs,Kv K H a xs->xs[i]?=some x,λi H=>∃xs,Kv K H a xs/\xs.length<=i⟩
def oY (K:W.Frag)(a:Addr):It:=
 ⟨λi H=>∃xs x,Kt K H a xs/\xs[i]?=some x,λi H x H'=>H'=H/\∀xs,Kt K H a xs->xs[i]?=some x,λi H=>∃xs,Kt K H a xs/\xs.length<=i⟩
def nJ (lo:Int)(n:Nat):It:=⟨λi _=>i<n,λi H x H'=>H'=H/\x=.int (lo+i),λi _=>n<=i⟩
theorem Ms (a it):U6 P w K tg (nK K a) [it] it (λi h=>h.IsListIter it a i) where
 mem:=by simp
 obj:=λi h st b J=>by
  have e:b=it:=by simpa using J
  subst e;obtain⟨o,e,c,d⟩:=st;exact⟨o,e,λv z=>by rw[d] at z;cases z⟩
 keep:=λi h h' st k=>st.at λo e=>k it (by simp) o e
 item:=by
  intro X hP hw hK hc i pins s σ H E I hf st hg;subst hP hw hK;obtain⟨xs,x,hq,hx⟩:=hg;obtain⟨its,rv,p,hz⟩:=I.list hq;obtain⟨u,hu,ru⟩:=rv.get hx;obtain⟨f0,f1,f2,f3,f4,f5⟩:=hf it (by simp);refine wpAny_pyNext_list_item st p.isList (x:=u) (by simpa using hu) λh' U sb=>?_
  have I1:Inv X pins σ H { s with heap:=h' }:=I.turned (t':=s.toks) (λb o J e=>(sb.2 b J).trans e) f0 f1 f3 f4 f5;obtain⟨o,e,c,d⟩:=id U;exact⟨u,rfl,UK (s:={ s with heap:=h' }) e c d (by decide) ⟨x,H,I1,ru,⟨rfl,λys hy=>by rw[I.list_inj hy hq];exact hx⟩,U,λb J=>(hf b J).1⟩⟩
 done:=by
  intro X hP hw hK hc i pins s σ H E I hf st hg;subst hP hw hK;obtain⟨xs,hq,hx⟩:=hg;obtain⟨its,rv,p,hz⟩:=I.list hq;obtain⟨f0,f1,f2,f3,f4,f5⟩:=hf it (by simp);have hl:=rv.length;exact wpAny_pyNext_list_end (I.ok.hd hc) st p.isList (by simp;omega) λh' eb=>⟨rfl,I.turned (t':=s.toks) (λb o J e=>eb b o J e) f0 f1 f3 f4 f5⟩
 self:=λ_ _ _ _ _ st h=>wpAny_pyIter_listiter st h
theorem Gm (a it):U6 P w K tg (oY K a) [it] it (λi h=>h.IsTupleIter it a i) where
 mem:=by simp
 obj:=λi h st b J=>by
  have e:b=it:=by simpa using J
  subst e;obtain⟨o,e,c,d⟩:=st;exact⟨o,e,λv z=>by rw[d] at z;cases z⟩
 keep:=λi h h' st k=>st.at λo e=>k it (by simp) o e
 item:=by
  intro X hP hw hK hc i pins s σ H E I hf st hg;subst hP hw hK;obtain⟨xs,x,hq,hx⟩:=hg;obtain⟨its,rv,p,hz⟩:=I.tuple hq;obtain⟨u,hu,ru⟩:=rv.get hx;obtain⟨f0,f1,f2,f3,f4,f5⟩:=hf it (by simp);refine wpAny_pyNext_tuple_item st (show s.heap.IsTuple a its.toArray from p) (x:=u) (by simpa using hu) λh' U sb=>?_
  have I1:Inv X pins σ H { s with heap:=h' }:=I.turned (t':=s.toks) (λb o J e=>(sb.2 b J).trans e) f0 f1 f3 f4 f5;obtain⟨o,e,c,d⟩:=id U;exact⟨u,rfl,UK (s:={ s with heap:=h' }) e c d (by decide) ⟨x,H,I1,ru,⟨rfl,λys hy=>by rw[I.tuple_inj hy hq];exact hx⟩,U,λb J=>(hf b J).1⟩⟩
 done:=by
  intro X hP hw hK hc i pins s σ H E I hf st hg;subst hP hw hK;obtain⟨xs,hq,hx⟩:=hg;obtain⟨its,rv,p,hz⟩:=I.tuple hq;obtain⟨f0,f1,f2,f3,f4,f5⟩:=hf it (by simp);have hl:=rv.length;exact wpAny_pyNext_tuple_end (I.ok.hd hc) st (show s.heap.IsTuple a its.toArray from p) (by simp;omega) λh' eb=>⟨rfl,I.turned (t':=s.toks) (λb o J e=>eb b o J e) f0 f1 f3 f4 f5⟩
 self:=λ_ _ _ _ _ st h=>wpAny_pyIter_tupleiter st h
theorem Gn (it)(lo:Int)(n:Nat):U6 P w K tg (nJ lo n) [it] it (λi h=>IsRangeIter h it (lo+(i:Nat)*1) ((n:Int)-(i:Nat)) 1) where
 mem:=by simp
 obj:=λi h st b J=>by
  have e:b=it:=by simpa using J
  subst e;exact⟨_,st,λv z=>by
   have z':Data.fields _=Data.cell v:=z;cases z'⟩
 keep:=λi h h' st k=>k it (by simp) _ st
 item:=by
  intro X hP hw hK hc i pins s σ H E I hf st hg;subst hP hw hK;obtain⟨f0,f1,f2,f3,f4,f5⟩:=hf it (by simp);have W:=Walks.range (prog:=X.prog) (w:=X.w) (I.ok.hd hc) it lo 1 n;refine W.item i s _ _ hg st λv h' tk hv U kk=>?_
  obtain⟨t,rfl⟩:=hv;have I1:Inv X pins σ H { s with heap:=h',toks:=tk }:=I.turned (λb o J e=>kk b o (by simpa using J) e) f0 f1 f3 f4 f5;refine⟨_,rfl,UK (s:={ s with heap:=h',toks:=tk }) (n:="range_iterator") U rfl rfl (by decide) ⟨.int (lo+i),H,I1,⟨t,?_⟩,⟨rfl,rfl⟩,U,λb J=>(hf b J).1⟩⟩;rw[Int.mul_one]
 done:=by
  intro X hP hw hK hc i pins s σ H E I hf st hg;subst hP hw hK;obtain⟨f0,f1,f2,f3,f4,f5⟩:=hf it (by simp);exact wpAny_pyNext_range_end (I.ok.hd hc) st (by have:n<=i:=hg;omega) λh' eb=>⟨rfl,I.turned (t':=s.toks) (λb o J e=>eb b o J e) f0 f1 f3 f4 f5⟩
 self:=λ_ _ _ _ _ st h=>wpAny_pyIter_rangeiter st h
section
variable {X:Cx} {tg:Expr}
def NT (K:W.Frag)(tl:TE):TI:=λσ H R=>tl σ H λx H1=>∃a,x=.ref a/\(∃xs,Kv K H1 a xs)/\R (nK K a) H1
def Cc (K:W.Frag)(tl:TE):TI:=λσ H R=>tl σ H λx H1=>∃a,x=.ref a/\(∃xs,Kt K H1 a xs)/\R (oY K a) H1
theorem PB {l}{tl}(hl:PE X l tl):PI X tg l (NT X.K tl):=by
 intro pins s σ H R I h;refine Kw (hl pins s σ H _ I h) λv J ⟨x,H1,U,r1,q1⟩=>?_
 obtain⟨a,e,⟨xs,hq⟩,q⟩:=q1;subst e;cases r1;obtain⟨its,rv,p,hz⟩:=U.list hq;refine wpAny_pyIter_list p.isList ?_;refine⟨J.heap.objs.size,[J.heap.objs.size],_,_,H1,rfl,U.kept (t':=J.toks) λb o e=>AI _ e,Ms a _,⟨_,Ia _ rfl,rfl,rfl⟩,λb hb=>?_,q⟩;have e:b=J.heap.objs.size:=by simpa using hb
 subst e;exact U.fpOk (Au _) (U.hok.fresh (Au _))
theorem Fj {l}{tl}(hl:PE X l tl):PI X tg l (Cc X.K tl):=by
 intro pins s σ H R I h;refine Kw (hl pins s σ H _ I h) λv J ⟨x,H1,U,r1,q1⟩=>?_
 obtain⟨a,e,⟨xs,hq⟩,q⟩:=q1;subst e;cases r1;obtain⟨its,rv,p,hz⟩:=U.tuple hq;refine wpAny_pyIter_tuple (show J.heap.IsTuple a its.toArray from p) ?_;refine⟨J.heap.objs.size,[J.heap.objs.size],_,_,H1,rfl,U.kept (t':=J.toks) λb o e=>AI _ e,Gm a _,⟨_,Ia _ rfl,rfl,rfl⟩,λb hb=>?_,q⟩;have e:b=J.heap.objs.size:=by simpa using hb
 subst e;exact U.fpOk (Au _) (U.hok.fresh (Au _))
theorem Bf {σ}{H}{R}{hi:Int}{t u v}{tk:Nat}(I:Inv X pins σ H s)(h1:-(2 ^ 62)<=lo)(h2:lo<2 ^ 62)(h3:-(2 ^ 62)<=hi)(h4:hi<2 ^ 62)
  (q:R (nJ lo (hi-lo).toNat) H):wpAny (model X.prog X.w) X.A (pyIter (.ref s.heap.objs.size)) (rB X pins σ tg R) E { s with heap:=s.heap.push { cls:=.type "range",data:=.fields #[.int lo t,.int hi u,.int 1 v] },toks:=tk }:=by
 refine wpAny_pyIter_range (IsRange.new ..) (small_one h1 h2 h3 h4) ?_;have J:Inv X pins σ H { s with heap:=s.heap.push { cls:=.type "range",data:=.fields #[.int lo t,.int hi u,.int 1 v] },toks:=tk }:=I.kept λb o e=>AI _ e
 refine⟨(s.heap.push { cls:=.type "range",data:=.fields #[.int lo t,.int hi u,.int 1 v] }).objs.size,[(s.heap.push { cls:=.type "range",data:=.fields #[.int lo t,.int hi u,.int 1 v] }).objs.size],_,_,H,rfl,
  J.kept (t':=tk) λb o e=>AI _ e,Gn _ lo (hi-lo).toNat,?_,λb U=>?_,q⟩
 ·have e1:lo+((0:Nat):Int)*1=lo:=by simp
  have e2:(((hi-lo).toNat:Nat):Int)-((0:Nat):Int)=Builtin.Range.rangeSize lo hi 1:=by rw[rangeSize_one];split<;>omega
  show IsRangeIter _ _ (lo+((0:Nat):Int)*1) ((((hi-lo).toNat:Nat):Int)-((0:Nat):Int)) 1;rw[e1,e2];exact Ia _ rfl
 ·have e:b=(s.heap.push { cls:=.type "range",data:=.fields #[.int lo t,.int hi u,.int 1 v] }).objs.size:=by simpa using U
  subst e;exact J.fpOk (Au _) (J.hok.fresh (Au _))
def Sr (ta:TA):TI:=λσ H R=>ta σ H λvs H1=>∃j:Int,vs=[.int j]/\-(2 ^ 62)<=j/\j<2 ^ 62/\R (nJ 0 j.toNat) H1
theorem XJ {a}{ta}{p}(hg:Gl X "range")(hm:X.mg "range"=none)(ha:PA X [a] ta)(hs:starEach [a] X.env=[(false,eval a X.env)]:=by rfl):PI X tg (.Call (.Name "range" p) [a] [] pos) (Sr ta):=by
 intro pins s σ H R I h;refine Call_ (WH I hg hm boot_range (pH (Kw (ha pos pins s σ H _ I h) λus s1 ⟨vs,H1,I1,r1,J⟩=>?_) hs rfl));obtain⟨j,e,J,U,q⟩:=J;subst e;cases r1 with
 | cons r rr=>
  cases rr;obtain⟨t,rfl⟩:=r;exact call_range_1 (Bf I1 (by omega) (by omega) J U (by simpa using q))
def RY (wi:TI)(g:TG)(tb:TS):TS:=λD σ H=>wi σ H λJ H1=>∃W:Nat->Nat->St->Hp->Prop,(∃m,W 0 m σ H1)/\∀i m σ H,W i m σ H ->
 (J.stop i H/\D.nx σ H)∨(J.go i H/\∃N:St->Hp->Prop,(∀σ' H',N σ' H'->∃m',m'<m/\W (i+1) m' σ' H')/\∀x H',J.yld i H x H'->g x σ H' λU H2=>tb { D with nx:=N,ct:=N,bk:=D.nx } U H2)
def WC (fp:List Addr)(h:Heap):List (Addr×Obj):=fp.filterMap λb=>(h.get? b).map λo=>(b,o)
theorem YS {h}{b}{o}(hb:b∈fp)(e:h.get? b=some o):(b,o)∈WC fp h:=List.mem_filterMap.mpr ⟨b,hb,by rw[e];rfl⟩
theorem MI {h}{p}(hp:p∈WC fp h):p.1∈fp/\h.get? p.1=some p.2:=by
 obtain⟨b,U,e⟩:=List.mem_filterMap.mp hp;cases q:h.get? b with
 | none=>rw[q] at e;cases e
 | some o=>
  rw[q] at e;have J:(b,o)=p:=AO e;subst J;exact⟨U,q⟩
theorem Inv.pinned {σ}{H}(I:Inv X pins σ H s)(hf:∀b∈fp,W4 X pins H b)(ho:∀b∈fp,∃o,s.heap.get? b=some o/\∀v,o.data≠.cell v):Inv X (pins++WC fp s.heap) σ H s:=
 I.pins_of λp hp=>(AK.mp hp).elim (λz=>I.pin p (Ic _ z)) λz=>by
  obtain⟨U,e⟩:=MI z;obtain⟨f0,f1,f2,_⟩:=hf p.1 U;obtain⟨o,J,d⟩:=ho p.1 U;rw[e] at J;cases J;exact⟨e,f0,f1,f2,d⟩
theorem Inv.unpinned {pl}{σ}{H}(I:Inv X (pins++pl) σ H s):Inv X pins σ H s:=I.pins_of λp hp=>I.pin p (Ic _ (Im _ hp))
theorem Ff {wi}{g}{tb}(hp:PassesOwn (model X.prog X.w) X.A X.env X.xe)(hc:X.calm=true)(hi:PI X tg iter wi)(hg:PG X tg g)(hb:PSs X body tb)
  (hs:∀x,foldedSetIterable iter X.env x=pure x:=by intro _;rfl):PS X (.For tg iter body [] pos) (RY wi g tb):=by
 intro pins s σ H D I h;refine wpAny_For (Kw (hi pins s σ H _ I h) λv s1 h1=>Kw h1 λab s2 h2=>?_) hs;obtain⟨it,fp,tn,J,H2,e,I2,T,a9,f2,W,⟨m0,w0⟩,a6⟩:=h2;subst e;have a0:∀{H':Hp},(∀b∈fp,H' b=none)->∀b∈fp,W4 X pins H' b:=λhn b hb=>⟨hn b hb,(f2 b hb).2⟩
 refine codeAny_forLoop_any (λn s'=>∃i σ' H',Inv X pins σ' H' s'/\tn i s'.heap/\(∀b∈fp,H' b=none)/\W i n σ' H') ?_ m0 ⟨0,σ,H2,I2,a9,λb hb=>(f2 b hb).1,w0⟩;rintro n s3 ⟨i,σ3,H3,I3,st3,fr3,w3⟩;rcases a6 i n σ3 H3 w3 with ⟨a7,qn⟩|⟨go,N,hN,step⟩
 ·refine IE hp (Kw (T.done X rfl rfl rfl hc i pins s3 σ3 H3 X.xe I3 (a0 fr3) st3 a7) λr s4 ⟨hr,I4⟩=>?_);subst hr;exact IQ ⟨σ3,H3,I4,qn⟩
 ·refine IE hp (Kw (T.item X rfl rfl rfl hc i pins s3 σ3 H3 X.xe I3 (a0 fr3) st3 go) λr s4 ⟨u,hr,h4⟩=>?_);subst hr;refine IE hp (Kw h4 λ_ s5 ⟨x,H5,I5,r5,y5,a5,a8⟩=>?_);have aa:=I5.pinned (a0 a8) (T.obj _ _ a5);refine IE hp (Kw (hg _ s5 σ3 H5 x u _ aa r5 (step x H5 y5)) λ_ s6 ⟨σ6,H6,I6,q6⟩=>?_);refine IE hp (Kw (hb _ s6 σ6 H6 _ I6 q6) λf s7 q7=>?_);have a4:∀{σ7:St} {U:Hp},Inv X (pins++WC fp s5.heap) σ7 U s7->N σ7 U->∃m,m<n/\∃i σ' H',Inv X pins σ' H' s7/\tn i s7.heap/\(∀b∈fp,H' b=none)/\W i m σ' H':=λ{σ7 U} I7 n7=>by
   obtain⟨m',hm,w7⟩:=hN σ7 U n7;refine⟨m',hm,i+1,σ7,U,I7.unpinned,T.keep _ _ _ a5 λb hb o e=>(I7.pin (b,o) (Ic _ (Ic _ (YS hb e)))).1,λb hb=>?_,w7⟩;obtain⟨o,e,d⟩:=T.obj _ _ a5 b hb;exact(I7.pin (b,o) (Ic _ (Ic _ (YS hb e)))).2.1
  cases f with
  | next=>obtain⟨σ7,U,I7,n7⟩:=q7;exact a4 I7 n7
  | cont=>obtain⟨σ7,U,I7,n7⟩:=q7;exact a4 I7 n7
  | brk=>obtain⟨σ7,U,I7,q7⟩:=q7;exact⟨σ7,U,I7.unpinned,q7⟩
  | ret v=>obtain⟨x7,σ7,U,I7,r7,q7⟩:=q7;exact⟨x7,σ7,U,I7.unpinned,r7,q7⟩
end
theorem Z6 {g:TG}{tb:TS}{D:QY}{σ:St}{H:Hp}(Pv:Nat->St->Hp->Prop)(h0:Pv 0 σ H)(hl:∀i σ H,i<=xs.length->Pv i σ H->Kv K H a xs)
  (hs:∀i x σ H,xs[i]?=some x->Pv i σ H->g x σ H λU H2=>tb { D with nx:=Pv (i+1),ct:=Pv (i+1),bk:=D.nx } U H2) (hd:∀σ H,Pv xs.length σ H->D.nx σ H) :
  ∃W:Nat->Nat->St->Hp->Prop,(∃m,W 0 m σ H)/\∀i m σ H,W i m σ H ->
   ((nK K a).stop i H/\D.nx σ H)∨((nK K a).go i H/\∃N:St->Hp->Prop,(∀σ' H',N σ' H'->∃m',m'<m/\W (i+1) m' σ' H')/\∀x H',(nK K a).yld i H x H'->g x σ H' λU H2=>tb { D with nx:=N,ct:=N,bk:=D.nx } U H2):=by
 refine⟨λi m σ H=>m=xs.length-i/\i<=xs.length/\Pv i σ H,⟨xs.length,by simp,AZ _,h0⟩,?_⟩;rintro i m σ H ⟨rfl,hi,p⟩;have q:=hl i σ H hi p;by_cases J:i<xs.length
 ·refine .inr ⟨⟨xs,xs[i],q,by simp[J]⟩,Pv (i+1),λσ' H' p'=>⟨xs.length-(i+1),by omega,rfl,J,p'⟩,λx H' y=>?_⟩;obtain⟨e,y⟩:=y;subst e;exact hs i x σ _ (y xs q) p
 ·have e:i=xs.length:=by omega
  subst e;exact .inl ⟨⟨xs,q,Au _⟩,hd σ H p⟩
theorem To {g:TG}{tb:TS}{D:QY}{σ:St}{H:Hp}(Pv:Nat->St->Hp->Prop)(h0:Pv 0 σ H)(hl:∀i σ H,i<=xs.length->Pv i σ H->Kt K H a xs)
  (hs:∀i x σ H,xs[i]?=some x->Pv i σ H->g x σ H λU H2=>tb { D with nx:=Pv (i+1),ct:=Pv (i+1),bk:=D.nx } U H2) (hd:∀σ H,Pv xs.length σ H->D.nx σ H) :
  ∃W:Nat->Nat->St->Hp->Prop,(∃m,W 0 m σ H)/\∀i m σ H,W i m σ H ->
   ((oY K a).stop i H/\D.nx σ H)∨((oY K a).go i H/\∃N:St->Hp->Prop,(∀σ' H',N σ' H'->∃m',m'<m/\W (i+1) m' σ' H')/\∀x H',(oY K a).yld i H x H'->g x σ H' λU H2=>tb { D with nx:=N,ct:=N,bk:=D.nx } U H2):=by
 refine⟨λi m σ H=>m=xs.length-i/\i<=xs.length/\Pv i σ H,⟨xs.length,by simp,AZ _,h0⟩,?_⟩;rintro i m σ H ⟨rfl,hi,p⟩;have q:=hl i σ H hi p;by_cases J:i<xs.length
 ·refine .inr ⟨⟨xs,xs[i],q,by simp[J]⟩,Pv (i+1),λσ' H' p'=>⟨xs.length-(i+1),by omega,rfl,J,p'⟩,λx H' y=>?_⟩;obtain⟨e,y⟩:=y;subst e;exact hs i x σ _ (y xs q) p
 ·have e:i=xs.length:=by omega
  subst e;exact .inl ⟨⟨xs,q,Au _⟩,hd σ H p⟩
theorem MT {g:TG}{tb:TS}{D:QY}{σ:St}{H:Hp}(Pv:Nat->St->Hp->Prop)(h0:Pv 0 σ H)
  (hs:∀i σ H,i<n->Pv i σ H->g (.int (lo+i)) σ H λU H2=>tb { D with nx:=Pv (i+1),ct:=Pv (i+1),bk:=D.nx } U H2) (hd:∀σ H,Pv n σ H->D.nx σ H) :
  ∃W:Nat->Nat->St->Hp->Prop,(∃m,W 0 m σ H)/\∀i m σ H,W i m σ H ->
   ((nJ lo n).stop i H/\D.nx σ H)∨((nJ lo n).go i H/\∃N:St->Hp->Prop,(∀σ' H',N σ' H'->∃m',m'<m/\W (i+1) m' σ' H')/\∀x H',(nJ lo n).yld i H x H'->g x σ H' λU H2=>tb { D with nx:=N,ct:=N,bk:=D.nx } U H2):=by
 refine⟨λi m σ H=>m=n-i/\i<=n/\Pv i σ H,⟨n,by simp,AZ _,h0⟩,?_⟩;rintro i m σ H ⟨rfl,hi,p⟩;by_cases J:i<n
 ·refine .inr ⟨J,Pv (i+1),λσ' H' p'=>⟨n-(i+1),by omega,rfl,J,p'⟩,λx H' y=>?_⟩;obtain⟨e,y⟩:=y;subst e y;exact hs i σ _ J p
 ·have e:i=n:=by omega
  subst e;exact .inl ⟨Au _,hd σ H p⟩
abbrev R2:=V->V->Hp->VK->Prop
def OpR (X:Cx)(f:Value->Value->Sem Value)(r:R2):Prop:=
 ∀(pins:List (Addr×Obj)) (s:Shared) (σ:St) (H:Hp) (x y:V) (v u:Value) (Q:VK),Inv X pins σ H s->RelV x v->RelV y u->r x y H Q ->
  wpAny (model X.prog X.w) X.A (f v u) (EP X pins σ Q) X.xe s
def UnR (X:Cx)(f:Value->Sem Value)(r:V->Hp->VK->Prop):Prop:=
 ∀(pins:List (Addr×Obj)) (s:Shared) (σ:St) (H:Hp) (x:V) (v:Value) (Q:VK),Inv X pins σ H s->RelV x v->r x H Q ->
  wpAny (model X.prog X.w) X.A (f v) (EP X pins σ Q) X.xe s
def CallR (X:Cx)(f:Value)(r:List V->Hp->VK->Prop):Prop:=
 ∀(pins:List (Addr×Obj)) (s:Shared) (σ:St) (H:Hp) (xs:List V) (us:List Value) (Q:VK),Inv X pins σ H s->Vals xs us->r xs H Q ->
  wpAny (model X.prog X.w) X.A (call f us) (EP X pins σ Q) X.xe s
def Ai (X:Cx)(r:V->Hp->(Bool->Hp->Prop)->Prop):Prop:=
 ∀(pins:List (Addr×Obj)) (s:Shared) (σ:St) (H:Hp) (x:V) (v:Value) (Q:Bool->Hp->Prop),Inv X pins σ H s->RelV x v->r x H Q ->
  wpAny (model X.prog X.w) X.A (truthy v) (TP X pins σ Q) X.xe s
def OK (r:R2)(ta tb:TE):TE:=λσ H Q=>ta σ H λx H1=>tb σ H1 λy H2=>r x y H2 Q
def pT (r:V->Hp->VK->Prop)(ta:TE):TE:=λσ H Q=>ta σ H λx H1=>r x H1 Q
def rI (C:Int->Int->Prop)(g:Int->Int->V):R2:=λx y H Q=>∃i j,x=.int i/\y=.int j/\C i j/\Q (g i j) H
def lZ (g:Int->Int->V):R2:=λx y H Q=>∃i j,x=.int i/\y=.int j/\Q (g i j) H
def rU (g:Int->V):V->Hp->VK->Prop:=λx H Q=>∃i,x=.int i/\Q (g i) H
section
variable {X:Cx} {a b c:Expr} {ta tb tc:TE} {pos:Pos}
theorem Ef (ha:PE X a ta)(hb:PE X b tb){s:Shared}{σ:St}{H:Hp}{R:V->V->Hp->Prop}(I:Inv X pins σ H s)
  (h:ta σ H λx H1=>tb σ H1 λy H2=>R x y H2) {Q:Value->Shared->Prop} {f:Value->Value->Sem Value}
  (hf:∀v u J x y H2,Inv X pins σ H2 J->RelV x v->RelV y u->R x y H2->wpAny (model X.prog X.w) X.A (f v u) Q X.xe J) :
  wpAny (model X.prog X.w) X.A (eval a X.env) (λv s₁=>wpAny (model X.prog X.w) X.A (eval b X.env) (λu s₂=>wpAny (model X.prog X.w) X.A (f v u) Q X.xe s₂) X.xe s₁) X.xe s:=by
 refine Kw (ha pins s σ H _ I h) λv s1 ⟨x,H1,I1,r1,q1⟩=>?_
 refine Kw (hb pins s1 σ H1 _ I1 q1) λu J ⟨y,H2,I2,r2,U⟩=>?_
 exact hf v u J x y H2 I2 r1 r2 U
theorem Qg {op}{r}(ho:OpR X (binaryOp op) r)(ha:PE X a ta)(hb:PE X b tb):PE X (.BinOp a op b pos) (OK r ta tb):=by
 intro pins s σ H Q I h;exact wpAny_BinOp (Ef ha hb I h λv u U x y H2 I2 rx J q=>ho pins U σ H2 x y v u Q I2 rx J q)
theorem JC {op}{r}(ho:UnR X (unaryOp op) r)(ha:PE X a ta):PE X (.UnaryOp op a pos) (pT r ta):=by
 intro pins s σ H Q I h;exact UnaryOp_ (Kw (ha pins s σ H _ I h) λv s1 ⟨x,H1,J,U,q1⟩=>ho pins s1 σ H1 x v Q J U q1)
theorem oN {C:Int->Int->Prop}{g:Int->Int->Int} 
  (rule:∀(i j:Int) (t u:Tok) (s:Shared) (Q:Value->Shared->Prop) (E:Value->Shared->Prop),C i j->Q (.int (g i j) s.toks) { s with toks:=s.toks+1 }->wpAny (model X.prog X.w) X.A (f (.int i t) (.int j u)) Q E s) :
  OpR X f (rI C λi j=>.int (g i j)):=by
 intro pins s σ H x y v u Q I U J h;obtain⟨i,j,rfl,rfl,hc,q⟩:=h;obtain⟨t,rfl⟩:=U;obtain⟨t',rfl⟩:=J;exact rule i j t t' s _ _ hc ⟨.int (g i j),H,I.tok _,⟨_,rfl⟩,q⟩
theorem D6 {g:Int->Int->Int} 
  (rule:∀(i j:Int) (t u:Tok) (s:Shared) (Q:Value->Shared->Prop) (E:Value->Shared->Prop),Q (.int (g i j) s.toks) { s with toks:=s.toks+1 }->wpAny (model X.prog X.w) X.A (f (.int i t) (.int j u)) Q E s) :
  OpR X f (lZ λi j=>.int (g i j)):=by
 intro pins s σ H x y v u Q I U J h;obtain⟨i,j,rfl,rfl,q⟩:=h;obtain⟨t,rfl⟩:=U;obtain⟨t',rfl⟩:=J;exact rule i j t t' s _ _ ⟨.int (g i j),H,I.tok _,⟨_,rfl⟩,q⟩
theorem P1 {g:Int->Int->Bool} 
  (rule:∀(i j:Int) (t u:Tok) (s:Shared) (Q:Value->Shared->Prop) (E:Value->Shared->Prop),Q (.bool (g i j)) s->wpAny (model X.prog X.w) X.A (f (.int i t) (.int j u)) Q E s) :
  OpR X f (lZ λi j=>.bl (g i j)):=by
 intro pins s σ H x y v u Q I U J h;obtain⟨i,j,rfl,rfl,q⟩:=h;obtain⟨t,rfl⟩:=U;obtain⟨t',rfl⟩:=J;exact rule i j t t' s _ _ ⟨.bl (g i j),H,I,rfl,q⟩
def Kz (i j:Int):Prop:=0<=j/\j<=1000000/\i.natAbs<2 ^ 64
theorem op_add:OpR X (binaryOp .Add) (lZ λi j=>.int (i+j)):=D6 λ_ _ _ _ _ _ _ q=>add_int q
theorem op_sub:OpR X (binaryOp .Sub) (lZ λi j=>.int (i-j)):=D6 λ_ _ _ _ _ _ _ q=>sub_int q
theorem op_mod:OpR X (binaryOp .Mod) (rI (λ_ j=>0<j) λi j=>.int (i % j)):=oN λi j _ _ _ _ _ J q=>by
 have h1:(0:Int)<j:=J;exact mod_int' (by omega) (by rw[Int.fmod_eq_emod_of_nonneg i (by omega)];exact q)
theorem op_pow:OpR X (binaryOp .Pow) (rI Kz λi j=>.int (i ^ j.toNat)):=oN λ_ _ _ _ _ _ _ hc q=>pow_int_small hc.1 hc.2.1 hc.2.2 q
theorem rJ {g:Int->Int} 
  (rule:∀(i:Int) (t:Tok) (s:Shared) (Q:Value->Shared->Prop) (E:Value->Shared->Prop),Q (.int (g i) s.toks) { s with toks:=s.toks+1 }->wpAny (model X.prog X.w) X.A (f (.int i t)) Q E s) :
  UnR X f (rU λi=>.int (g i)):=by
 intro pins s σ H x v Q I J h;obtain⟨i,rfl,q⟩:=h;obtain⟨t,rfl⟩:=J;exact rule i t s _ _ ⟨.int (g i),H,I.tok _,⟨_,rfl⟩,q⟩
theorem un_neg:UnR X (unaryOp .USub) (rU λi=>.int (-i)):=rJ λ_ _ _ _ _ q=>neg_int q
end
def DL:V->V->Bool
 | .non,.non=>true|.non,.int _=>true|.int _,.non=>true|.non,.bl _=>true|.bl _,.non=>true|.non,.str _=>true|.str _,.non=>true
 | .int _,.int _=>true|.bl _,.bl _=>true|.str _,.str _=>true|.byt _,.byt _=>true
 | .int _,.str _=>true|.str _,.int _=>true|.bl _,.str _=>true|.str _,.bl _=>true
 | _,_=>false
def mw:R2:=λx y H Q=>DL x y=true/\Q (.bl (decide (x=y))) H
def mq:R2:=λx y H Q=>DL x y=true/\Q (.bl (!decide (x=y))) H
theorem Jo {i j:Int}:decide (V.int i=V.int j)=(i==j):=by
 rw[Iy];simp
theorem Rh {i j}:decide (V.bl i=V.bl j)=(i==j):=by
 rw[Iy];simp
theorem Ma {i j}:decide (V.str i=V.str j)=(i==j):=by
 rw[Iy];simp
theorem Mb {i j}:decide (V.byt i=V.byt j)=(i.toList==j.toList):=by
 rw[Iy];cases i;cases j;simp
section
variable {X:Cx} {a b c:Expr} {ta tb tc:TE} {pos:Pos}
theorem QG {σ}{H}{Q}{k k'}(I:Inv X pins σ H s)(q:Q (.bl k) H)(e:k=k'):EP X pins σ Q (.bool k') s:=by
 subst e;exact⟨.bl k,H,I,rfl,q⟩
theorem op_eq:OpR X (compareOp .Eq) mw:=by
 intro pins s σ H x y v u Q I rx J h;obtain⟨U,q⟩:=h;cases x with
 | non=>
  cases rx;cases y with
  | non=>cases J;exact EqNone.eq_none_none (QG I q (by simp))
  | bl j=>cases J;exact EqNone.eq_none_bool (QG I q (by simp))
  | int j=>obtain⟨t',rfl⟩:=J;exact EqNone.eq_none_int (QG I q (by simp))
  | str j=>obtain⟨t',rfl⟩:=J;exact EqNone.eq_none_str (QG I q (by simp))
  | _=>exact absurd (show false=true from U) A2
 | bl i=>
  cases rx;cases y with
  | non=>cases J;exact EqNone.eq_bool_none (QG I q (by simp))
  | bl j=>cases J;exact eq_bool (QG I q Rh)
  | str j=>obtain⟨t',rfl⟩:=J;exact EqMixed.eq_bool_str (QG I q (by simp))
  | _=>exact absurd (show false=true from U) A2
 | int i=>
  obtain⟨t,rfl⟩:=rx;cases y with
  | non=>cases J;exact EqNone.eq_int_none (QG I q (by simp))
  | int j=>obtain⟨t',rfl⟩:=J;exact eq_int (QG I q Jo)
  | str j=>obtain⟨t',rfl⟩:=J;exact EqMixed.eq_int_str (QG I q (by simp))
  | _=>exact absurd (show false=true from U) A2
 | str i=>
  obtain⟨t,rfl⟩:=rx;cases y with
  | non=>cases J;exact EqNone.eq_str_none (QG I q (by simp))
  | bl j=>cases J;exact EqMixed.eq_str_bool (QG I q (by simp))
  | int j=>obtain⟨t',rfl⟩:=J;exact EqMixed.eq_str_int (QG I q (by simp))
  | str j=>obtain⟨t',rfl⟩:=J;exact eq_str (QG I q Ma)
  | _=>exact absurd (show false=true from U) A2
 | byt i=>
  obtain⟨t,rfl⟩:=rx;cases y with
  | byt j=>obtain⟨t',rfl⟩:=J;exact W.eq_bytes (QG I q Mb)
  | _=>exact absurd (show false=true from U) A2
 | _=>cases y<;>exact absurd (show false=true from U) A2
theorem op_ne:OpR X (compareOp .NotEq) mq:=by
 intro pins s σ H x y v u Q I rx J h;obtain⟨U,q⟩:=h;cases x with
 | non=>
  cases rx;cases y with
  | non=>cases J;exact EqNone.ne_none_none (QG I q (by simp))
  | bl j=>cases J;exact EqNone.ne_none_bool (QG I q (by simp))
  | int j=>obtain⟨t',rfl⟩:=J;exact EqNone.ne_none_int (QG I q (by simp))
  | str j=>obtain⟨t',rfl⟩:=J;exact EqNone.ne_none_str (QG I q (by simp))
  | _=>exact absurd (show false=true from U) A2
 | bl i=>
  cases rx;cases y with
  | non=>cases J;exact EqNone.ne_bool_none (QG I q (by simp))
  | bl j=>cases J;exact ne_bool (QG I q (congrArg not Rh))
  | str j=>obtain⟨t',rfl⟩:=J;exact EqMixed.ne_bool_str (QG I q (by simp))
  | _=>exact absurd (show false=true from U) A2
 | int i=>
  obtain⟨t,rfl⟩:=rx;cases y with
  | non=>cases J;exact EqNone.ne_int_none (QG I q (by simp))
  | int j=>obtain⟨t',rfl⟩:=J;exact ne_int (QG I q (congrArg not Jo))
  | str j=>obtain⟨t',rfl⟩:=J;exact EqMixed.ne_int_str (QG I q (by simp))
  | _=>exact absurd (show false=true from U) A2
 | str i=>
  obtain⟨t,rfl⟩:=rx;cases y with
  | non=>cases J;exact EqNone.ne_str_none (QG I q (by simp))
  | bl j=>cases J;exact EqMixed.ne_str_bool (QG I q (by simp))
  | int j=>obtain⟨t',rfl⟩:=J;exact EqMixed.ne_str_int (QG I q (by simp))
  | str j=>obtain⟨t',rfl⟩:=J;exact ne_str (QG I q (congrArg not Ma))
  | _=>exact absurd (show false=true from U) A2
 | byt i=>
  obtain⟨t,rfl⟩:=rx;cases y with
  | byt j=>obtain⟨t',rfl⟩:=J;exact W.ne_bytes (QG I q (congrArg not Mb))
  | _=>exact absurd (show false=true from U) A2
 | _=>cases y<;>exact absurd (show false=true from U) A2
theorem op_lt:OpR X (compareOp .Lt) (lZ λi j=>.bl (decide (i<j))):=P1 λ_ _ _ _ _ _ _ q=>lt_int q
theorem op_le:OpR X (compareOp .LtE) (lZ λi j=>.bl (decide (i<=j))):=P1 λ_ _ _ _ _ _ _ q=>le_int q
theorem op_gt:OpR X (compareOp .Gt) (lZ λi j=>.bl (decide (j<i))):=P1 λ_ _ _ _ _ _ _ q=>gt_int q
theorem op_ge:OpR X (compareOp .GtE) (lZ λi j=>.bl (decide (j<=i))):=P1 λ_ _ _ _ _ _ _ q=>ge_int q
theorem MH:OpR X (compareOp .In) (λx y H Q=>∃i j,x=.str i/\y=.str j/\Q (.bl (!(Builtin.Str.occurrences j i 0 j.length 1).isEmpty)) H):=by
 intro pins s σ H x y v u Q I U J h;obtain⟨i,j,rfl,rfl,q⟩:=h;obtain⟨t,rfl⟩:=U;obtain⟨t',rfl⟩:=J;exact in_str (QG I q rfl)
theorem Fz:OpR X (compareOp .Is) (λx y H Q=>y=.non/\Q (.bl (decide (x=.non))) H):=by
 intro pins s σ H x y v u Q I J U h;obtain⟨rfl,q⟩:=h;cases U;refine is_none_gen (QG I q ?_);cases x<;>first
  | (cases J;rfl)
  | (obtain⟨t,rfl⟩:=J;rfl)
theorem NL:OpR X (compareOp .IsNot) (λx y H Q=>y=.non/\Q (.bl (!decide (x=.non))) H):=by
 intro pins s σ H x y v u Q I J U h;obtain⟨rfl,q⟩:=h;cases U;refine isnot_none_gen (QG I q ?_);cases x<;>first
  | (cases J;rfl)
  | (obtain⟨t,rfl⟩:=J;rfl)
theorem Vt:OpR X (compareOp .NotIn) (λx y H Q=>∃i j,x=.str i/\y=.str j/\Q (.bl (!(!(Builtin.Str.occurrences j i 0 j.length 1).isEmpty))) H):=by
 intro pins s σ H x y v u Q I U J h;obtain⟨i,j,rfl,rfl,q⟩:=h;obtain⟨t,rfl⟩:=U;obtain⟨t',rfl⟩:=J;exact notIn_str (QG I q rfl)
theorem OpR.or {f}{r r'}(h:OpR X f r)(h':OpR X f r'):OpR X f (λx y H Q=>r x y H Q∨r' x y H Q):=by
 intro pins s σ H x y v u Q I U J q;rcases q with q|q
 ·exact h pins s σ H x y v u Q I U J q
 ·exact h' pins s σ H x y v u Q I U J q
theorem BF (b)(h:op≠.In:=by decide)(h2:op≠.NotIn:=by decide):behindInMarks op b=false:=by
 have e1:(op==CmpOp.In)=false:=by cases op<;>first|rfl|exact absurd rfl h
 have e2:(op==CmpOp.NotIn)=false:=by cases op<;>first|rfl|exact absurd rfl h2
 cases b<;>simp[behindInMarks,e1,e2]
theorem We {r}(ho:OpR X (compareOp op) r)(ha:PE X a ta)(hb:PE X b tb)(hm:behindInMarks op b=false):PE X (.Compare a [op] [b] pos) (OK r ta tb):=by
 intro pins s σ H Q I h;exact wpAny_Compare1 (Ef ha hb I h λv u U x y H2 I2 rx J q=>ho pins U σ H2 x y v u Q I2 rx J q) hm
def Cy (K:W.Frag)(x:V)(H:Hp)(k:Bool):Prop:=
 match x with
 | .non=>k=false
 | .bl b=>k=b
 | .int i=>k=(i != 0)
 | .str y=>y.length<=sizeLine/\k=((y.length:Int) != 0)
 | .byt y=>y.size<=sizeLine/\k=((y.size:Int) != 0)
 | .ref p=>(∃xs,Kv K H p xs/\k=!xs.isEmpty)∨(∃xs,Kt K H p xs/\k=!xs.isEmpty)∨∃kvs,H p=some (.dK kvs)/\k=!kvs.isEmpty
 | _=>False
theorem GQ (r:KV kvs vs):(!vs.isEmpty)=!kvs.isEmpty:=by
 cases r<;>rfl
theorem JP {xs}(r:Vals xs its):(!its.toArray.isEmpty)=!xs.isEmpty:=by
 cases r<;>simp
theorem JJ:(sizeLine:Nat)<2 ^ 63:=by rw[AB];decide
theorem Hw:Ai X (λx H Q=>∃k,Cy X.K x H k/\Q k H):=by
 intro pins s σ H x v Q I rx h;obtain⟨k,e,q⟩:=h;have hl:=JJ;have hs:sizeLine=16777216:=AB;cases x with
 | non=>
  cases rx;have J:k=false:=e;subst J;exact truthy_none ⟨H,I,q⟩
 | bl b=>
  cases rx;have J:k=b:=e;subst J;exact ID ⟨H,I,q⟩
 | int i=>
  obtain⟨t,rfl⟩:=rx;have J:k=(i != 0):=e;subst J;exact PySem.P.truthy_int ⟨H,I,q⟩
 | str y=>
  obtain⟨t,rfl⟩:=rx;obtain⟨hy,J⟩:y.length<=sizeLine/\k=((y.length:Int) != 0):=e;subst J;exact PySem.P.truthy_str (by omega) ⟨H,I.tok _,q⟩
 | byt y=>
  obtain⟨t,rfl⟩:=rx;obtain⟨hy,J⟩:y.size<=sizeLine/\k=((y.size:Int) != 0):=e;subst J;exact W.truthy_bytes (by omega) ⟨H,I.tok _,q⟩
 | ref p=>
  cases rx;have J:(∃xs,Kv X.K H p xs/\k=!xs.isEmpty)∨(∃xs,Kt X.K H p xs/\k=!xs.isEmpty)∨∃kvs,H p=some (.dK kvs)/\k=!kvs.isEmpty:=e;rcases J with ⟨xs,hx,J⟩|⟨xs,hx,J⟩|⟨kvs,hx,J⟩
  ·subst J;obtain⟨its,r,pl,hz⟩:=I.list hx;have U:=r.length;exact wpAny_truthy_list pl.isList (by simp only[AR];omega) ⟨H,I.tok _,by rw[JP r];exact q⟩
  ·subst J;obtain⟨its,r,pl,hz⟩:=I.tuple hx;have U:=r.length;exact truthy_tuple pl (by simp only[AR];omega) ⟨H,I.tok _,by rw[JP r];exact q⟩
  ·subst J;obtain⟨hz,hS,vs,r,m⟩:kvs.length<=sizeLine/\(p==sysModules)=false/\∃vs,KV kvs vs/\s.heap.DictOf (QU X.prog X.w) p vs:=I.hok p _ hx;have U:kvs.length=vs.length:=Paired.length r;exact wpAny_truthy_dict hS m (by omega) ⟨H,I.tok _,by rw[GQ r];exact q⟩
 | _=>exact(show False from e).elim
theorem X9 (ha:PE X a ta)(he:∀whole,isTrue a X.env whole=(do let v <-whole;standAt a.pos;holding [v] (truthy v))) :
  PT X a (λσ H Q=>ta σ H λx H'=>∃k,Cy X.K x H' k/\Q k H'):=by
 intro pins s σ H Q I h;exact isTrue_plain (Kw (ha pins s σ H _ I h) λv s1 ⟨x,H1,J,U,q1⟩=>Hw pins s1 σ H1 x v Q J U q1) (he _)
theorem op_add_str:OpR X (binaryOp .Add) (λx y H Q=>∃i j,x=.str i/\y=.str j/\i.length+j.length<=sizeLine/\Q (.str (i++j)) H):=by
 intro pins s σ H x y v u Q I U J h;obtain⟨i,j,rfl,rfl,hz,q⟩:=h;obtain⟨t,rfl⟩:=U;obtain⟨t',rfl⟩:=J;exact add_str (λt' tk=>⟨.str (i++j),H,I.tok _,⟨_,rfl⟩,q⟩) hz
theorem Z1 {x}(r:Vals [x] us):∃u,us=[u]/\RelV x u:=by
 cases r with
 | cons r1 r2=>cases r2;exact⟨_,rfl,r1⟩
theorem KP {x y}(r:Vals [x,y] us):∃u w',us=[u,w']/\RelV x u/\RelV y w':=by
 cases r with
 | cons J r2=>
  cases r2 with
  | cons U r4=>cases r4;exact⟨_,_,rfl,J,U⟩
theorem Wo:CallR X (.builtin "abs") (λxs H Q=>∃i,xs=[.int i]/\Q (.int (if i<0 then -i else i)) H):=by
 intro pins s σ H xs us Q I r h;obtain⟨i,rfl,q⟩:=h;obtain⟨u,rfl,t,rfl⟩:=Z1 r;exact call_abs_int λu J=>⟨.int (if i<0 then -i else i),H,I.tok _,⟨_,rfl⟩,q⟩
theorem M9 (hc:X.calm=true):CallR X (.builtin "max") (λxs H Q=>∃i j,xs=[.int i,.int j]/\Q (.int (if j > i then j else i)) H):=by
 intro pins s σ H xs us Q I r h;obtain⟨i,j,rfl,q⟩:=h;obtain⟨u,U,rfl,⟨t,rfl⟩,⟨t',rfl⟩⟩:=KP r;refine max_two_ints (I.ok.hd hc) λh' tk k=>⟨_,H,I.kept k,?_,q⟩
 by_cases J:j > i
 ·rw[An J,An J];exact⟨_,rfl⟩
 ·rw[Am J,Am J];exact⟨_,rfl⟩
theorem M8 (hc:X.calm=true):CallR X (.builtin "min") (λxs H Q=>∃i j,xs=[.int i,.int j]/\Q (.int (if j<i then j else i)) H):=by
 intro pins s σ H xs us Q I r h;obtain⟨i,j,rfl,q⟩:=h;obtain⟨u,U,rfl,⟨t,rfl⟩,⟨t',rfl⟩⟩:=KP r;refine min_two_ints (I.ok.hd hc) λh' tk k=>⟨_,H,I.kept k,?_,q⟩
 by_cases J:j<i
 ·rw[An J,An J];exact⟨_,rfl⟩
 ·rw[Am J,Am J];exact⟨_,rfl⟩
theorem call_str_int:CallR X (.type "str") (λxs H Q=>∃i,xs=[.int i]/\i.natAbs.log2<1920/\Q (.str (toString i)) H):=by
 intro pins s σ H xs us Q I r h;obtain⟨i,rfl,J,q⟩:=h;obtain⟨u,rfl,t,rfl⟩:=Z1 r;exact PySem.P.str_of_int J ⟨.str _,H,I.tok _,⟨_,rfl⟩,q⟩
def CA (K:W.Frag)(x:V)(H:Hp)(n:Nat):Prop:=
 match x with
 | .str y=>y.length<=sizeLine/\n=y.length
 | .byt y=>y.size<=sizeLine/\n=y.size
 | .ref p=>(∃xs,Kv K H p xs/\n=xs.length)∨∃xs,Kt K H p xs/\n=xs.length
 | _=>False
theorem Rp:CallR X (.builtin "len") (λxs H Q=>∃x n,xs=[x]/\CA X.K x H n/\Q (.int n) H):=by
 intro pins s σ H xs us Q I r h;obtain⟨x,n,rfl,e,q⟩:=h;obtain⟨u,rfl,rx⟩:=Z1 r;have hl:=JJ;have hs:sizeLine=16777216:=AB;cases x with
 | str y=>
  obtain⟨t,rfl⟩:=rx;obtain⟨hy,U⟩:y.length<=sizeLine/\n=y.length:=e;subst U;exact len_str (by omega) ⟨.int _,H,I.tok _,⟨_,rfl⟩,q⟩
 | byt y=>
  obtain⟨t,rfl⟩:=rx;obtain⟨hy,U⟩:y.size<=sizeLine/\n=y.size:=e;subst U;exact W.len_bytes (by omega) ⟨.int _,H,I.tok _,⟨_,rfl⟩,q⟩
 | ref p=>
  cases rx;have U:(∃xs,Kv X.K H p xs/\n=xs.length)∨∃xs,Kt X.K H p xs/\n=xs.length:=e;rcases U with ⟨xs,hx,U⟩|⟨xs,hx,U⟩
  ·subst U;obtain⟨its,r',pl,hz⟩:=I.list hx;have J:=r'.length;exact Calls.call_len_list pl.isList (by simp only[AR];omega) ⟨.int xs.length,H,I.tok _,⟨_,by simp only[AR];rw[J]⟩,q⟩
  ·subst U;obtain⟨its,r',pl,hz⟩:=I.tuple hx;have J:=r'.length;exact len_tuple pl (by simp only[AR];omega) ⟨.int xs.length,H,I.tok _,⟨_,by simp only[AR];rw[J]⟩,q⟩
 | _=>exact(show False from e).elim
end
structure ObjM (h:Heap)(x dx C:Addr)(mA:Str->Option Value):Prop where
 obj:h.get? x=some (W.instObj C dx)
 ns:h.Ns1 dx mA
 ne:dx≠x
theorem MK {h:Heap}(n:h.Ns1 dx mA):∃od,h.get? dx=some od/\∀name,W.lookIn name od=some (mA name):=by
 obtain ⟨o,es,ep,ho,hd,U,_,hm⟩:=n;refine ⟨o,ho,fun name=>?_⟩;have e:=hm name;unfold nsFind findBy at e;rw [<-Array.find?_toList] at e;unfold W.lookIn;rw [hd];dsimp only;split
 ·rename_i y q;rw[q] at e;exact congrArg some e
 ·rename_i q;rw[q] at e;have a:es.toList.any (·.refKey)=false:=by
   rw[List.any_eq_false];intro y hy;obtain⟨z,t,J⟩:=U y (Array.mem_toList_iff.mp hy);simp[DictEntry.refKey,J]
  have a':¬es.toList.any (·.refKey)=true:=by rw[a];exact A2
  rw[Am a'];exact congrArg some e
theorem ObjM.look {h}{x}{mA}(I:ObjM h x dx C mA):∃od,W.InstAt h x (W.instObj C dx) C (some od)/\∀name,W.lookIn name od=some (mA name):=
 let ⟨od,ho,hl⟩:=MK I.ns
 ⟨od,⟨I.obj,rfl,rfl,ho⟩,hl⟩
section
variable {prog:Program} {w:World} {A:Around} {E:Value->Shared->Prop} {s:Shared} {K:W.Frag} {x dx C f:Addr} {mA:Str->Option Value} {name:Str} {v:Value}
theorem Tj {expr}{Q}(X:K.In s.heap)(I:ObjM s.heap x dx C mA)(hg:W.plainGet K C name=true)(hh:W.hasDictIn K C=true)
  (ha:W.findIn K (.ref C) name=some none) (hv:mA name=some v) (hv':W.handedIn v=true) (h:Q v { s with toks:=s.toks+1 }) :
  wpAny (model prog w) A (getAttr (.ref x) name expr) Q E s:=by
 obtain⟨od,J,U⟩:=I.look;exact W.get_value X J (W.plainGet_of hg).1 (W.findObj_own hh ha rfl (by rw[U,hv])) hv' h
theorem B2 {Q}(X:K.In s.heap)(I:ObjM s.heap x dx C mA)(hg:W.plainGet K C name=true)
  (hf:W.findIn K (.ref C) name=some (some (.ref f))) (ht:W.isFn K (.ref f)=true) (hv:mA name=none) (h:Q (.ref f,[.ref x]) s) :
  wpAny (model prog w) A (getMethod (.ref x) name pl) Q E s:=by
 obtain⟨od,J,U⟩:=I.look;exact W.method_fn X J (W.plainGet_of hg).1 (W.plainGet_of hg).2 hf (beq_iff_eq.mp ht) (by show(W.lookIn name od).map (·.isSome)=some false;rw[U,hv];rfl) h
theorem Pc {Q}(X:K.In s.heap)(I:ObjM s.heap x dx C mA)
  (hs:W.findIn K (.ref C) "__setattr__"=some (some (.builtin "object.__setattr__"))) (hp:W.plainOver K C=true) (ht:W.takerIn K C name=some none) (hh:W.hasDictIn K C=true)
  (hw:PySem.Within mA ns) (hsz:ns.length<=sizeLine)
  (h:∀h',ObjM h' x dx C (λy=>if y=name then some v else mA y)->Heap.SameBut dx s.heap h'->Q () { s with heap:=h',toks:=s.toks+2 }) :
  wpAny (model prog w) A (setAttr (.ref x) name v) Q E s:=by
 obtain⟨od,J,hl⟩:=I.look;refine W.set_plain X J hs (W.osa_open (s:={ s with toks:=s.toks+1 }) (r:=none) X J hp ht λb=>?_);obtain⟨cd,hc,a7⟩:=W.any_some hh;have hx:s.heap.get? x=some ⟨.ref C,some dx,.plain,#[]⟩:=I.obj;refine Aw (AM (Aw (Aw (wpAny_loadPart hx (Aw (W.Looks.here (s:={ s with toks:=s.toks+1 }) (W.looks_clsIn X hc) ?_))))));rw[a7];refine AM (a:=some dx) (Aw (AM (Aw ?_)));refine wpAny_nsSet1 (s:={ s with toks:=s.toks+1 }) I.ns λh' a0 U=>?_
 obtain⟨oD,a9,a8,a5,a4,a6⟩:=a0.count (Within.cons name v hw);refine Aw (wpAny_lookBehind a5 (by rw[a4];exact pastItsLine_dict (A4 a6 (by rw[AN];omega))) ?_);exact AM (h _ ⟨(U.2 _ (Ir I.ne)).trans I.obj,a0,I.ne⟩ U)
theorem BM {R}{vs}(X:K.In s.heap)(hm:W.makesIn K C=true)
  (hi:W.findIn K (.ref C) "__init__"=some (some (.ref f))) (hf:W.typeIn K (.ref f)=some (.type "function"))
  (h:codeAny (model prog w) (A.under (.builtin "type.__call__" ⟨.ref C::vs,kw⟩)) (.call (.ref f) ⟨.ref (s.heap.objs.size+1)::vs,kw⟩) (W.InitBack (s.heap.objs.size+1) R)
   { s with heap:=(s.heap.push W.emptyDict).push (W.instObj C s.heap.objs.size) }) :
  codeAny (model prog w) A (.call (.ref C) ⟨vs,kw⟩) R s:=by
 obtain⟨U,g,d,t,os⟩:=s;exact W.make_core (W.makes_of X hm) (W.looks_findIn X hi) (λJ=>W.bind_fn X J hf) (.inl rfl) h
end
def QM (f:Str)(v:V):List (Str×V)->List (Str×V)
 | []=>[(f,v)]
 | (g,x)::r=>if g=f then(g,v)::r else(g,x)::QM f v r
theorem WV (f g)(v):∀fs,(QM f v fs).lookup g=if g=f then some v else fs.lookup g
 | []=>by
  show List.lookup g [(f,v)]=_;by_cases h:g=f
  ·have J:(g==f)=true:=beq_iff_eq.mpr h;simp only[List.lookup,J,An h]
  ·have J:(g==f)=false:=beq_eq_false_iff_ne.mpr h;simp only[List.lookup,J,Am h]
 | (k,x)::r=>by
  have ih:=WV f g v r;rw[show QM f v ((k,x)::r)=(if k=f then(k,v)::r else(k,x)::QM f v r) from rfl];by_cases U:k=f
  ·rw[An U];by_cases h:g=k
   ·have J:(g==k)=true:=beq_iff_eq.mpr h;simp only[List.lookup,J,An (h.trans U)]
   ·have J:(g==k)=false:=beq_eq_false_iff_ne.mpr h;simp only[List.lookup,J,Am (λe:g=f=>h (e.trans U.symm))]
  ·rw[Am U];by_cases h:g=k
   ·have J:(g==k)=true:=beq_iff_eq.mpr h;simp only[List.lookup,J,Am (λe:g=f=>U (h.symm.trans e))]
   ·have J:(g==k)=false:=beq_eq_false_iff_ne.mpr h;simp only[List.lookup,J];exact ih
theorem WI (f)(v):∀fs,f∈(QM f v fs).map (·.1)/\∀g,g∈fs.map (·.1)->g∈(QM f v fs).map (·.1)
 | []=>⟨by simp[QM],λg h=>by simp at h⟩
 | (k,x)::r=>by
  obtain⟨i1,U⟩:=WI f v r;rw[show QM f v ((k,x)::r)=(if k=f then(k,v)::r else(k,x)::QM f v r) from rfl];by_cases J:k=f
  ·rw[An J];subst J;exact⟨by simp,λg h=>by simpa using h⟩
  ·rw[Am J];refine⟨?_,λg h=>?_⟩
   ·rw[A3];exact AE _ i1
   ·rw[A3] at h ⊢;rcases AF.mp h with e|e
    ·exact AF.mpr (.inl e)
    ·exact AE _ (U g e)
theorem WW (f)(v):∀fs,(QM f v fs).length<=fs.length+1
 | []=>by simp[QM]
 | (k,x)::r=>by
  have U:=WW f v r;rw[show QM f v ((k,x)::r)=(if k=f then(k,v)::r else(k,x)::QM f v r) from rfl];by_cases J:k=f
  ·rw[An J,AN,AN];omega
  ·rw[Am J,AN,AN];omega
theorem RelO.some_of {v}{o}(r:RelO (some v) o):∃u,o=some u/\RelV v u:=by
 cases o with
 | none=>exact(show False from r).elim
 | some u=>exact⟨u,rfl,r⟩
theorem RelO.none_of {o}(r:RelO none o):o=none:=by
 cases o with
 | none=>rfl
 | some u=>exact(show False from r).elim
theorem MS {v}(r:RelV v u):W.handedIn u=true:=by
 cases v with
 | non=>cases(show u=Value.none from r);rfl
 | bl b=>cases(show u=Value.bool b from r);rfl
 | int i=>obtain⟨t,e⟩:=(show ∃t,u=Value.int i t from r);cases e;rfl
 | str x=>obtain⟨t,e⟩:=(show ∃t,u=Value.str x t from r);cases e;rfl
 | byt b=>obtain⟨t,e⟩:=(show ∃t,u=Value.bytes b t from r);cases e;rfl
 | flt b=>obtain⟨t,e⟩:=(show ∃t,u=Value.float b t from r);cases e;rfl
 | ref a=>cases(show u=Value.ref a from r);rfl
 | ty n=>cases(show u=Value.type n from r);rfl
section
variable {P:Program} {w:World} {H H':Hp} {h h':Heap} {a C dx:Addr} {fs fs':List (Str×V)}
theorem Jk (hok:HOk P w H h)(e:H a=some (.ins C dx fs)):∃mA,ObjM h a dx C mA/\(∀f,RelO (fs.lookup f) (mA f))/\PySem.Within mA (fs.map (·.1))/\fs.length<=1000/\H dx=some (.own a):=by
 obtain⟨d,z,U,J,mA,n,r,q⟩:=(show ObjOk P w H h a (.ins C dx fs) from hok a _ e)
 exact⟨mA,⟨J,n,U⟩,r,q,z,d⟩
end
structure Cls (K:W.Frag)(C:Addr):Prop where
 pg:W.plainGet K C Str.empty=true
 hd:W.hasDictIn K C=true
 po:W.plainOver K C=true
 sa:W.findIn K (.ref C) "__setattr__"=some (some (.builtin "object.__setattr__"))
theorem Cls.get (c:Cls K C)(f):W.plainGet K C f=true:=c.pg
def NoAttr (K:W.Frag)(C:Addr)(f:Str):Prop:=W.findIn K (.ref C) f=some none
theorem NoAttr.taker {f}(n:NoAttr K C f):W.takerIn K C f=some none:=by
 unfold W.takerIn;rw[show W.findIn K (.ref C) f=some none from n];rfl
structure Ry (K:W.Frag)(C:Addr)(m:Str)(f:Addr):Prop where
 at_:W.findIn K (.ref C) m=some (some (.ref f))
 fn:W.isFn K (.ref f)=true
 kp:W.keepIn K (.ref f)=true
section
variable {X:Cx} {pins:List (Addr×Obj)} {σ:St} {H:Hp} {s:Shared} {a C dx:Addr} {fs:List (Str×V)} {f:Str} {v:V} {A:Around} {E:Value->Shared->Prop}
theorem GT {b}{Q}(I:Inv X pins σ H s)(e:H a=some (.ins C dx fs))(c:Cls X.K C)(n:NoAttr X.K C f)(l:fs.lookup f=some v)
  (h:∀u s',Inv X pins σ H s'->RelV v u->Q u s'):wpAny (model X.prog X.w) A (getAttr (.ref a) f b) Q E s:=by
 obtain ⟨mA,O,r,_,_,_⟩:=Jk I.hok e;obtain ⟨u,U,J⟩:=RelO.some_of (v:=v) (o:=mA f) (by rw [<-l];exact r f);exact Tj I.kIn O (c.get f) c.hd n U (MS J) (h u _ (I.tok _) J)
theorem YU {m}{g}{Q}(I:Inv X pins σ H s)(e:H a=some (.ins C dx fs))(c:Cls X.K C)(k:Ry X.K C m g)(l:fs.lookup m=none)
  (h:Q (.ref g,[.ref a]) s):wpAny (model X.prog X.w) A (getMethod (.ref a) m pl) Q E s:=by
 obtain ⟨mA,O,r,_,_,_⟩:=Jk I.hok e;have hn:mA m=none:=RelO.none_of (by rw [<-l];exact r m);exact B2 I.kIn O (c.get m) k.at_ k.fn hn h
theorem Gw {y}{Q}(I:Inv X pins σ H s)(e:H a=some (.ins C dx fs))(c:Cls X.K C)(n:NoAttr X.K C f)(hl:fs.length<1000)(ry:RelV y u)
  (h:∀s',Inv X pins σ (upd H a (.ins C dx (QM f y fs))) s'->Q () s'):wpAny (model X.prog X.w) A (setAttr (.ref a) f u) Q E s:=by
 obtain⟨mA,O,r,wi,_,U⟩:=Jk I.hok e;have hz:(fs.map (·.1)).length<=sizeLine:=by rw[As,AB];omega
 refine Pc I.kIn O c.sa c.po n.taker c.hd wi hz λh' J sb=>h _ ?_
 have hd:∃o,h'.get? dx=some o:=let ⟨o,_,_,e',_⟩:=J.ns;⟨o,e'⟩;refine I.write (x:=a) (e:=dx) (by rw[e];exact True.intro) (.inr U) (λb q hb z=>(sb.2 b hb).trans z) hd ?_;refine⟨by rw[Qk O.ne];exact U,?_,O.ne,J.obj,_,J.ns,λg=>?_,λg hg=>?_⟩
 ·have:=WW f y fs;omega
 ·show RelO ((QM f y fs).lookup g) (if g=f then some u else mA g);rw[WV];by_cases q:g=f
  ·rw[An q,An q];exact ry
  ·rw[Am q,Am q];exact r g
 ·by_cases q:g=f
  ·rw[q];exact(WI f y fs).1
  ·refine(WI f y fs).2 g (wi g λz=>hg ?_);show(if g=f then some u else mA g)=none;rw[Am q];exact z
theorem Inv.made (I:Inv X pins σ H s):Inv X pins σ (upd (upd H s.heap.objs.size (.own (s.heap.objs.size+1))) (s.heap.objs.size+1) (.ins C s.heap.objs.size []))
  { s with heap:=(s.heap.push W.emptyDict).push (W.instObj C s.heap.objs.size) }:=by
 have e1:(s.heap.push W.emptyDict).get? s.heap.objs.size=some W.emptyDict:=Ia s.heap rfl;have e2:((s.heap.push W.emptyDict).push (W.instObj C s.heap.objs.size)).get? (s.heap.objs.size+1)=some (W.instObj C s.heap.objs.size):=by
  have:=Ia (s.heap.push W.emptyDict) (o:=W.instObj C s.heap.objs.size) rfl;rwa [Heap.size_push] at this
 have e3:(s.heap.push W.emptyDict).Ns s.heap.objs.size (λ_=>none):=⟨W.emptyDict,#[],_,e1,rfl,(λe he=>absurd he (by simp)),λ_=>rfl⟩
 have U:=I.laid (a:=s.heap.objs.size) (o:=.own (s.heap.objs.size+1)) (h':=s.heap.push W.emptyDict) (t':=s.toks) (λb u q=>AI _ q) (Au _) ⟨_,e1⟩;refine U.laid (a:=s.heap.objs.size+1) (o:=.ins C s.heap.objs.size []) (t':=s.toks) (λb u q=>AI _ q) (Nat.le_of_eq (Heap.size_push _ _)) ?_;have J:s.heap.objs.size≠s.heap.objs.size+1:=AQ (IF _);refine⟨by rw[Qk J,Qb],AZ _,J,e2,λ_=>none,(Heap.Ns1.of_empty e3).at λo q=>AI _ q,λ_=>True.intro,λy hy=>absurd rfl hy⟩
theorem TK {e}{f}{Q}(hb:attributeBase e f env (eval e env)=eval e env)
  (h:wpAny (model prog w) A (eval e env) (λo J=>wpAny (model prog w) A (getAttr o f true) Q E J) E s):wpAny (model prog w) A (eval (.Attribute e f pos) env) Q E s:=
 Attribute_any_ h (by rw[arm_eval_Attribute,hb])
end
def Y2 (K:W.Frag)(ta:TE)(f:Str):TE:=λσ H Q=>ta σ H λx H1=>∃a C dx fs v,x=.ref a/\H1 a=some (.ins C dx fs)/\Cls K C/\NoAttr K C f/\fs.lookup f=some v/\Q v H1
def Pe (K:W.Frag)(ta tv:TE)(f:Str):TS:=λD σ H=>tv σ H λy H1=>ta σ H1 λx H2=>∃a C dx fs,x=.ref a/\H2 a=some (.ins C dx fs)/\Cls K C/\NoAttr K C f/\fs.length<1000 /\
 D.nx σ (upd H2 a (.ins C dx (QM f y fs)))
section
variable {X:Cx} {o e value:Expr} {f:Str} {pos pos' tpos:Pos} {ta tv:TE}
theorem Fs (he:PE X e ta)(hb:attributeBase e f X.env (eval e X.env)=eval e X.env):PE X (.Attribute e f pos) (Y2 X.K ta f):=by
 intro pins s σ H Q I h;refine TK hb (Kw (he pins s σ H _ I h) λu s1 ⟨x,H1,U,rx,a,C,dx,fs,v,ex,ea,c,n,l,q⟩=>?_);subst ex;obtain rfl:u=Value.ref a:=rx;exact GT U ea c n l λu' s2 I2 J=>⟨v,H1,I2,J,q⟩
theorem Fg (ha:PE X o ta)(hv:PE X value tv)(hs:swapsWith value (some (.Attribute o f pos')) pos.line X.env=pure false):PS X (.Assign [.Attribute o f pos'] value pos) (Pe X.K ta tv f):=by
 intro pins s σ H D I h;refine plainObj_wpAny_Assign_Attribute (Kw (hv pins s σ H _ I h) λu U ⟨y,H1,I1,ry,q⟩=>Kw (ha pins U σ H1 _ I1 q) λov s2 ⟨x,H2,I2,rx,a,C,dx,fs,ex,ea,c,n,l,J⟩=>?_) hs;subst ex;obtain rfl:ov=Value.ref a:=rx;exact Gw I2 ea c n l ry λs3 I3=>⟨σ,_,I3,J⟩
theorem Sq {m}{apos}{args}{σ}{H}{Q}{te}(he:PE X e te)(I:Inv X pins σ H s)
  (h:te σ H λx H1=>∃a C dx fs g,x=.ref a/\H1 a=some (.ins C dx fs)/\Cls X.K C/\Ry X.K C m g/\fs.lookup m=none /\
   ∀J,Inv X pins σ H1 J->wpAny (model X.prog X.w) X.A (callWith pos (.ref g) [.ref a] (backTo pos (starEach args X.env)) (backToKw pos (keywordEach [] X.env))) Q X.xe J)
  (ht:eval (.Call (.Attribute e m apos) args [] pos) X.env=(do
   let ov <-eval e X.env
   standAt apos.atName
   let (f,first) <-holding [ov] (getMethod ov m pl)
   callWith pos f first (backTo pos (starEach args X.env)) (backToKw pos (keywordEach [] X.env)))) :
  wpAny (model X.prog X.w) X.A (eval (.Call (.Attribute e m apos) args [] pos) X.env) Q X.xe s:=by
 refine W.methodCall_KW (pl:=pl) (Kw (he pins s σ H _ I h) λu J ⟨x,H1,U,rx,a,C,dx,fs,g,ex,ea,c,k,l,q⟩=>?_) ht;subst ex;obtain rfl:u=Value.ref a:=rx;exact YU U ea c k l (q J U)
end
section
variable {X:Cx} {pins:List (Addr×Obj)} {σ:St} {H:Hp} {s:Shared} {A:Around} {E:Value->Shared->Prop} {Q:Value->Shared->Prop} {c:Value} {b:Bool}
inductive TyOf (K)(H:Hp):V->Value->Prop where
 | non:TyOf K H .non (.type "NoneType")
 | bl (x:Bool):TyOf K H (.bl x) (.type "bool")
 | int (i:Int):TyOf K H (.int i) (.type "int")
 | str (x:Str):TyOf K H (.str x) (.type "str")
 | flt (x:UInt64):TyOf K H (.flt x) (.type "float")
 | lst {a:Addr} {xs:List V} (e:H a=some (.lst xs)):TyOf K H (.ref a) (.type "list")
 | frz {a:Addr} {o:Obj} {xs:List V} (e:H a=some (.frz o (.lst xs))):TyOf K H (.ref a) (.type "list")
 | tup {a:Addr} {xs:List V} (e:H a=some (.tup xs)):TyOf K H (.ref a) (.type "tuple")
 | dK {a:Addr} {kvs:List (Key×V)} (e:H a=some (.dK kvs)):TyOf K H (.ref a) (.type "dict")
 | dT {a:Addr} {kvs:List (List Key×V)} (e:H a=some (.dT kvs)):TyOf K H (.ref a) (.type "dict")
 | ins {a C dx:Addr} {fs:List (Str×V)} (e:H a=some (.ins C dx fs)) (cl:Cls K C) (ha:W.findIn K (.ref C) "__class__"=some (some (.builtin "object.__class__")))
   (hn:W.specialIn K (.builtin "object.__class__") "__get__"=some (some (.builtin "getset_descriptor.__get__"))) (htk:W.takesIn K (.builtin "object.__class__")=some true)
   (hm:W.mroIn K C (.type "object")=some true):TyOf K H (.ref a) (.ref C)
theorem MP {x}{t}(I:Inv X pins σ H s)(rx:RelV x u)(ty:TyOf X.K H x t)(e:W.kitOne X.K t c=some b)(h:∀tk,Q (.bool b) { s with toks:=tk }) :
  wpAny (model X.prog X.w) A (call (.builtin "isinstance") [u,c]) Q E s:=by
 cases ty with
 | non=>cases(show u=Value.none from rx);exact W.kia_one W.kitx_none I.kIn True.intro e (λz=>nomatch z) h
 | bl y=>cases(show u=Value.bool y from rx);exact W.kia_one W.kitx_bool I.kIn True.intro e (λz=>nomatch z) h
 | int i=>obtain⟨t,q⟩:=(show ∃t,u=Value.int i t from rx);cases q;exact W.kia_one W.kitx_int I.kIn True.intro e (λz=>nomatch z) h
 | str y=>obtain⟨t,q⟩:=(show ∃t,u=Value.str y t from rx);cases q;exact W.kia_one W.kitx_str I.kIn True.intro e (λz=>nomatch z) h
 | flt y=>obtain⟨t,q⟩:=(show ∃t,u=Value.float y t from rx);cases q;exact W.kia_one W.kitx_float I.kIn True.intro e (λz=>nomatch z) h
 | @lst a xs ea=>
  cases(show u=Value.ref a from rx);obtain⟨_,_,n,_,h1⟩:=(show ObjOk X.prog X.w H s.heap a (.lst xs) from I.hok a _ ea)
  exact W.kia_one W.kitx_list I.kIn ⟨_,h1,rfl⟩ e (λz=>nomatch z) h
 | @frz a ob xs ea=>
  cases(show u=Value.ref a from rx);obtain⟨_,_,_,n,_,h1⟩:=(show ObjOk X.prog X.w H s.heap a (.frz ob (.lst xs)) from I.hok a _ ea)
  exact W.kia_one W.kitx_list I.kIn ⟨_,h1,rfl⟩ e (λz=>nomatch z) h
 | @tup a xs ea=>
  cases(show u=Value.ref a from rx);obtain⟨_,_,_,p⟩:=(show ObjOk X.prog X.w H s.heap a (.tup xs) from I.hok a _ ea)
  obtain⟨o,h1,h2,_⟩:=p;exact W.kia_one W.kitx_tuple I.kIn ⟨o,h1,h2⟩ e (λz=>nomatch z) h
 | @dK a kvs ea=>
  cases(show u=Value.ref a from rx);obtain⟨_,_,vs,_,p⟩:=(show ObjOk X.prog X.w H s.heap a (.dK kvs) from I.hok a _ ea)
  obtain⟨o,es,ep,h1,h2,_⟩:=p;exact W.kia_one W.kitx_dict I.kIn ⟨o,h1,h2.1⟩ e (λz=>nomatch z) h
 | @dT a kvs ea=>
  cases(show u=Value.ref a from rx);obtain⟨_,_,xs,_,o,es,ep,h1,h2,_⟩:=(show ObjOk X.prog X.w H s.heap a (.dT kvs) from I.hok a _ ea)
  exact W.kia_one W.kitx_dict I.kIn ⟨o,h1,h2.1⟩ e (λz=>nomatch z) h
 | @ins a C dx fs ea cl ha hn U hm=>
  cases(show u=Value.ref a from rx);obtain⟨mA,O,_⟩:=Jk I.hok ea;obtain⟨od,J,_⟩:=O.look;exact W.kia_one (W.kitx_own (cl.get _) cl.hd ha hn U hm) I.kIn J e (λz=>nomatch z) h
end
structure Room (k:Nat)(A:Around):Prop where
 hd:A.handled=none
 dp:A.depth+3*k+5<recursionLimit
 un:A.units+16*k+200<cLine
theorem Room.mono {k:Nat}(r:Room k A)(h:j<=k):Room j A:=⟨r.hd,by have:=r.dp;omega,by have:=r.un;omega⟩
theorem LG {k:Nat}(h:Room k A)(e:j<=k:=by decide):Room j A:=h.mono e
theorem Room.deeper {k:Nat}(r:Room (k+1) A)(env):Room k (A.deeper env):=
 ⟨r.hd,by have:=r.dp;show A.depth+1+3*k+5<_;omega,by have:=r.un;show A.units+3+16*k+200<_;omega⟩
theorem GI:(A.under (.builtin "type.__call__" ⟨.ref C::us,kw⟩)).depth=A.depth+1:=by
 first|rfl|simp[Around.under,Code.weight,Code.isCreation,Code.isGuard,Code.isCaller,Code.frames,Code.isFrame,guardIds]
theorem GH:(A.under (.builtin "type.__call__" ⟨.ref C::us,kw⟩)).units=A.units+1:=by
 first|rfl|simp[Around.under,Code.cUnits,Code.frames,Code.isFrame]
theorem Room.make {k:Nat}(r:Room (k+1) A)(C)(us)(kw:List (Str×Value)):Room k (A.under (.builtin "type.__call__" ⟨.ref C::us,kw⟩)):=
 ⟨r.hd,by have:=r.dp;rw[GI];omega,by have:=r.un;rw[GH];omega⟩
theorem Room.depth {k:Nat}(r:Room k A):A.depth<recursionLimit:=by have:=r.dp;omega
theorem Room.units {k:Nat}(r:Room k A):A.units+64<cLine:=by have:=r.un;omega
def W0:TA:=λ_ H Q=>Q [] H
def Sd (ta:TE)(tr:TA):TA:=λσ H Q=>ta σ H λx H1=>tr σ H1 λxs H2=>Q (x::xs) H2
section
variable {X:Cx} {e:Expr} {es:List Expr} {te:TE} {t:TA} {pos:Pos}
theorem QE:PA X [] W0:=λ_ _ _ _ H Q I h=>Calls.spliced_nil ⟨[],H,I,.nil,h⟩
theorem QJ (ha:PE X e te)(hr:PA X es t)(hs:starEach (e::es) X.env=(false,eval e X.env)::starEach es X.env:=by rfl):PA X (e::es) (Sd te t):=by
 intro pos pins s σ H Q I h;rw[hs];show wpAny _ _ (spliced ((false,eval e X.env)::backTo pos (starEach es X.env))) _ _ s;refine Calls.spliced_cons (Kw (ha pins s σ H _ I h) λu U ⟨x,H1,I1,r1,q1⟩=>?_);exact Kw (hr pos pins U σ H1 _ I1 q1) λus s2 ⟨xs,H2,I2,r2,J⟩=>⟨x::xs,H2,I2,.cons r1 r2,J⟩
def DE (t:TA):TE:=λσ H Q=>t σ H λxs H1=>xs.length<=sizeLine/\∀p,H1 p=none->Q (.ref p) (upd H1 p (.tup xs))
def HI (t:TA):TE:=λσ H Q=>t σ H λxs H1=>xs.length<=sizeLine/\∀p,H1 p=none->Q (.ref p) (upd H1 p (.lst xs))
theorem Qz {x1}(h:PA X es t):PE X (.Tuple es x1 pos) (DE t):=by
 intro pins s σ H Q I hq;refine wpAny_Tuple_spliced (Kw (h pos pins s σ H _ I hq) fun us J ⟨xs,H1,U,r,z,q⟩=>⟨by rw [<-r.length];exact z,?_⟩);have hf:H1 J.heap.objs.size=none:=U.hok.fresh (Au _);refine ⟨.ref J.heap.objs.size,upd H1 J.heap.objs.size (.tup xs),U.laid (t':=J.toks) (fun b u e=>AI _ e) (Au _) ?_,rfl,q _ hf⟩;exact ⟨z,us,r,⟨_,Ia _ rfl,rfl,_,rfl⟩⟩
theorem Qq (h:PA X es t):PE X (.List es pos) (HI t):=by
 intro pins s σ H Q I hq;refine wpAny_List_spliced (Kw (h pos pins s σ H _ I hq) fun us J ⟨xs,H1,U,r,z,q⟩=>⟨by rw [<-r.length];exact z,?_⟩);have hf:H1 J.heap.objs.size=none:=U.hok.fresh (Au _);refine ⟨.ref J.heap.objs.size,upd H1 J.heap.objs.size (.lst xs),U.laid (t':=J.toks) (fun b u e=>AI _ e) (Au _) ?_,rfl,q _ hf⟩;exact ⟨z,us,0,r,Ia _ rfl⟩
end
abbrev Sp:=List V->Hp->VK->XK->Prop
abbrev CXT:=List Env->Hp->Shared->XK->Value->Shared->Prop
structure Env0 (P:Program)(w:World)(K:W.Frag)(mg:Str->Option Value)(base:Heap)(A:Around)(outer:List Env)(s:Shared)(H:Hp):Prop where
 frames:A.frames=some outer
 mod:Mod K mg base
 bs:∀b o,base.get? b=some o->s.heap.get? b=some o/\H b=none
 bsz:base.objs.size<=s.heap.objs.size
 funs:s.heap.FunFrames base outer
 frf:∀b∈Nb outer,H b=none
 hok:HOk P w H s.heap
 bare:AllBare s.gens
def CE (outer:List Env)(P:Program)(w:World)(H:Hp)(s:Shared)(Q:VK)(u:Value)(s':Shared):Prop:=
 ∃v H',s'.os=s.os/\AllBare s'.gens/\Un (Nb outer) [] H H' s.heap s'.heap/\HOk P w H' s'.heap/\RelV v u/\Q v H'
def CR (CX:CXT)(outer:List Env)(P:Program)(w:World)(H:Hp)(s:Shared)(Q:VK)(E:XK)(r:Result)(s':Shared):Prop:=
 match r with
 | .ok (.ret u)=>CE outer P w H s Q u s'
 | .ok _=>False
 | .error e=>CX outer H s E e s'
structure FnOk (P:Program)(w:World)(K:W.Frag)(mg:Str->Option Value)(base:Heap)(CX:CXT)(k:Nat)(f:Addr)(fd:FuncData)(ps:List Str)(sp:Sp):Prop where
 len:∀vs H Q E,sp vs H Q E->vs.length=ps.length
 run:∀(A:Around) (outer:List Env) (s:Shared) (H:Hp) (args:Args) (us:List Value) (vs:List V) (Q:VK) (E:XK),Room k A->Env0 P w K mg base A outer s H->BindsTo s fd args (ps.zip us)->Vals vs us->sp vs H Q E ->
  codeAny (model P w) A (.call (.ref f) args) (CR CX outer P w H s Q E) s
theorem FnOk.imp {CX}{k:Nat}{f}{sp sp'}(F:FnOk P w K mg base CX k f fd ps sp)
  (h:∀vs H Q E,sp' vs H Q E->sp vs H Q E):FnOk P w K mg base CX k f fd ps sp':=
 ⟨λvs H Q E q=>F.len vs H Q E (h _ _ _ _ q),λA outer s H J us vs Q E hr he hb U hs=>F.run A outer s H J us vs Q E hr he hb U (h _ _ _ _ hs)⟩
theorem Env0.make {H}(e:Env0 P w K mg base A outer s H)(C)(us)(kw:List (Str×Value)) :
  Env0 P w K mg base (A.under (.builtin "type.__call__" ⟨.ref C::us,kw⟩)) outer s H:=⟨by first|exact e.frames|(simpa[Around.under,Code.envs,Code.isFrame,pushEnvs] using e.frames),e.mod,e.bs,e.bsz,e.funs,e.frf,e.hok,e.bare⟩
section
variable {X:Cx} {pins:List (Addr×Obj)} {σ:St} {H:Hp} {s s':Shared}
theorem Inv.env0 (I:Inv X pins σ H s):Env0 X.prog X.w X.K X.mg X.base X.A X.stack s H:=
 ⟨I.ok.frames,I.ok.mod,I.bs,A4 I.ok.bsz I.sz,I.stack,I.stkFree,I.hok,I.bare⟩
theorem Inv.after {Q}(I:Inv X pins σ H s)(h:CE X.stack X.prog X.w H s Q u s'):EP X pins σ Q u s':=by
 obtain⟨v,H',os,bare,un,U,r,q⟩:=h;obtain⟨hh,g,d,t,J⟩:=s';obtain rfl:J=s.os:=os;exact⟨v,H',I.call (h':=hh) (g':=g) (d':=d) (t':=t) (ch:=[]) un U bare (λb z=>absurd z (by simp)),r,q⟩
end
def Nq (sp:Sp)(dvs:List V)(E:XK)(t:TA):TE:=λσ H Q=>t σ H λvs H1=>sp (vs++dvs) H1 Q E
def X7 (C:Addr)(m:Str)(sp:Sp)(dvs:List V)(E:XK)(ta:TE)(t:TA):TE:=λσ H Q=>ta σ H λx H1=>∃a dx fs,x=.ref a/\H1 a=some (.ins C dx fs)/\fs.lookup m=none /\
 t σ H1 λvs H2=>sp (x::(vs++dvs)) H2 Q E
def YG (C:Addr)(sp:Sp)(dvs:List V)(E:XK)(t:TA):TE:=λσ H Q=>t σ H λvs H1=>∀x dx,H1 x=none->H1 dx=none->dx≠x ->
 sp (.ref x::(vs++dvs)) (upd (upd H1 dx (.own x)) x (.ins C dx [])) (λv H2=>v=.non/\Q (.ref x) H2) E
def Binds (K:W.Frag)(fd:FuncData)(ps:List Str)(ds:List Value):Prop:=
 ∀(s:Shared) (us:List Value),K.In s.heap->(us++ds).length=ps.length->BindsTo s fd ⟨us,[]⟩ (ps.zip (us++ds))
theorem Binds.all (h:∀us:List Value,us.length=ps.length->bindArgs fd ⟨us,[]⟩=pure (ps.zip us)):Binds K fd ps []:=λs us _ hl=>by
 rw[Ie] at hl ⊢;exact .of_eq (h us hl)
def Xr (CX:CXT)(X:Cx)(E:XK):Prop:=∀(pins:List (Addr×Obj)) (σ:St) (H:Hp) (s:Shared) (e:Value) (s':Shared),Inv X pins σ H s->CX X.stack H s E e s'->X.xe e s'
section
variable {X:Cx} {CX:CXT} {k:Nat} {f C:Addr} {fd:FuncData} {ps:List Str} {sp:Sp} {dvs:List V} {ds:List Value} {E:XK} {x m:Str} {p pos apos:Pos} {e o:Expr} {es:List Expr} {ta:TE} {t:TA}
theorem Gx {σ}{H}{Q}{vs}(F:FnOk X.prog X.w X.K X.mg X.base CX k f fd ps sp)(hr:Room k X.A)(hb:Binds X.K fd ps ds)(hd:Vals dvs ds)(hx:Xr CX X E)
  (I:Inv X pins σ H s) (r:Vals vs us) (h:sp (vs++dvs) H Q E):wpAny (model X.prog X.w) X.A (call (.ref f) us) (EP X pins σ Q) X.xe s:=by
 have U:Vals (vs++dvs) (us++ds):=r.append hd;have hl:(us++ds).length=ps.length:=by rw [<-U.length];exact F.len _ _ _ _ h
 refine wpAny_call (IG (F.run X.A X.stack s H ⟨us,[]⟩ (us++ds) (vs++dvs) Q E hr I.env0 (hb s us I.kIn hl) U h) λr s' J=>?_);cases r with
 | error e=>exact hx pins σ H s e s' I J
 | ok fl=>
  cases fl with
  | ret u=>exact I.after J
  | next=>exact Gh J
  | brk=>exact Gh J
  | cont=>exact Gh J
theorem NK (F:FnOk X.prog X.w X.K X.mg X.base CX k f fd ps sp)(hr:Room k X.A)(hg:Gl X x)(hm:X.mg x=some (.ref f))(hk:W.keepIn X.K (.ref f)=true)(hb:Binds X.K fd ps ds)(hd:Vals dvs ds)(hx:Xr CX X E)
  (ha:PA X (e::es) t) (hdb:(x==("__debug__":Str))=false:=by decide) (he:starEach (e::es) X.env=(false,eval e X.env)::starEach es X.env:=by rfl) (hpl:(backTo pos (starEach es X.env)).any (·.1)=false:=by rfl) :
  PE X (.Call (.Name x p) (e::es) [] pos) (Nq sp dvs E t):=by
 intro pins s σ H Q I h;refine IR (X0 I hg hm ?_ hdb);refine W.callWith_K (h₀:=X.base) I.ok.mod.kin hk (Kw (ha pos pins s σ H _ I h) λus U ⟨vs,H1,J,r,q⟩=>⟨J.kIn,?_⟩) he hpl;exact Gx F hr hb hd hx J r q
theorem PK (he:PE X o ta)(c:Cls X.K C)(hm:Ry X.K C m f)(F:FnOk X.prog X.w X.K X.mg X.base CX k f fd ps sp)(hr:Room k X.A)(hb:Binds X.K fd ps ds)(hd:Vals dvs ds)(hx:Xr CX X E)(ha:PA X (e::es) t)
  (hst:starEach (e::es) X.env=(false,eval e X.env)::starEach es X.env:=by rfl) (hpl:(backTo pos (starEach es X.env)).any (·.1)=false:=by rfl)
  (ht:eval (.Call (.Attribute o m apos) (e::es) [] pos) X.env=(do
   let ov <-eval o X.env
   standAt apos.atName
   let (f,first) <-holding [ov] (getMethod ov m pl)
   callWith pos f first (backTo pos (starEach (e::es) X.env)) (backToKw pos (keywordEach [] X.env))):=by rfl) :
  PE X (.Call (.Attribute o m apos) (e::es) [] pos) (X7 C m sp dvs E ta t):=by
 intro pins s σ H Q I h;refine W.methodCall_KW (pl:=pl) (Kw (he pins s σ H _ I h) λu s1 ⟨x,H1,J,rx,a,dx,fs,ex,ea,l,q⟩=>?_) ht;subst ex;obtain rfl:u=Value.ref a:=rx;refine YU J ea c hm l ?_;refine W.callWith_K (first:=[.ref a]) (h₀:=X.base) I.ok.mod.kin hm.kp (Kw (ha pos pins s1 σ H1 _ J q) λus s2 ⟨vs,H2,U,r,q2⟩=>⟨U.kIn,?_⟩) hst hpl;exact Gx (us:=.ref a::us) (vs:=.ref a::vs) F hr hb hd hx U (.cons rfl r) q2
theorem Bt (he:PE X o ta)(c:Cls X.K C)(hm:Ry X.K C m f)(F:FnOk X.prog X.w X.K X.mg X.base CX k f fd ps sp)(hr:Room k X.A)(hb:Binds X.K fd ps ds)(hd:Vals dvs ds)(hx:Xr CX X E)
  (ht:eval (.Call (.Attribute o m apos) [] [] pos) X.env=(do
   let ov <-eval o X.env
   standAt apos.atName
   let (f,first) <-holding [ov] (getMethod ov m pl)
   callWith pos f first (backTo pos (starEach [] X.env)) (backToKw pos (keywordEach [] X.env))):=by rfl) :
  PE X (.Call (.Attribute o m apos) [] [] pos) (X7 C m sp dvs E ta W0):=by
 intro pins s σ H Q I h;refine W.methodCall_KW (pl:=pl) (Kw (he pins s σ H _ I h) λu s1 ⟨x,H1,J,U,a,dx,fs,ex,ea,l,q⟩=>?_) ht;subst ex;obtain rfl:u=Value.ref a:=U;refine YU J ea c hm l ?_;exact W.callWith_K0 (first:=[.ref a]) J.kIn hm.kp (Gx (us:=[.ref a]) (vs:=[.ref a]) F hr hb hd hx J (.cons rfl .nil) q)
structure Mk (K:W.Frag)(C f:Addr):Prop where
 makes:W.makesIn K C=true
 init:W.findIn K (.ref C) "__init__"=some (some (.ref f))
 fn:W.isFn K (.ref f)=true
 kp:W.keepIn K (.ref C)=true
theorem Ui {σ}{H}{Q}{vs}(M:Mk X.K C f)(F:FnOk X.prog X.w X.K X.mg X.base CX k f fd ps sp)(hr:Room (k+1) X.A)(hb:Binds X.K fd ps ds)(hd:Vals dvs ds)
  (hx:Xr CX X E) (I:Inv X pins σ H s) (r:Vals vs us)
  (h:∀x dx,H x=none->H dx=none->dx≠x->sp (.ref x::(vs++dvs)) (upd (upd H dx (.own x)) x (.ins C dx [])) (λv H2=>v=.non/\Q (.ref x) H2) E) :
  wpAny (model X.prog X.w) X.A (call (.ref C) us) (EP X pins σ Q) X.xe s:=by
 have hq:=h (s.heap.objs.size+1) s.heap.objs.size (I.hok.fresh (IH _)) (I.hok.fresh (Au _)) (AQ (IF _));have U:=Inv.made (C:=C) I;have r2:Vals (V.ref (s.heap.objs.size+1)::(vs++dvs)) (Value.ref (s.heap.objs.size+1)::(us++ds)):=.cons rfl (r.append hd);have hl:(Value.ref (s.heap.objs.size+1)::us++ds).length=ps.length:=by
  have e:=r2.length;rw[F.len _ _ _ _ hq] at e;exact e.symm
 refine wpAny_call (BM (f:=f) I.kIn M.makes M.init (beq_iff_eq.mp M.fn) (IG (F.run _ X.stack _ _ ⟨Value.ref (s.heap.objs.size+1)::us,[]⟩ (Value.ref (s.heap.objs.size+1)::(us++ds)) _ _ E (hr.make C us [])
  (U.env0.make C us []) (hb _ (Value.ref (s.heap.objs.size+1)::us) U.kIn hl) r2 hq) λr s' J=>?_))
 cases r with
 | error e=>exact hx pins σ _ _ e s' U J
 | ok fl=>
  cases fl with
  | ret u=>
   obtain⟨v,H',I3,rv,ev,q3⟩:=U.after J;subst ev;exact⟨rv,⟨V.ref (s.heap.objs.size+1),H',I3,rfl,q3⟩⟩
  | next=>exact Gh J
  | brk=>exact Gh J
  | cont=>exact Gh J
theorem NJ (M:Mk X.K C f)(F:FnOk X.prog X.w X.K X.mg X.base CX k f fd ps sp)(hr:Room (k+1) X.A)(hg:Gl X x)(hm:X.mg x=some (.ref C))(hb:Binds X.K fd ps ds)(hd:Vals dvs ds)(hx:Xr CX X E)
  (ha:PA X (e::es) t) (hdb:(x==("__debug__":Str))=false:=by decide) (he:starEach (e::es) X.env=(false,eval e X.env)::starEach es X.env:=by rfl) (hpl:(backTo pos (starEach es X.env)).any (·.1)=false:=by rfl) :
  PE X (.Call (.Name x p) (e::es) [] pos) (YG C sp dvs E t):=by
 intro pins s σ H Q I h;refine IR (X0 I hg hm ?_ hdb);refine W.callWith_K (h₀:=X.base) I.ok.mod.kin M.kp (Kw (ha pos pins s σ H _ I h) λus U ⟨vs,H1,J,r,q⟩=>⟨J.kIn,?_⟩) he hpl;exact Ui M F hr hb hd hx J r q
theorem Bu (M:Mk X.K C f)(F:FnOk X.prog X.w X.K X.mg X.base CX k f fd ps sp)(hr:Room (k+1) X.A)(hg:Gl X x)(hm:X.mg x=some (.ref C))(hb:Binds X.K fd ps ds)(hd:Vals dvs ds)(hx:Xr CX X E)
  (hdb:(x==("__debug__":Str))=false:=by decide):PE X (.Call (.Name x p) [] [] pos) (YG C sp dvs E W0):=by
 intro pins s σ H Q I h;refine IR (X0 I hg hm ?_ hdb);exact W.callWith_K0 I.kIn M.kp (Ui (us:=[]) M F hr hb hd hx I .nil h)
end
structure ZP (N P:List Str)(sc:Scope):Prop where
 kind:sc.kind=.function
 co:sc.isCoroutine=false
 gen:sc.isGenerator=false
 nd:N.Nodup
 pre:N.take P.length=P
 par:∀x∈P,sc.names.lookup x=some .local∨sc.names.lookup x=some .cell
 nofree:∀y∈sc.names,y.2≠.free
theorem K5 {kindOf}{x}:∀{binds}{m},(∀v,(x,v)∉binds)->bindL kindOf binds m x=m x
 | [],_,_=>rfl
 | (n,v)::r,m,h=>by
  unfold bindL;rw[K5 λw J=>h w (AE _ J)];split
  ·have:x≠n:=by rintro rfl;exact h v AH
   simp[this]
  ·rfl
theorem K7 {kindOf}{x}:∀{binds}{m},(∀v,(x,v)∉binds)->bindC kindOf binds m x=m x
 | [],_,_=>rfl
 | (n,v)::r,m,h=>by
  unfold bindC;rw[K7 λw J=>h w (AE _ J)];split
  ·rfl
  ·have:x≠n:=by rintro rfl;exact h v AH
   simp[this]
theorem K6 {kindOf}{x}{v}:∀{P:List Str}{vs}{i:Nat}{m:Str->Option Value},P.Nodup->P[i]?=some x->vs[i]?=some v->kindOf x=some .local ->
  bindL kindOf (P.zip vs) m x=some v
 | [],_,_,_,_,h,_,_=>by simp at h
 | _::_,[],_,_,_,_,h,_=>by simp at h
 | p::P,w::vs,0,m,nd,h1,h2,hk=>by
  simp at h1 h2;subst h1;subst h2;show bindL kindOf ((p,w)::P.zip vs) m p=_;unfold bindL;rw[K5 λv J=>(II.mp nd).1 (List.of_mem_zip J).1,An hk];simp
 | p::P,w::vs,i+1,m,nd,h1,h2,hk=>by
  show bindL kindOf ((p,w)::P.zip vs) m x=_;unfold bindL;exact K6 (i:=i) (II.mp nd).2 (by simpa using h1) (by simpa using h2) hk
theorem K8 {kindOf}{x}{v}:∀{P:List Str}{vs}{i:Nat}{m:Str->Option Value},P.Nodup->P[i]?=some x->vs[i]?=some v->kindOf x≠some .local ->
  bindC kindOf (P.zip vs) m x=some v
 | [],_,_,_,_,h,_,_=>by simp at h
 | _::_,[],_,_,_,_,h,_=>by simp at h
 | p::P,w::vs,0,m,nd,h1,h2,hk=>by
  simp at h1 h2;subst h1;subst h2;show bindC kindOf ((p,w)::P.zip vs) m p=_;unfold bindC;rw[K7 λv J=>(II.mp nd).1 (List.of_mem_zip J).1,Am hk];simp
 | p::P,w::vs,i+1,m,nd,h1,h2,hk=>by
  show bindC kindOf ((p,w)::P.zip vs) m x=_;unfold bindC;exact K8 (i:=i) (II.mp nd).2 (by simpa using h1) (by simpa using h2) hk
def start (N:List Str)(vs:List V):St:=vs.map some++List.replicate (N.length-vs.length) none
def YE (CX:CXT)(P:Program)(w:World)(K:W.Frag)(mg:Str->Option Value)(base:Heap)(N:List Str)(qual:Str)(scope:Scope)(f:Addr)(cd:Value)(A:Around)(outer:List Env)(s:Shared)(H:Hp)(E:XK):Cx where
 prog:=P
 w:=w
 K:=K
 mg:=mg
 base:=base
 A:=A.deeper (envOfC qual scope s.heap.objs.size f cd)
 N:=N
 s₀:=s
 H₀:=H
 env:=envOfC qual scope s.heap.objs.size f cd
 outer:=outer
 stack:=envOfC qual scope s.heap.objs.size f cd::outer
 ex:=[]
 calm:=true
 fn:=λ_=>true
 pn:=[]
 xe:=λe s'=>wpAny (model P w) (A.deeper (envOfC qual scope s.heap.objs.size f cd)) (leaving (envOfC qual scope s.heap.objs.size f cd) e) (λ_ J=>CX outer H s E e J) (λU J=>CX outer H s E U J) s'
theorem UZ {sc:Scope}(h:sc.names.lookup x=some .cell):∃c,(cellsFrom n sc.names []).lookup x=some c:=by
 have q:=W.cellsFrom_some sc.names n [] (.inl h);exact Option.isSome_iff_exists.mp q
theorem MQ {CX}{N}{f}{cd}{s1}{H}{E}{vs} 
  (S:ZP N ps scope) (hd:A.handled=none) (e0:Env0 P w K mg base A outer s H) (hl:vs.length=ps.length) (r:Vals vs us)
  (x:InCallC s s.heap.objs.size (bindL (envOfC qual scope s.heap.objs.size f cd).kindOf (ps.zip us) λ_=>none) (cellsFrom (s.heap.objs.size+1) scope.names []) (bindC (envOfC qual scope s.heap.objs.size f cd).kindOf (ps.zip us) λ_=>none) s1) :
  Inv (YE CX P w K mg base N qual scope f cd A outer s H E) [] (start N vs) H s1:=by
 have a4:ps.length<=N.length:=by have:=congrArg List.length S.pre;rw[Ig] at this;omega
 obtain⟨h1,tk,rfl,hk⟩:=x.done;have U:∀b:Addr,b∉(YE CX P w K mg base N qual scope f cd A outer s H E).ex:=λb z=>absurd (show b∈([]:List Addr) from z) (by simp)
 refine⟨⟨e0.mod,S.kind,rfl,rfl,Au _,λy z c h1 h2=>?_,λy J=>?_,λy c _ h=>?_,λ_=>hd,Around.frames_deeper e0.frames,.inr ⟨rfl,rfl⟩,λb z=>absurd z (U b),e0.bs,e0.bsz,λb _ _=>U b,λb z=>absurd z (U b),e0.funs,e0.frf⟩,
  rfl,e0.bare,Un.kept hk,⟨_,x.toInCall.ns,λi y v h1 h2 h3=>?_⟩,λy c h=>⟨_,x.cell y c h⟩,e0.hok.fresh (Au _),λy c h=>?_,λp hp=>absurd (show p∈([]:List (Addr×Obj)) from hp) (by simp),e0.hok.kept hk,?_⟩
 ·exact name_of_addr x.apart (IY h1) (IY h2)
 ·have J:scope.names.lookup y=some .cell∨scope.names.lookup y=some .free:=J;rcases J with J|J
  ·exact UZ J
  ·exact absurd rfl (S.nofree _ (IY J))
 ·exact pJ (x.above y c (IY h))
 ·have hi:i<vs.length:=by
   unfold start at h2;by_cases hi:i<vs.length
   ·exact hi
   ·rw[Ib (by simpa using hi)] at h2;rw[List.getElem?_replicate] at h2;split at h2<;>cases h2
  have ha:vs[i]?=some v:=by
   unfold start at h2;rw[A7 (by simpa using hi),AS] at h2;cases e:vs[i]? with
   | none=>rw[e] at h2;cases h2
   | some a=>rw[e] at h2;cases h2;rfl
  obtain⟨u,hu,rv⟩:=r.get ha;have hp:ps[i]?=some y:=by
   rw [<-S.pre,List.getElem?_take_of_lt (by omega)];exact h1
  have a0:ps.Nodup:=by rw [<-S.pre];exact S.nd.sublist (List.take_sublist _ _)
  refine⟨u,rv,?_⟩;rcases S.par y (AG hp) with k|k
  ·exact .inl ⟨k,K6 a0 hp hu k⟩
  ·obtain⟨c,e⟩:=UZ (n:=s.heap.objs.size+1) k;refine .inr ⟨.inl k,c,e,?_⟩;have q:=x.cell y c e;rw[K8 a0 hp hu (by show scope.names.lookup y≠_;rw[k];decide)] at q;exact q
 ·exact e0.hok.fresh (pJ (x.above y c (IY h)))
 ·unfold start;show _=N.length;rw[Aq,As,List.length_replicate];omega
theorem B5 {CX}{k:Nat}{f}{name}{params}{dV kV ct} 
  {osl} {N ps} {sp} (lk:K.lookup f=some ⟨oc,od,.func (W.fnOf name qual params body scope dV kV doc pm an cdv ct),osl⟩) (hcd:W.codeIn K cdv qual=true) (S:ZP N ps scope)
  (len:∀vs H Q E,sp vs H Q E->vs.length=ps.length)
  (hbody:∀(A:Around) (outer:List Env) (s:Shared) (H:Hp) (vs:List V) (Q:VK) (E:XK),Room k (A.deeper (envOfC qual scope s.heap.objs.size f cdv))->sp vs H Q E ->
   ∃t,PSs (YE CX P w K mg base N qual scope f cdv A outer s H E) body t/\t { nx:=λ_ H'=>Q .non H',rt:=Q } (start N vs) H) :
  FnOk P w K mg base CX (k+1) f (W.fnOf name qual params body scope dV kV doc pm an cdv ct) ps sp:=by
 refine⟨len,λA outer s H a5 us vs Q E hr e0 hb r a0=>?_⟩;have hl:=len _ _ _ _ a0;have KX:K.In s.heap:=e0.mod.kin.keeps λb o e=>(e0.bs b o e).1
 have a4:s.heap.NoLimit:=e0.mod.nolimit.keeps λb o e=>(e0.bs b o e).1
 have U:∀y∈ps.zip us,scope.names.lookup y.1=some .local∨(scope.names.lookup y.1=some .cell/\((cellsFrom (s.heap.objs.size+1) scope.names []).lookup y.1).isSome=true):=λ⟨n,v⟩ hy=>by
  rcases S.par n (List.of_mem_zip hy).1 with q|q
  ·exact .inl q
  ·exact .inr ⟨q,W.cellsFrom_some _ _ _ (.inl q)⟩
 refine codeAny_call_function hr.depth (KX _ _ lk) rfl S.co S.gen rfl (W.codeRec_of KX hcd) (hb _ _ _ _ ?_);refine wpAny_newFunctionEnv_cells S.kind U λenv he s1 x=>?_
 subst he;refine⟨a4.keeps x.toInCall.keep,codeAny_func ?_⟩;obtain⟨t,ht,hq⟩:=hbody A outer s H vs Q E (hr.deeper _) a0;have I:Inv (YE CX P w K mg base N qual scope f cdv A outer s H E) [] (start N vs) H s1:=MQ S hr.hd e0 hl r x;refine A9 (ht [] s1 (start N vs) H _ I hq) (λfl s' hs=>?_) λe s' hs=>hs
 have fin:∀{σ':St} {H':Hp} {v:V} {u:Value},Inv (YE CX P w K mg base N qual scope f cdv A outer s H E) [] σ' H' s'->RelV v u->Q v H'->CE outer P w H s Q u s':=
  λ{σ' H' v u} J rv q=>⟨v,H',J.os,J.bare,J.base,J.hok,rv,q⟩
 cases fl with
 | ret u=>
  obtain⟨v,σ',H',J,rv,q⟩:=hs;exact fin J rv q
 | next=>
  obtain⟨σ',H',J,q⟩:=hs;exact fin (v:=V.non) (u:=Value.none) J rfl q
 | brk=>
  obtain⟨_,_,_,q⟩:=hs;exact Gh q
 | cont=>
  obtain⟨_,_,_,q⟩:=hs;exact Gh q
section
variable {X:Cx} {x:Str} {p pos:Pos} {e:Expr} {es:List Expr} {t:TA} {id T:String} {r:List V->Hp->VK->Prop}
def pU (r:List V->Hp->VK->Prop)(t:TA):TE:=λσ H Q=>t σ H λvs H1=>r vs H1 Q
theorem QC (hc:CallR X (.builtin id) r)(hg:Gl X x)(hm:X.mg x=none)(hv:bootBuiltins x=some (.builtin id))(ha:PA X (e::es) t)(hn:x≠"__name__":=by decide)(hdb:(x==("__debug__":Str))=false:=by decide)
  (he:starEach (e::es) X.env=(false,eval e X.env)::starEach es X.env:=by rfl) (hpl:(backTo pos (starEach es X.env)).any (·.1)=false:=by rfl):PE X (.Call (.Name x p) (e::es) [] pos) (pU r t):=by
 intro pins s σ H Q I h;refine IR (WH I hg hm hv ?_ hn hdb);exact PyProof.Rows.callWith_builtin1 (Kw (ha pos pins s σ H _ I h) λus s1 ⟨vs,H1,J,U,q1⟩=>hc pins s1 σ H1 vs us Q J U q1) he hpl
theorem QD (hc:CallR X (.type T) r)(hg:Gl X x)(hm:X.mg x=none)(hv:bootBuiltins x=some (.type T))(ha:PA X (e::es) t)(hn:x≠"__name__":=by decide)(hdb:(x==("__debug__":Str))=false:=by decide)
  (he:starEach (e::es) X.env=(false,eval e X.env)::starEach es X.env:=by rfl) (hpl:(backTo pos (starEach es X.env)).any (·.1)=false:=by rfl):PE X (.Call (.Name x p) (e::es) [] pos) (pU r t):=by
 intro pins s σ H Q I h;refine IR (WH I hg hm hv ?_ hn hdb);exact pH (Kw (ha pos pins s σ H _ I h) λus s1 ⟨vs,H1,J,U,q1⟩=>hc pins s1 σ H1 vs us Q J U q1) he hpl
end
end L2
variable {f a c b h e v y d:L2.V}{g:L2.TG}{xs vs ys cvs:List L2.V}{H H' H1 H2 H0:L2.Hp}{o:L2.HO}{Q:L2.VK}{X:L2.Cx}{ta te te0 te1 te2:L2.TE}{tb:L2.TS}{σ σ0:L2.St}{R:L2.It->L2.Hp->Prop}{wi:L2.TI}{CX:L2.CXT}{tt:L2.TT}{kvs:List (L2.Key×L2.V)}
namespace HT
open PySem PyProof.Rows
section
variable {prog:Program} {w:World} {A:Around} {E:Value->Shared->Prop} {s:Shared}
theorem cat_tup {t b}{vs ws}{Q}(ht:IsTup s.heap t vs.toArray)(hb:IsTup s.heap b ws.toArray)(hv:vs≠[])
  (h1:ws=[]->Q (.ref t) s) (h2:ws≠[]->Q (.ref s.heap.objs.size) { s with heap:=s.heap.push { cls:=.type "tuple",data:=.seq (vs++ws).toArray } })
  (hsz:vs.length+ws.length<=sizeLine):wpAny (model prog w) A (binaryOp .Add (.ref t) (.ref b)) Q E s:=by
 obtain⟨⟨cls,dd,data,sl⟩,ho,hc,n,hd⟩:=id ht;obtain⟨⟨a6,U,a5,oM⟩,J,a4,n2,a0⟩:=id hb;simp only at hc hd a4 a0;subst hc hd a4 a0;have e:vs.toArray++ws.toArray=(vs++ws).toArray:=by simp
 by_cases hw:ws=[]
 ·exact concat_meets ⟨_,ho,rfl⟩ ⟨_,J,rfl⟩ noFill_tuple_add seq_tuple_add PySem.F.slot_tuple_add PySem.F.entry_tuple_add (PySem.F.args_tuple_add_2 _ _)
   (tuple_addW1 t b vs.toArray ws.toArray n n2 dd U sl oM (by simpa using hv) (by simp[hw])) ⟨ho,J,h1 hw⟩
 ·refine concat_meets ⟨_,ho,rfl⟩ ⟨_,J,rfl⟩ noFill_tuple_add seq_tuple_add PySem.F.slot_tuple_add PySem.F.entry_tuple_add (PySem.F.args_tuple_add_2 _ _)
   (tuple_addW2 t b vs.toArray ws.toArray n n2 dd U sl oM (by simpa using hv) (by simpa using hw) (by rw[AR,AR];exact hsz)) ⟨ho,J,?_⟩
  rw[e];exact h2 hw
def sIx (n d:Nat):Option Int->Nat
 | none=>d
 | some v=>if v<0 then(v+(n:Int)).toNat else min v.toNat n
theorem sIx_none (n d:Nat):sIx n d none=d:=rfl
theorem sIx_nat (n d k:Nat):sIx n d (some (k:Int))=min k n:=by
 show(if(k:Int)<0 then((k:Int)+(n:Int)).toNat else min (k:Int).toNat n)=min k n;rw[Am (by omega),Int.toNat_natCast]
end
end HT
namespace L2
open PySem PySem.Spec PyProof.Rows
abbrev TO:=St->Hp->(Option Int->Hp->Prop)->Prop
def PO (X:Cx)(e:Option Expr)(t:TO):Prop:=
 ∀(pins:List (Addr×Obj)) (s:Shared) (σ:St) (H:Hp) (Q:Option Int->Hp->Prop),Inv X pins σ H s->t σ H Q ->
  wpAny (model X.prog X.w) X.A (evalPart e X.env) (λu s'=>∃o H',Inv X pins σ H' s'/\IsPart u o/\Q o H') X.xe s
def Nk:TO:=λ_ H Q=>Q none H
def T9 (t:TE):TO:=λσ H Q=>t σ H λx H1=>∃i,x=.int i/\Q (some i) H1
theorem GR {ns}:∀{us},Vals (ns.map V.int) us->IntsAre us ns:=by
 induction ns with
 | nil=>intro us r;rw[List.map_nil] at r;cases r;exact .nil
 | cons n ns J=>
  intro us r;rw[A3] at r;cases r with
  | cons U r2=>
   obtain⟨t,e⟩:=U;subst e;exact .cons n t (J r2)
section
variable {X:Cx} {e:Expr} {te:TE} {lo hi:Option Expr} {tl th:TO} {pos p2:Pos}
theorem Xy:PO X none Nk:=by
 intro pins s σ H Q I h;rw[evalPart_none];exact AM ⟨none,H,I,.none,h⟩
theorem ZA (h:PE X e te):PO X (some e) (T9 te):=by
 intro pins s σ H Q I U;rw[evalPart_some];refine Kw (h pins s σ H _ I U) λu s1 ⟨x,H1,I1,r1,J⟩=>?_
 obtain⟨i,rfl,q⟩:=J;obtain⟨t,rfl⟩:=r1;exact⟨some i,H1,I1,.int i t,q⟩
def qO (X:Cx)(r:V->Option Int->Option Int->Hp->VK->Prop):Prop:=
 ∀(pins:List (Addr×Obj)) (s:Shared) (σ:St) (H:Hp) (x:V) (v vl vu:Value) (lo hi:Option Int) (sl:Addr) (Q:VK),Inv X pins σ H s->RelV x v->s.heap.IsSliceOf sl vl vu .none->IsPart vl lo->IsPart vu hi->r x lo hi H Q ->
  ∃T id,typeLookup (.type T) "__getitem__"=pure (some (.builtin id))/\s.TypeIs v T/\wpAny (model X.prog X.w) X.A (getItem v (.ref sl)) (EP X pins σ Q) X.xe s
def qc (r:V->Option Int->Option Int->Hp->VK->Prop)(te:TE)(tl th:TO):TE:=λσ H Q=>te σ H λx H1=>tl σ H1 λl H2=>th σ H2 λu H3=>r x l u H3 Q
theorem Zy {r}(hr:qO X r)(he:PE X e te)(hl:PO X lo tl)(hu:PO X hi th):PE X (.Subscript e (.Slice lo hi none p2) pos) (qc r te tl th):=by
 intro pins s σ H Q I h;refine Subscript_ (Kw (he pins s σ H _ I h) λv s1 ⟨x,H1,I1,r1,q1⟩=>?_);refine wpAny_Slice (Kw (hl pins s1 σ H1 _ I1 q1) λvl s2 ⟨l,H2,I2,pl,q2⟩=>Kw (hu pins s2 σ H2 _ I2 q2) λU J ⟨u,H3,I3,pu,q3⟩=>?_);rw[evalPart_none];refine AM ?_;have I4:Inv X pins σ H3 { J with heap:=J.heap.push { cls:=.type "slice",data:=.fields #[vl,U,.none] } }:=I3.kept (t':=J.toks) λb ob q=>AI _ q
 obtain⟨T,id,hT,ht,hg⟩:=hr pins { J with heap:=J.heap.push { cls:=.type "slice",data:=.fields #[vl,U,.none] } } σ H3 x v vl U l u J.heap.objs.size Q I4 r1 (Heap.IsSliceOf.new ..) pl pu q3;show wpAny (model X.prog X.w) X.A (subscriptTail e (.Slice lo hi none p2) v (.ref J.heap.objs.size)) (EP X pins σ Q) X.xe { J with heap:=J.heap.push { cls:=.type "slice",data:=.fields #[vl,U,.none] } };exact tail_any (ops:=[.ref J.heap.objs.size,v]) ht hT hg (by with_unfolding_all rfl)
def Yp (xs:List V)(lo hi:Option Int):List V:=(xs.drop (HT.sIx xs.length 0 lo)).take (HT.sIx xs.length xs.length hi-HT.sIx xs.length 0 lo)
theorem UV (xs)(lo hi):(Yp xs lo hi).length<=xs.length:=by
 unfold Yp;rw[Ig,IS];omega
def Bj (K:W.Frag):R2:=λx y H Q=>∃a b xs ys,x=.ref a/\y=.ref b/\Kt K H a xs/\Kt K H b ys/\xs≠[]/\xs.length+ys.length<=sizeLine /\
 (ys=[]->Q (.ref a) H)/\(ys≠[]->∀p,H p=none->Q (.ref p) (upd H p (.tup (xs++ys))))
theorem Vals.nil_iff (r:Vals xs us):us=[]↔xs=[]:=by
 cases r with
 | nil=>simp
 | cons _ _=>simp
theorem P0:OpR X (binaryOp .Add) (Bj X.K):=by
 intro pins s σ H x y v u Q I rx ry h;obtain ⟨a,b,xs,ys,rfl,rfl,ha,hb,hx,hz,q1,q2⟩:=h;cases rx;cases ry;obtain ⟨its,U,p1,_⟩:=I.tuple ha;obtain ⟨a0,J,p2,_⟩:=I.tuple hb;refine HT.cat_tup p1 p2 (fun z=>hx (U.nil_iff.mp z)) (fun z=>⟨.ref a,H,I,rfl,q1 (J.nil_iff.mp z)⟩) (fun z=>?_) (by rw [<-U.length,<-J.length];exact hz);refine ⟨.ref s.heap.objs.size,_,I.laid (t':=s.toks) (o:=.tup (xs++ys)) (fun b ob q=>AI _ q) (Au _) ?_,rfl,q2 (fun w=>z (J.nil_iff.mpr w)) _ (I.hok.fresh (Au _))⟩;exact ⟨by rw [Aq];exact hz,_,U.append J,IsTup.new _ _⟩
end
def mz (n:Nat)(i:Int):Option Nat:=if 0<=i then(if i<n then some i.toNat else none) else if -(n:Int)<=i then some (i+n).toNat else none
def Nd (xs:List α)(i:Int):Option α:=(mz xs.length i).bind λj=>xs[j]?
theorem Td {i:Int}(h:mz n i=some j):seqIndex? i n=some j/\j<n/\-(n:Int)<=i/\i<n:=by
 unfold mz at h;by_cases J:0<=i
 ·rw[An J] at h;by_cases h1:i<n
  ·rw[An h1] at h;have e:i.toNat=j:=AO h;exact⟨by rw[seqIndex_of J h1,e],by omega,by omega,h1⟩
  ·rw[Am h1] at h;cases h
 ·rw[Am J] at h;by_cases h1:-(n:Int)<=i
  ·rw[An h1] at h;have e:(i+n).toNat=j:=AO h;exact⟨by rw[seqIndex_neg (by omega) h1,e],by omega,h1,by omega⟩
  ·rw[Am h1] at h;cases h
theorem VU {xs:List α}{i:Int}{v:α}(h:Nd xs i=some v):∃j,seqIndex? i xs.length=some j/\xs[j]?=some v/\j<xs.length/\-(xs.length:Int)<=i/\i<xs.length:=by
 unfold Nd at h;cases e:mz xs.length i with
 | none=>rw[e] at h;cases h
 | some j=>
  rw[e] at h;obtain⟨h1,h2,J,U⟩:=Td e;exact⟨j,h1,h,h2,J,U⟩
theorem QZ {xs:List α}{v:α}(h:xs[j]?=some v):Nd xs (j:Int)=some v:=by
 have J:j<xs.length:=(AU.mp h).1;have e:mz xs.length (j:Int)=some j:=by
  unfold mz;rw[An (by omega),An (by omega)];simp
 unfold Nd;rw[e];exact h
theorem Q4 (xs)(v:α):Nd (xs++[v]) (-1)=some v:=by
 have J:(xs++[v]).length=xs.length+1:=by simp
 have e:mz (xs++[v]).length (-1)=some xs.length:=by
  unfold mz;rw[J,Am (by decide),An (by omega)]
  congr 1
  omega
 unfold Nd;rw[e];show(xs++[v])[xs.length]?=some v;simp
def Mm (b:Expr):Prop:=∀o i,subscripted b false o i=operate [o,i] (getItem o i)
def IxR (X:Cx)(r:R2):Prop:=
 ∀(value slice:Expr) (pins:List (Addr×Obj)) (s:Shared) (σ:St) (H:Hp) (x y:V) (v u:Value) (Q:VK),Inv X pins σ H s->RelV x v->RelV y u->r x y H Q ->
  subscripted slice false v u=operate [v,u] (getItem v u)->wpAny (model X.prog X.w) X.A (subscriptTail value slice v u) (EP X pins σ Q) X.xe s
def nI (X:Cx)(id:String)(r:V->List V->Hp->VK->Prop):Prop:=
 ∀(pins:List (Addr×Obj)) (s:Shared) (σ:St) (H:Hp) (x:V) (xs:List V) (v:Value) (us:List Value) (Q:VK),Inv X pins σ H s->RelV x v->Vals xs us->r x xs H Q ->
  wpAny (model X.prog X.w) X.A (call (.builtin id) (v::us)) (EP X pins σ Q) X.xe s
section
variable {X:Cx} {a b:Expr} {ta tb:TE} {pos:Pos}
theorem IxR.or {r r'}(h:IxR X r)(h':IxR X r'):IxR X (λx y H Q=>r x y H Q∨r' x y H Q):=by
 intro value J pins s σ H x y v u Q I rx U q hs;rcases q with q|q
 ·exact h value J pins s σ H x y v u Q I rx U q hs
 ·exact h' value J pins s σ H x y v u Q I rx U q hs
theorem D3 {r}(hr:IxR X r)(ha:PE X a ta)(hb:PE X b tb)(hs:Mm b):PE X (.Subscript a b pos) (OK r ta tb):=by
 intro pins s σ H Q I h;exact Subscript_ (Ef ha hb I h λv u U x y H2 I2 rx J q=>hr a b pins U σ H2 x y v u Q I2 rx J q (hs _ _))
def DY (K:W.Frag):R2:=λx y H Q=>∃p xs i v,x=.ref p/\y=.int i/\Kv K H p xs/\Nd xs i=some v/\Q v H
def DW (K:W.Frag):R2:=λx y H Q=>∃p xs i v,x=.ref p/\y=.int i/\Kt K H p xs/\Nd xs i=some v/\Q v H
def DX:R2:=λx y H Q=>∃z i c,x=.str z/\y=.int i/\z.length<=sizeLine/\Nd z.cps.toList i=some c/\Q (.str ⟨#[c]⟩) H
theorem ix_list:IxR X (DY X.K):=by
 intro value U pins s σ H x y v u Q I rx ry h hs;obtain⟨p,xs,i,z,rfl,rfl,hq,he,q⟩:=h;cases rx;obtain⟨t,rfl⟩:=ry;obtain⟨its,r,pl,hz⟩:=I.list hq;obtain⟨j,h1,h2,h3,h4,h5⟩:=VU he;obtain⟨w,ew,a0⟩:=r.get h2;have hl:=r.length;have hn:=JJ;have fin:EP X pins σ Q w s:=⟨z,H,I,a0,q⟩
 by_cases h0:0<=i
 ·have J:i.toNat=j:=by
   rw[seqIndex_of h0 h5] at h1;exact AO h1
  exact item_listR pl.isList h0 (by omega) (by rw[J];simpa using ew) fin hs
 ·have J:(i+(its.toArray.size:Int)).toNat=j:=by
   rw[seqIndex_neg (by omega) h4] at h1;rw[AR,<-hl];exact AO h1
  exact subscriptTail_builtinR (x:=w) pl.isList.typeIs slot_list_getitem.lookup
   (wpAny_getItem_list_neg (Q:=λr s'=>r=w/\EP X pins σ Q r s') pl.isList (by omega) (by rw[AR]<;>omega) (by omega) (by rw[J];simpa using ew) ⟨rfl,fin⟩) hs
theorem ix_tup:IxR X (DW X.K):=by
 intro value J pins s σ H x y v u Q I rx ry h hs;obtain⟨p,xs,i,z,rfl,rfl,hq,he,q⟩:=h;cases rx;obtain⟨t,rfl⟩:=ry;obtain⟨its,r,pl,hz⟩:=I.tuple hq;obtain⟨j,h1,h2,h3,h4,h5⟩:=VU he;obtain⟨w,ew,U⟩:=r.get h2;have hl:=r.length;have hn:=JJ;have fin:EP X pins σ Q w s:=⟨z,H,I,U,q⟩
 exact subscriptTail_builtinR (x:=w) pl.typeIs slot_tuple_getitem.lookup
  (getItem_tuple (j:=j) (Q:=λr s'=>r=w/\EP X pins σ Q r s') pl (by omega) (by omega) (by rw[AR,<-hl];exact h1) (by simpa using ew) ⟨rfl,fin⟩) hs
theorem FT:IxR X DX:=by
 intro value J pins s σ H x y v u Q I rx U h hs;obtain⟨z,i,c,rfl,rfl,hz,he,q⟩:=h;obtain⟨t,rfl⟩:=rx;obtain⟨t',rfl⟩:=U;obtain⟨j,h1,h2,h3,h4,h5⟩:=VU he;have hl:z.cps.toList.length=z.length:=by simp[Str.length]
 rw[hl] at h1 h4 h5;have hn:=JJ;exact tail_any (typeIs_str s z t) slot_str_getitem.lookup (getItem_str (c:=c) (by
  have e1:decide (i < -(2 ^ 63:Int))=false:=AV (by omega);have e2:decide (i≥2 ^ 63)=false:=AV (by omega);rw[e1,e2,Bool.or_false]) (by rw[h1];simpa using h2) ⟨.str ⟨#[c]⟩,H,I.tok _,⟨_,rfl⟩,q⟩) hs
def lF (K:W.Frag):R2:=λx y H Q=>DY K x y H Q∨DW K x y H Q∨DX x y H Q
theorem FU:IxR X (lF X.K):=ix_list.or (ix_tup.or FT)
theorem Vm (lo hi)(n:Nat):(sliceBounds lo hi none n).1=((HT.sIx n 0 lo:Nat):Int)/\(sliceBounds lo hi none n).2.1=((HT.sIx n n hi:Nat):Int)/\(sliceBounds lo hi none n).2.2=1:=by
 refine⟨?_,?_,rfl⟩
 ·cases lo with
  | none=>simp[sliceBounds,HT.sIx]
  | some i=>
   simp only[sliceBounds,HT.sIx,Option.getD_none,show(1:Int) > 0 by decide,if_true];by_cases h:i<0
   ·simp only[h,if_true]<;>omega
   ·simp only[h,if_false]<;>omega
 ·cases hi with
  | none=>simp[sliceBounds,HT.sIx]
  | some i=>
   simp only[sliceBounds,HT.sIx,Option.getD_none,show(1:Int) > 0 by decide,if_true];by_cases h:i<0
   ·simp only[h,if_true]<;>omega
   ·simp only[h,if_false]<;>omega
theorem KA (its:List Value)(lo hi):slicePick its.toArray lo hi none=((its.drop (HT.sIx its.length 0 lo)).take (HT.sIx its.length its.length hi-HT.sIx its.length 0 lo)).toArray:=by
 obtain⟨h1,h2,J⟩:=Vm lo hi its.toArray.size;unfold slicePick;rw[h1,h2,J];simp only[sliceRange_one,pick_run,AR]<;>rfl
def HY (K:W.Frag):V->Option Int->Option Int->Hp->VK->Prop:=λx lo hi H Q=>∃a xs,x=.ref a/\Kv K H a xs/\∀p,H p=none->Q (.ref p) (upd H p (.lst (Yp xs lo hi)))
theorem Pb:qO X (HY X.K):=by
 intro pins s σ H x v vl vu lo hi sl Q I rx hs pl pu h;obtain⟨a,xs,rfl,hx,q⟩:=h;cases rx;obtain⟨its,r,U,hz⟩:=I.list hx;have J:=r.length;refine⟨"list",_,slot_list_getitem.lookup,U.isList.typeIs,?_⟩;refine wpAny_getItem_list_slice U.isList hs pl pu .none (by simp) ?_ (by rw[AR]<;>omega);rw[KA,<-J];refine⟨.ref s.heap.objs.size,_,I.laid (t':=s.toks) (o:=.lst (Yp xs lo hi)) (λb ob q=>AI _ q) (Au _) ?_,rfl,q _ (I.hok.fresh (Au _))⟩;exact⟨A4 (UV xs lo hi) hz,_,0,(r.drop (HT.sIx xs.length 0 lo)).take (HT.sIx xs.length xs.length hi-HT.sIx xs.length 0 lo),Ia _ rfl⟩
def Wl:V->Bool
 | .non=>true
 | .bl _=>true
 | .int _=>true
 | .str _=>true
 | _=>false
def l9:V->V->Bool
 | .non,.non=>true
 | .bl a,.bl b=>a==b
 | .bl a,.int b=>(if a then 1 else 0)==b
 | .int a,.bl b=>a==(if b then 1 else 0)
 | .int a,.int b=>a==b
 | .str a,.str b=>a==b
 | _,_=>false
theorem Ea {x}{v}(ry:RelV y u)(rx:RelV x v)(fy:Wl y=true)(fx:Wl x=true):SeqAt.EqAt A s u v (l9 y x):=by
 cases y with
 | non=>
  cases ry;cases x with
  | non=>cases rx;exact SeqAt.EqAt.same _
  | bl b=>cases rx;exact SeqAt.EqAt.none_bool b
  | int b=>obtain⟨t,rfl⟩:=rx;exact SeqAt.EqAt.none_int b t
  | str b=>obtain⟨t,rfl⟩:=rx;exact SeqAt.EqAt.none_str b t
  | _=>exact absurd (show false=true from fx) A2
 | bl a=>
  cases ry;cases x with
  | non=>cases rx;exact SeqAt.EqAt.bool_none a
  | bl b=>cases rx;exact SeqAt.EqAt.bool_bool a b
  | int b=>obtain⟨t,rfl⟩:=rx;exact SeqAt.EqAt.bool_int a b t
  | str b=>obtain⟨t,rfl⟩:=rx;exact SeqAt.EqAt.bool_str a b t
  | _=>exact absurd (show false=true from fx) A2
 | int a=>
  obtain⟨t',rfl⟩:=ry;cases x with
  | non=>cases rx;exact SeqAt.EqAt.int_none a t'
  | bl b=>cases rx;exact SeqAt.EqAt.int_bool a t' b
  | int b=>obtain⟨t,rfl⟩:=rx;exact SeqAt.EqAt.int_int a t' b t
  | str b=>obtain⟨t,rfl⟩:=rx;exact SeqAt.EqAt.int_str a t' b t
  | _=>exact absurd (show false=true from fx) A2
 | str a=>
  obtain⟨t',rfl⟩:=ry;cases x with
  | non=>cases rx;exact SeqAt.EqAt.str_none a t'
  | bl b=>cases rx;exact SeqAt.EqAt.str_bool a t' b
  | int b=>obtain⟨t,rfl⟩:=rx;exact SeqAt.EqAt.str_int a t' b t
  | str b=>obtain⟨t,rfl⟩:=rx;exact SeqAt.EqAt.str_str a t' b t
  | _=>exact absurd (show false=true from fx) A2
 | _=>exact absurd (show false=true from fy) A2
def OV (x:V)(u:Value):Bool:=match u with
 | .none=>l9 .non x
 | .bool b=>l9 (.bl b) x
 | .int i _=>l9 (.int i) x
 | .str z _=>l9 (.str z) x
 | _=>false
theorem Re {x}(r:RelV y u)(f:Wl y=true):OV x u=l9 y x:=by
 cases y with
 | non=>cases r;rfl
 | bl b=>cases r;rfl
 | int i=>obtain⟨t,rfl⟩:=r;rfl
 | str z=>obtain⟨t,rfl⟩:=r;rfl
 | _=>exact absurd (show false=true from f) A2
theorem Wr {x}:∀{xs}{us},Vals xs us->xs.all Wl=true->us.any (OV x)=xs.any λy=>l9 y x
 | _,_,.nil,_=>rfl
 | y::xs,u::us,.cons r t,f=>by
  rw[List.all_cons,Iu] at f;rw[List.any_cons,List.any_cons,Re r f.1,Wr t f.2]
theorem Yi {A}{s}{x}{v}(rx:RelV x v)(fx:Wl x=true):∀{xs}{us:List Value},Vals xs us->xs.all Wl=true->∀u∈us,SeqAt.EqAt A s u v (OV x u)
 | _,_,.nil,_=>λu J=>by cases J
 | y::xs,u::us,.cons r t,f=>λU J=>by
  rw[List.all_cons,Iu] at f;rcases AF.mp J with rfl|J
  ·rw[Re r f.1];exact Ea r rx f.1 fx
  ·exact Yi rx fx t f.2 U J
def oO (x:V)(xs:List V):Bool:=xs.any λy=>l9 y x
def pY (K:W.Frag)(neg:Bool):R2:=λx y H Q=>∃p xs,y=.ref p/\(Kv K H p xs∨Kt K H p xs)/\Wl x=true/\xs.all Wl=true/\Q (.bl (if neg then !oO x xs else oO x xs)) H
theorem op_in_seq:OpR X (compareOp .In) (pY X.K false):=by
 intro pins s σ H x y v u Q I rx ry h;obtain⟨p,xs,rfl,J,fx,fs,q⟩:=h;cases ry;rcases J with J|J
 ·obtain⟨its,r,pl,hz⟩:=I.list J;refine SeqAt.in_listAt (OV x) pl.isList (λw U=>Yi rx fx r fs w (by simpa using U)) ⟨.bl _,H,I,rfl,?_⟩;rw[show its.toArray.any (OV x)=its.any (OV x) by simp,Wr r fs];exact q
 ·obtain⟨its,r,pl,hz⟩:=I.tuple J;refine SeqAt.in_tupleAt (OV x) pl (λw U=>Yi rx fx r fs w (by simpa using U)) ⟨.bl _,H,I,rfl,?_⟩;rw[show its.toArray.any (OV x)=its.any (OV x) by simp,Wr r fs];exact q
theorem op_notIn_seq:OpR X (compareOp .NotIn) (pY X.K true):=by
 intro pins s σ H x y v u Q I rx ry h;obtain⟨p,xs,rfl,J,fx,fs,q⟩:=h;cases ry;rcases J with J|J
 ·obtain⟨its,r,pl,hz⟩:=I.list J;refine SeqAt.notIn_listAt (OV x) pl.isList (λw U=>Yi rx fx r fs w (by simpa using U)) ⟨.bl _,H,I,rfl,?_⟩;rw[show its.toArray.any (OV x)=its.any (OV x) by simp,Wr r fs];exact q
 ·obtain⟨its,r,pl,hz⟩:=I.tuple J;refine SeqAt.notIn_tupleAt (OV x) pl (λw U=>Yi rx fx r fs w (by simpa using U)) ⟨.bl _,H,I,rfl,?_⟩;rw[show its.toArray.any (OV x)=its.any (OV x) by simp,Wr r fs];exact q
theorem CallR.or {f}{r r'}(h:CallR X f r)(h':CallR X f r'):CallR X f (λxs H Q=>r xs H Q∨r' xs H Q):=by
 intro pins s σ H xs us Q I rs q;rcases q with q|q
 ·exact h pins s σ H xs us Q I rs q
 ·exact h' pins s σ H xs us Q I rs q
theorem VS:CallR X (.type "list") (λxs H Q=>∃p ys,xs=[.ref p]/\(Kv X.K H p ys∨Kt X.K H p ys)/\∀l,H l=none->Q (.ref l) (upd H l (.lst ys))):=by
 intro pins s σ H xs us Q I r h;obtain⟨p,ys,rfl,hq,q⟩:=h;obtain⟨u,rfl,rx⟩:=Z1 r;cases rx;have fin:∀(its:List Value),Vals ys its->ys.length<=sizeLine->∀(h':Heap) (J:Nat),(∀b o',s.heap.get? b=some o'->h'.get? b=some o') ->
   h'.get? s.heap.objs.size=some { cls:=.type "list",dict:=none,data:=.seq its.toArray J,slots:=#[] }->EP X pins σ Q (.ref s.heap.objs.size) { s with heap:=h' }:=λits U hz h' J kp e=>
  ⟨.ref s.heap.objs.size,_,I.laid (t':=s.toks) kp (Au _) (show ObjOk X.prog X.w _ h' _ (.lst ys) from⟨hz,its,J,U,e⟩),rfl,q _ (I.hok.fresh (Au _))⟩
 rcases hq with hq|hq
 ·obtain⟨its,U,pl,hz⟩:=I.list hq;have a0:=U.length;obtain⟨o,ho,hc,n,hd⟩:=pl.isList;exact call_list_seq p (.inl rfl) ho hc hd (λh' J kp e=>fin its U hz h' J kp e) (by simp only[AR]<;>omega)
 ·obtain⟨its,U,pl,hz⟩:=I.tuple hq;have a0:=U.length;obtain⟨o,ho,hc,n,hd⟩:=pl;exact call_list_seq p (.inr rfl) ho hc hd (λh' J kp e=>fin its U hz h' J kp e) (by simp only[AR]<;>omega)
theorem KG:CallR X (.type "tuple") (λxs H Q=>∃p ys,xs=[.ref p]/\((Kv X.K H p ys/\∀l,H l=none->Q (.ref l) (upd H l (.tup ys)))∨(Kt X.K H p ys/\Q (.ref p) H))):=by
 intro pins s σ H xs us Q I r h;obtain⟨p,ys,rfl,h⟩:=h;obtain⟨u,rfl,rx⟩:=Z1 r;cases rx;rcases h with ⟨J,q⟩|⟨J,q⟩
 ·obtain⟨its,U,pl,hz⟩:=I.list J;have a0:=U.length;refine call_tuple_list pl.isList (λh' kp=>?_) (by simp only[AR]<;>omega);have I1:Inv X pins σ H { s with heap:=h' }:=I.kept (t':=s.toks) kp;have I2:Inv X pins σ (upd H h'.objs.size (.tup ys)) { s with heap:=h'.push { cls:=.type "tuple",data:=.seq its.toArray } }:=
   I1.laid (t':=s.toks) (λb o e=>AI _ e) (Au _) (show ObjOk X.prog X.w _ _ _ (.tup ys) from⟨hz,its,U,IsTup.new _ _⟩)
  exact⟨.ref h'.objs.size,_,I2,rfl,q _ (I1.hok.fresh (Au _))⟩
 ·obtain⟨its,U,pl,hz⟩:=I.tuple J;exact call_tuple_same pl ⟨.ref p,H,I,rfl,q⟩
def lq (K:W.Frag)(T:String)(x:V)(H:Hp):Prop:=match x with
 | .str _=>T="str"
 | .int _=>T="int"
 | .ref p=>(T="list"/\∃xs,Kv K H p xs)∨(T="tuple"/\∃o,K.lookup p=some o/\o.cls=.type "tuple"/\o.dict=none) ∨
   (T="dict"/\((∃kvs,H p=some (.dK kvs))∨∃kvs,H p=some (.dT kvs)))∨(T="set"/\∃S n,H p=some (.set S n))
 | _=>False
theorem LQ {x}{v}(I:Inv X pins σ H s)(r:RelV x v)(ty:lq X.K T x H) :
  s.TypeIs v T/\∀a,v=.ref a->∃ob,s.heap.get? a=some ob/\ob.dict=none:=by
 cases x with
 | str z=>
  obtain⟨t,rfl⟩:=r;cases(show T="str" from ty);exact⟨typeIs_str s z t,λ_ e=>nomatch e⟩
 | int i=>
  obtain⟨t,rfl⟩:=r;cases(show T="int" from ty);exact⟨typeIs_int s i t,λ_ e=>nomatch e⟩
 | ref p=>
  cases r;rcases ty with ⟨rfl,xs,hq⟩|⟨rfl,o,J,hc,U⟩|⟨rfl,J⟩|⟨rfl,S,n,J⟩
  ·obtain⟨its,_,pl,_⟩:=I.list hq;refine⟨pl.isList.typeIs,λa e=>?_⟩;cases e;obtain⟨o,n,e,c,U,_⟩:=pl;exact⟨o,e,U⟩
  ·refine⟨⟨o,I.kIn p o J,hc⟩,λa e=>?_⟩;cases e;exact⟨o,I.kIn _ o J,U⟩
  ·have z:∃o,s.heap.get? p=some o/\o.ExactDict:=by
    rcases J with ⟨kvs,J⟩|⟨kvs,J⟩
    ·obtain⟨_,_,_,_,o,_,_,e,ex,_⟩:=I.hok p _ J;exact⟨o,e,ex⟩
    ·obtain⟨_,_,_,_,o,_,_,e,ex,_⟩:=I.hok p _ J;exact⟨o,e,ex⟩
   obtain⟨o,e,ex⟩:=z;refine⟨⟨o,e,ex.1⟩,λa e2=>?_⟩;cases e2;exact⟨o,e,ex.2.1⟩
  ·obtain⟨o,_,_,_,e,ex,_⟩:=I.hok p _ J;refine⟨⟨o,e,ex.1⟩,λa e2=>?_⟩;cases e2;exact⟨o,e,ex.2.1⟩
 | _=>exact Gh ty
def HL (K:W.Frag)(T:String)(r:V->List V->Hp->VK->Prop)(to:TE):TE:=λσ H Q=>to σ H λx H1=>lq K T x H1/\r x [] H1 Q
def pV (K:W.Frag)(T:String)(r:V->List V->Hp->VK->Prop)(to:TE)(t:TA):TE:=λσ H Q=>to σ H λx H1=>lq K T x H1/\t σ H1 λxs H2=>r x xs H2 Q
variable {o e:Expr} {es:List Expr} {to:TE} {t:TA} {name:Str} {apos cpos:Pos} {T id:String} {r:V->List V->Hp->VK->Prop}
theorem Fu (pa:PlainAttrs T)(slot:Slot T name id)(hty:typeOf (.builtin id)=pure (.type "method_descriptor"))(hm:nI X id r)(ho:PE X o to)
  (hbase:attributeBase o name X.env (eval o X.env)=eval o X.env:=by rfl) (hline:(apos.endLine==cpos.line)=true:=by rfl):PE X (.Call (.Attribute o name apos) [] [] cpos) (HL X.K T r to):=by
 intro pins s σ H Q I h;refine wpAny_Call_method0_late hbase hline (Kw (ho pins s σ H _ I h) λv s1 ⟨x,H1,J,U,ty,q1⟩=>?_);obtain⟨h1,h2⟩:=LQ J U ty;exact⟨T,id,pa,slot,hty,h1,h2,Calls.callWith_builtin rfl (PySem.evalArgs_none (hm pins s1 σ H1 x [] v [] Q J U .nil q1))⟩
theorem D4 (pa:PlainAttrs T)(slot:Slot T name id)(hty:typeOf (.builtin id)=pure (.type "method_descriptor"))(hm:nI X id r)(ho:PE X o to)(ha:PA X (e::es) t)
  (hbase:attributeBase o name X.env (eval o X.env)=eval o X.env:=by rfl)
  (hfew:((backTo cpos (starEach (e::es) X.env)).all (λx=>!x.1)&&(backToKw cpos (keywordEach [] X.env)).all (λx=>x.1.isSome)
   && decide ((e::es).length+([]:List Keyword).length+(if([]:List Keyword).isEmpty then 0 else 1)<30))=true:=by rfl)
  (hline:(apos.endLine==cpos.line)=true:=by rfl) (hs:starEach (e::es) X.env=(false,eval e X.env)::starEach es X.env:=by rfl) (hplain:(backTo cpos (starEach es X.env)).any (·.1)=false:=by rfl) :
  PE X (.Call (.Attribute o name apos) (e::es) [] cpos) (pV X.K T r to t):=by
 intro pins s σ H Q I h;refine wpAny_Call_method_late hbase hfew hline rfl (Kw (ho pins s σ H _ I h) λv s1 ⟨x,H1,J,U,ty,q1⟩=>?_);obtain⟨h1,h2⟩:=LQ J U ty;refine⟨T,id,pa,slot,hty,h1,h2,?_⟩;have hA:=ha cpos pins s1 σ H1 _ J q1;rw[hs] at hA ⊢;refine Calls.callWith_builtin (by show(false||(backTo cpos (starEach es X.env)).any (·.1))=false;rw[hplain]<;>rfl) (Calls.evalArgs_plain ?_);exact Kw hA λus s2 ⟨vs,H2,I2,r2,q2⟩=>hm pins s2 σ H2 x vs v us Q I2 U r2 q2
end
def qX (X:Cx)(id:String)(r:V->List V->Hp->VK->Prop):Prop:=
 ∀(pins:List (Addr×Obj)) (s:Shared) (σ:St) (H:Hp) (x:V) (xs:List V) (v:Value) (us:List Value) (Q:VK),Inv X pins σ H s->RelV x v->Vals xs us->r x xs H Q ->
  wpAny (model X.prog X.w) X.A (call (.builtin id) (v::us)) (EP X pins σ Q) X.xe s
theorem Vals.one:∀{x}{us},Vals [x] us->∃u,us=[u]/\RelV x u
 | _,_,.cons r .nil=>⟨_,rfl,r⟩
theorem Vals.zero:∀{us},Vals [] us->us=[]
 | _,.nil=>rfl
theorem Vals.dropLast (h:Vals xs us):Vals xs.dropLast us.dropLast:=by
 induction h with
 | nil=>exact .nil
 | cons r t J=>
  cases t with
  | nil=>exact .nil
  | cons q t'=>exact .cons r J
theorem GU (l:List α):l.eraseIdx (l.length-1)=l.dropLast:=by
 induction l with
 | nil=>rfl
 | cons a r J=>
  cases r with
  | nil=>rfl
  | cons b r=>
   have e:(a::b::r).length-1=((b::r).length-1)+1:=by
    have h1:(a::b::r).length=r.length+2:=rfl;have h2:(b::r).length=r.length+1:=rfl;omega
   rw[e,List.eraseIdx_cons_succ,J];all_goals rfl
section
variable {X:Cx} {pins:List (Addr×Obj)} {σ:St} {H:Hp} {s:Shared} {l b:Addr} {xs ys zs:List V}
theorem Inv.lset {its'}{f}(I:Inv X pins σ H s)(hH:H l=some (.lst xs))
  (e:s.heap.get? l=some { cls:=.type "list",data:=.seq its.toArray n }) (hf:f its.toArray=its'.toArray) (hv:Vals ys its') (hz:ys.length<=sizeLine) :
  Inv X pins σ (upd H l (.lst ys)) { s with heap:=s.heap.update l (Obj.mapSeq f),toks:=t' }:=by
 have q:=PySem.IsL.update e f;rw[hf] at q;refine I.write (x:=l) (e:=l) (by rw[hH];exact trivial) (.inl rfl) (λb' u U J=>(Heap.get?_update_other s.heap (Obj.mapSeq f) (Ir U)).trans J) ⟨_,q⟩ ?_;exact⟨hz,its',_,hv,q⟩
theorem Inv.lnew (I:Inv X pins σ H s)(hv:Vals ys its)(hz:ys.length<=sizeLine) :
  Inv X pins σ (upd H s.heap.objs.size (.lst ys)) { s with heap:=s.heap.push { cls:=.type "list",data:=.seq its.toArray },toks:=t' }:=
 I.laid (λ_ _ q=>AI _ q) (Au _) ⟨hz,its,0,hv,Ia _ rfl⟩
theorem Inv.fresh (I:Inv X pins σ H s):H s.heap.objs.size=none:=I.hok.fresh (Au _)
theorem Inv.lstM (I:Inv X pins σ H s)(hH:H l=some (.lst xs)):xs.length<=sizeLine/\∃(its:List Value) (n:Nat),Vals xs its/\xs.length=its.length/\s.heap.get? l=some { cls:=.type "list",data:=.seq its.toArray n }:=by
 obtain⟨z,its,n,r,e⟩:=I.hok l _ hH;exact⟨z,its,n,r,r.length,e⟩
theorem BE (h:n<=sizeLine):Builtin.List.listTooLong n=false:=by
 unfold Builtin.List.listTooLong;exact AV (by omega)
end
section
variable {X:Cx}
def Y9:V->List V->Hp->VK->Prop:=λx vs H Q=>∃l xs y,x=.ref l/\vs=[y]/\H l=some (.lst xs)/\xs.length<sizeLine/\Q .non (upd H l (.lst (xs++[y])))
theorem Qv:qX X "list.append" Y9:=by
 intro pins s σ H x vs v us Q I rx rv h;obtain⟨l,xs,y,rfl,rfl,J,hz,q⟩:=h;cases rx;obtain⟨u,rfl,U⟩:=rv.one;obtain⟨z,its,n,r,hl,e⟩:=I.lstM J;refine call_meets F.slot_list_append ⟨_,e,rfl⟩ F.entry_list_append (F.args_list_append_2 _ _) (PySem.list_append l its.toArray n u (by rw[AR];omega)) ⟨e,?_⟩;refine⟨.non,_,I.lset (its':=its++[u]) J e (by simp) (r.append (.cons U .nil)) ?_,rfl,q⟩;rw[Aq,Av];omega
def NG:V->List V->Hp->VK->Prop:=λx vs H Q=>∃l b xs zs,x=.ref l/\vs=[.ref b]/\H l=some (.lst xs)/\H b=some (.lst zs)/\xs.length+zs.length<=sizeLine/\Q .non (upd H l (.lst (xs++zs)))
theorem ZG:qX X "list.extend" NG:=by
 intro pins s σ H x vs v us Q I rx rv h;obtain⟨l,b,xs,zs,rfl,rfl,hH,hB,hz,q⟩:=h;cases rx;obtain⟨u,rfl,ru⟩:=rv.one;cases ru;obtain⟨z,its,n,r,hl,e⟩:=I.lstM hH;obtain⟨z2,J,n2,r2,a0,e2⟩:=I.lstM hB;have hsz:its.toArray.size+J.toArray.size<=sizeLine:=by rw[AR,AR];omega
 have U:¬(!its.toArray.isEmpty&&Builtin.List.listTooLong (its.toArray.size+J.toArray.size))=true:=by
  rw[BE hsz,IJ];exact A2
 refine call_meets F.slot_list_extend ⟨_,e,rfl⟩ F.entry_list_extend (F.args_list_extend_2 _ _)
  (AutoSeq1.list_extend_list_list_0 l its.toArray n b J.toArray n2 U (by rw[AR];omega) (by omega)) ⟨e,e2,?_⟩
 refine⟨.non,_,I.lset (its':=its++J) hH e (by simp) (r.append r2) ?_,rfl,q⟩;rw[Aq];omega
def C3:V->List V->Hp->VK->Prop:=λx vs H Q=>∃l xs y,x=.ref l/\vs=[]/\H l=some (.lst xs)/\xs[xs.length-1]?=some y/\Q y (upd H l (.lst xs.dropLast))
theorem FI:qX X "list.pop" C3:=by
 intro pins s σ H x vs v us Q I rx rv h;obtain⟨l,xs,y,rfl,rfl,hH,hy,q⟩:=h;cases rx;have J:=rv.zero;subst J;obtain⟨z,its,n,r,hl,e⟩:=I.lstM hH;obtain⟨u,hu,ru⟩:=r.get hy;have U:its.toArray[its.toArray.size-1]?=some u:=by
  show its.toArray[its.length-1]?=some u;rw [<-Array.getElem?_toList,<-hl];exact hu
 refine call_meets F.slot_list_pop ⟨_,e,rfl⟩ F.entry_list_pop (F.args_list_pop_1 _) (MeetsSeq.list_pop_last l its.toArray n u U (by rw[AR];omega)) ⟨e,?_⟩;refine⟨y,_,I.lset (its':=its.dropLast) hH e ?_ r.dropLast ?_,ru,q⟩
 ·show its.toArray.eraseIdxIfInBounds (its.toArray.size-1)=its.dropLast.toArray;rw[AR,List.eraseIdxIfInBounds_toArray,GU]
 ·rw[List.length_dropLast];omega
def Pp:R2:=λx y H Q=>∃l b xs zs,x=.ref l/\y=.ref b/\H l=some (.lst xs)/\H b=some (.lst zs)/\xs.length+zs.length<=sizeLine/\∀p,H p=none->Q (.ref p) (upd H p (.lst (xs++zs)))
theorem FD:OpR X (binaryOp .Add) Pp:=by
 intro pins s σ H x y v u Q I rx ry h;obtain⟨l,b,xs,zs,rfl,rfl,hH,hB,hz,q⟩:=h;cases rx;cases ry;obtain⟨z,its,n,r,hl,e⟩:=I.lstM hH;obtain⟨z2,J,n2,r2,U,e2⟩:=I.lstM hB;refine PySem.P.add_list e e2 ?_ (by rw[AR,AR];omega);have ea:its.toArray++J.toArray=(its++J).toArray:=by simp
 rw[ea];exact⟨.ref _,_,I.lnew (t':=s.toks) (r.append r2) (by rw[Aq];omega),rfl,q _ I.fresh⟩
end
end L2
namespace Att
open PySem PySem.W PySem.Calls PyProof.Rows
theorem W3 {P}{h}:∀ns vs,WellAll P h vs (ns.map WData.int)->IntsAre vs ns:=by
 intro ns
 induction ns with
 | nil=>
  intro vs w;rw[List.map_nil] at w;cases w;exact .nil
 | cons n ns J=>
  intro vs w;rw[A3] at w;cases w with
  | cons a b=>
   cases a;exact .cons _ _ (J _ b)
theorem Mv {l:OpenLaw}(hn:l.most=some n){P:Params}{h:Heap}{args:List WData}{vals:List Value}
  (hpre:l.row.toRowW.claim.pre args=true) (hwl:WellAll P h vals args) :
  ∃a vs ns,vals=[Value.ref a]/\args=[WData.list (ns.map WData.int)]/\h.get? a=some { cls:=.type "list",data:=.seq vs.toArray }/\IntsAre vs ns/\ns.length<=n:=by
 have a0:WShape.hasAll [] args [.list .int]=true:=(pre_splitW hpre).1;have hc:l.pre.holds [] { args:=args }=true:=(pre_splitW hpre).2;obtain⟨d,r,rfl,h1,h2⟩:=hasAllW_cons a0;obtain rfl:=hasAllW_nil h2;obtain⟨xs,rfl,h3⟩:=hasW_list h1;obtain⟨ns,rfl⟩:=items_int h3;have J:ns.length<=n:=by
  unfold OpenLaw.pre at hc;have h4:(WTm.not (.lt (.lit (.int (n:Int))) (.len (.arg 0)))).holds [] { args:=[.list (ns.map .int)] }=true:=by
   have h4:=(holds_andW hc).1;rw[hn] at h4;exact h4
  have h5:=condW_of h4 (w_not (w_lt w_lit (w_len_list (w_arg rfl))));rw[As] at h5;refine Nat.le_of_not_lt λq=>?_
  have q':(n:Int)<((ns.length:Nat):Int):=by omega
  first
   | (rw[A5 q'] at h5;exact absurd h5 (by decide))
   | (simp at h5;omega)
 cases hwl with
 | cons w1 w2=>
  cases w2;cases w1 with
  | list ho U=>exact⟨_,_,ns,rfl,rfl,ho,W3 ns _ U,J⟩
theorem MC (l:OpenLaw)(args):l.row.toRowW.claim.post args (.bool true) args=true:=
 postW_of (r:=l.row.toRowW) (X:=(true==true))
  (show WShape.has [] (.bool true) .bool=true by first|rfl|decide|simp[WShape.has,WShape.arms,WShape.armsAll])
  (show(WTm.eq .res (.lit (.bool true))).value [] { args:=args,res:=some (.bool true),after:=args }=some (.bool (true==true)) from w_eq_bool (w_res rfl) w_lit) rfl
theorem attach_call {l:OpenLaw}{q:Program}{d:DefRec} 
  (hn:l.most=some n) (hdf:d.params.defaults=[])
  (call:∀(w:World) (s₀ J:Shared) (mg mb:Str->Option Value) (fa:Addr) (o:Obj) (pm cd doc:Value) (a:Addr) (vs:List Value) (ns:List Int),
   Ground q loose [] XP w s₀ mg mb J.heap->YP w J.heap ->
   J.heap.get? fa=some o->o.data=.func (docDef d.name d.params d.body d.scope pm cd doc)->J.heap.CodeRec cd d.name->mg d.name=some (.ref fa) ->
   J.heap.get? a=some { cls:=.type "list",data:=.seq vs.toArray }->IntsAre vs ns->ns.length<=n->J.gens=#[] ->
   codeAny (model l.prog w) callerA (.call (.ref fa) ⟨[.ref a],[]⟩) (λr s'=>r=.ok (.ret (.bool true))/\OldK J.heap s'.heap/\s'.os=J.os/\AllBare s'.gens) J) :
  WalkO q loose XP YP l.row.toRowW d [] (λf vs=>PySem.call f vs):=by
 intro w s₀ J mg mb G Y fa o pm cd doc dV kV ho hd a8 hD a6 hg ab aa as a4 a9 af a7 ae;obtain rfl:dV=.none:=Dflts.none hD hdf;obtain rfl:kV=.none:=Dflts.noKw hD;obtain⟨a,vs,ns,rfl,rfl,a0,U,a5⟩:=Mv hn a4 a7;refine enter_call (IG (call w s₀ J mg mb fa o pm cd doc a vs ns G Y ho (fd_plain hd) a8 a6 a0 U a5 hg) λr s' hq=>?_);obtain⟨rfl,h2,h3,h4⟩:=hq;exact⟨.inl ⟨.bool true,.bool true,[],rfl,λ_=>rfl,.bool true,MC l _,λ_=>⟨List.Pairwise.nil,λ_ hm=>(nomatch hm)⟩⟩,h2,h3,h4⟩
end Att
namespace L2
open PySem PySem.Spec PyProof.Rows
theorem KN:∀{vs}{ns},IntsAre vs ns->Vals (ns.map V.int) vs
 | _,_,.nil=>.nil
 | _,_,.cons n t h=>.cons ⟨t,rfl⟩ (KN h)
def TQ (H:Hp):Prop:=∀b,H b=none∨∃o xs,H b=some (.frz o (.lst xs))
theorem BR {mb}{k:Nat}{fa a}{sp}{s₁}{vs}{ns} 
  (KX:K.In s₁.heap) (hns:s₁.heap.Ns mainGlobals mg) (U:s₁.heap.Ns builtinsNs mb) (hbb:∀x:Str,x≠"__name__"->mb x=bootBuiltins x) (hlim:s₁.heap.NoLimit) (hg:s₁.gens=#[])
  (ha:s₁.heap.get? a=some { cls:=.type "list",data:=.seq vs.toArray }) (hi:IntsAre vs ns) (hl:ns.length<=sizeLine) (hr:Room k callerA)
  (F:∀base:Heap,K.In base->base.Ns mainGlobals mg->FnOk P w K mg base CX k fa fd [x] sp) (hbind:∀(s:Shared) (u:Value),BindsTo s fd ⟨[u],[]⟩ [(x,u)])
  (hsp:∀H:Hp,TQ H->Kv K H a (ns.map V.int)->sp [.ref a] H (λv _=>v=.bl true) λ_ _ _=>False)
  (hCX:∀H e s',CX [] H s₁ (λ_ _ _=>False) e s'->False) :
  codeAny (model P w) callerA (.call (.ref fa) ⟨[.ref a],[]⟩) (λr s'=>r=.ok (.ret (.bool true))/\OldK s₁.heap s'.heap/\s'.os=s₁.os/\AllBare s'.gens) s₁:=by
 have rv:=KN hi;have a5:=hi.length;have a4:∀H:Hp,TQ H->Kv K H a (ns.map V.int)->HOk P w H s₁.heap->(∀b,H b≠none->b=a)->(H a≠none->K.lookup a=none) ->
   codeAny (model P w) callerA (.call (.ref fa) ⟨[.ref a],[]⟩) (λr s'=>r=.ok (.ret (.bool true))/\OldK s₁.heap s'.heap/\s'.os=s₁.os/\AllBare s'.gens) s₁:=by
  intro H hO hS a6 hA hK;have J:∀{b:Addr} {o:Obj},s₁.heap.get? b=some o->H b=none->(VG s₁.heap H).get? b=some o:=λe n=>BX e n
  have a9:∀{b:Addr} {o:Obj} {es:Array DictEntry} {ep:Nat},s₁.heap.get? b=some o->o.data=.dict es ep->H b=none:=λ{b o es ep} e d=>by
   cases q:H b with
   | none=>rfl
   | some u=>
    have e':b=a:=hA b (by rw[q];simp);subst e';rw[ha] at e;cases e;have d':Data.seq vs.toArray _=Data.dict es ep:=d;cases d'
  have a0:∀{b:Addr} {m:Str->Option Value},s₁.heap.Ns b m->(VG s₁.heap H).Ns b m:=λ{b m} ⟨o,es,ep,e,d,r⟩=>⟨o,es,ep,J e (a9 e d),d,r⟩
  have a8:K.In (VG s₁.heap H):=λb o e=>J (KX b o e) (by
   cases q:H b with
   | none=>rfl
   | some u=>
    have e':b=a:=hA b (by rw[q];simp);subst e';rw[hK (by rw[q];simp)] at e;cases e)
  have hM:Mod K mg (VG s₁.heap H):=⟨a8,a0 hns,⟨mb,a0 U,hbb⟩,let ⟨mc,h1,h2⟩:=hlim;⟨mc,a0 h1,h2⟩⟩
  have e0:Env0 P w K mg (VG s₁.heap H) callerA [] s₁ H:=⟨rfl,hM,λb o e=>P3 e,Nat.le_of_eq (MR _ _),trivial,λb U=>absurd (show b∈([]:List Addr) from U) (by simp),a6,.of_eq hg⟩
  refine IG ((F _ a8 (a0 hns)).run callerA [] s₁ H ⟨[.ref a],[]⟩ [.ref a] [.ref a] _ _ hr e0 (hbind s₁ (.ref a)) (.cons rfl .nil) (hsp H hO hS)) λr s' h=>?_
  cases r with
  | error e=>exact(hCX H e s' h).elim
  | ok fl=>
   cases fl with
   | next=>exact Gh h
   | brk=>exact Gh h
   | cont=>exact Gh h
   | ret u=>
    obtain⟨v,H',os,bare,un,a7,r',q⟩:=h;have q':v=.bl true:=q;subst q';obtain rfl:u=Value.bool true:=r';refine⟨rfl,OldK.of_keep λb o e=>?_,os,bare⟩;cases q:H b with
    | none=>exact un.keep b o e q (by intro z;exact absurd (show b∈([]:List Addr) from z) (by simp)) (by simp)
    | some u=>
     rcases hO b with z|⟨ob,xs,z⟩
     ·rw[q] at z;cases z
     ·have z2:=un.frzs b ob _ z;obtain⟨e1,_⟩:=a6 b _ z;obtain⟨e2,_⟩:=a7 b _ z2;rw[e] at e1;cases e1;exact e2
 cases hk:K.lookup a with
 | some o=>
  have e:=KX a o hk;rw[ha] at e;cases e;refine a4 (λ_=>none) (λ_=>.inl rfl) (.inr ⟨_,vs.toArray,_,hk,rfl,rfl,rfl,by rw[AR,a5];exact hl,by simpa using rv⟩) (λb u z=>by have z':(none:Option HO)=some u:=z;cases z') (λb z=>absurd rfl z) λz=>absurd rfl z
 | none=>
  refine a4 (λb=>if b=a then some (.frz { cls:=.type "list",data:=.seq vs.toArray } (.lst (ns.map V.int))) else none) (λb=>?_) (.inl (.inr ⟨{ cls:=.type "list",data:=.seq vs.toArray },An rfl⟩)) (λb u z=>?_) (λb z=>?_) λ_=>hk
  ·by_cases U:b=a
   ·exact .inr ⟨_,_,An U⟩
   ·exact .inl (Am U)
  ·by_cases U:b=a
   ·have z':=(An U).symm.trans z;cases z';subst U;exact⟨ha,by rw[As];exact hl,vs,_,rv,ha⟩
   ·have z':=(Am U).symm.trans z;cases z'
  ·by_cases U:b=a
   ·exact U
   ·exact absurd (Am U) z
theorem walk_of {l:W.OpenLaw}{k:Nat}{q:Program}{d:DefRec}{K:Params->W.Frag}{CX:World->CXT}{sp:World->Sp} 
  (hn:l.most=some n) (hn2:n<=sizeLine) (hdf:d.params.defaults=[]) (hr:Room k callerA)
  (hY:∀(w:World) (h:Heap),YP w h->(K w.params).In h)
  (F:∀(w:World) (mg:Str->Option Value) (fa:Addr) (h:Heap),(K w.params).In h->h.Ns mainGlobals mg->mg d.name=some (.ref fa) ->
   ∃fd:FuncData,(∀(s:Shared) (u:Value),BindsTo s fd ⟨[u],[]⟩ [(x,u)]) /\
    ∀base:Heap,(K w.params).In base->base.Ns mainGlobals mg->FnOk l.prog w (K w.params) mg base (CX w) k fa fd [x] (sp w))
  (hsp:∀(w:World) (H:Hp) (a:Addr) (ns:List Int),ns.length<=n->TQ H->Kv (K w.params) H a (ns.map V.int)->sp w [.ref a] H (λv _=>v=.bl true) λ_ _ _=>False)
  (hCX:∀(w:World) (H:Hp) (s:Shared) (e:Value) (s':Shared),CX w [] H s (λ_ _ _=>False) e s'->False) :
  W.WalkO q loose XP YP l.row.toRowW d [] (λf vs=>PySem.call f vs):=by
 refine Att.attach_call hn hdf λw s₀ s₁ mg mb fa o pm cd doc a vs ns G Y ho hd a5 a4 a0 U J hg=>?_
 have KX:=hY w _ Y;obtain⟨fd,hb,hF⟩:=F w mg fa _ KX G.T.g a4;exact BR KX G.T.g G.T.b G.T.builtins G.T.nolimit hg a0 U (A4 J hn2) hr hF hb (λH hO hS=>hsp w H a ns J hO hS) λH e s'=>hCX w H s₁ e s'
abbrev OX:CXT:=λ_ _ _ _ _ _=>False
abbrev E0:XK:=λ_ _ _=>False
theorem KW:Xr OX X E0:=λ_ _ _ _ _ _ _ h=>h.elim
structure Fun (K:W.Frag)(x qual:Str)(st:Stmt)(f:Addr)(fd:FuncData):Prop where
 ex:∃(oc:Value) (od:Option Addr) (kV doc pm:Value) (an:Option Addr) (cdv ct:Value) (osl:Array (Option Value)),
  fd=W.fnOf x qual (ZD st) (Q9 st) (Qx st) .none kV doc pm an cdv ct/\K.lookup f=some ⟨oc,od,.func fd,osl⟩/\W.codeIn K cdv qual=true
 kp:W.keepIn K (.ref f)=true
section
variable {P:Program} {w:World} {K:W.Frag} {mg:Str->Option Value} {base:Heap}
theorem Fun.ok {f}{N}{k:Nat}{sp}(F:Fun K x qual st f fd)(S:ZP N ps (Qx st))(len:∀vs H Q E,sp vs H Q E->vs.length=ps.length)
  (hbody:∀(cdv:Value) (A:Around) (outer:List Env) (s:Shared) (H:Hp) (vs:List V) (Q:VK) (E:XK),Room k (A.deeper (envOfC qual (Qx st) s.heap.objs.size f cdv))->sp vs H Q E ->
   ∃t,PSs (YE OX P w K mg base N qual (Qx st) f cdv A outer s H E).nox (Q9 st) t/\t { nx:=λ_ H'=>Q .non H',rt:=Q } (start N vs) H):FnOk P w K mg base OX (k+1) f fd ps sp:=by
 obtain⟨oc,od,kV,doc,pm,an,cdv,ct,a0,rfl,lk,J⟩:=F.ex;refine B5 lk J S len λA outer s H vs Q E hr U=>?_
 obtain⟨t,h,q⟩:=hbody cdv A outer s H vs Q E hr U;exact⟨t,h.nox,q⟩
theorem Fun.binds {f:Addr}(F:Fun K x qual st f fd)
  (h:∀(kV doc pm:Value) (an:Option Addr) (cdv ct:Value) (us:List Value),us.length=ps.length->bindArgs (W.fnOf x qual (ZD st) (Q9 st) (Qx st) .none kV doc pm an cdv ct) ⟨us,[]⟩=pure (ps.zip us)):Binds K fd ps []:=by
 obtain⟨oc,od,kV,doc,pm,an,cdv,ct,osl,rfl,lk,hcd⟩:=F.ex;exact .all (h kV doc pm an cdv ct)
theorem fun_mk {f}{osl}{kV ct}(l:K.lookup f=some ⟨oc,od,.func (W.fnOf x qual (ZD st) (Q9 st) (Qx st) .none kV doc pm an cdv ct),osl⟩)
  (c:W.codeIn K cdv qual=true) (k:W.keepIn K (.ref f)=true):Fun K x qual st f (W.fnOf x qual (ZD st) (Q9 st) (Qx st) .none kV doc pm an cdv ct):=⟨⟨oc,od,kV,doc,pm,an,cdv,ct,osl,rfl,l,c⟩,k⟩
end
theorem ZM {k:Nat}(hr:Room k A):A.units+1<cLine:=IT (Nat.add_le_add_left (by decide:1<=64) _) hr.units
theorem Zl (h:n<=1000):n<sizeLine:=IT h (by decide)
section
variable {X:Cx}
theorem pv (i:Nat)(hN:X.N[i]?=some x:=by rfl)(hv:oS X.env.scope x:=by first|exact Or.inl rfl|exact Or.inr (Or.inl rfl)|exact Or.inr (Or.inr rfl))(hd:(x==("__debug__":Str))=false:=by decide)
  (hcd:(x==("__classdict__":Str))=false:=by decide):PE X (.Name x pos) (DD i):=Fm hN hv hd hcd
end
def Same (H H':Hp):Prop:=∀b o,H b=some o->H' b=some o
theorem G7 (H):Same H H:=λ_ _ h=>h
theorem Same.trans (a:Same H H1)(b:Same H1 H2):Same H H2:=λc o h=>b c o (a c o h)
theorem Same.free (e:Same H H'){l}(h:H' l=Option.none):H l=Option.none:=by
 cases q:H l with
 | none=>rfl
 | some o=>
  rw[e l o q] at h;cases h
theorem Same.seq {a}(e:Same H H')(h:Kv K H a xs):Kv K H' a xs:=by
 rcases h with (h|⟨o,h⟩)|h
 ·exact .inl (.inl (e _ _ h))
 ·exact .inl (.inr ⟨o,e _ _ h⟩)
 ·exact .inr h
def Bd (n:Nat)(i:Int):Prop:=i.natAbs<2 ^ n
theorem Bd.mono {i:Int}(h:Bd m i)(hl:m<=n):Bd n i:=AW h (Nat.pow_le_pow_right (by decide) hl)
theorem Bd.add {i j:Int}(h:Bd m i)(h':Bd n j):Bd (max m n+1) (i+j):=by
 have a:=h.mono (Nat.le_max_left m n);have b:=h'.mono (Nat.le_max_right m n);unfold Bd at *;rw[Nat.pow_succ];omega
theorem Bd.sub {i j:Int}(h:Bd m i)(h':Bd n j):Bd (max m n+1) (i-j):=by
 have a:=h.mono (Nat.le_max_left m n);have b:=h'.mono (Nat.le_max_right m n);unfold Bd at *;rw[Nat.pow_succ];omega
theorem Bd.mul {i j:Int}(h:Bd m i)(h':Bd n j):Bd (m+n) (i*j):=by
 unfold Bd at *;rw[IK,Nat.pow_add];exact Nat.mul_lt_mul'' h h'
theorem Bd.le {i j:Int}(h:Bd m j)(hl:i.natAbs<=j.natAbs):Bd m i:=IT hl h
theorem Bd.bits {i:Int}(h:Bd m i):Builtin.Int.intBits i<=m:=by
 unfold Builtin.Int.intBits;split
 ·exact AZ _
 ·rename_i U;have J:i.natAbs≠0:=by
   intro e;apply U;have:i=0:=Int.natAbs_eq_zero.mp e;rw[this];rfl
  have:i.natAbs.log2<m:=(Nat.log2_lt J).mpr h;omega
theorem Bd.log2 {i:Int}(h:Bd m i)(hm:0<m):i.natAbs.log2<m:=by
 rcases Nat.eq_zero_or_pos i.natAbs with h0|hp
 ·rw[h0];simpa using hm
 ·exact(Nat.log2_lt (qV hp)).mpr h
def CMulB (i j:Int):Prop:=Bd 60000 i/\Bd 60000 j
def CDivB (j:Int):Prop:=j≠0/\Bd 9000 j
section
variable {X:Cx}
theorem CMulB.ok {i j:Int}(h:CMulB i j):IntMulOk i j:=by
 refine IntMulOk.of_bits ?_ ?_
 ·exact A4 h.1.bits (by decide)
 ·exact A4 h.2.bits (by decide)
theorem op_mulB:OpR X (binaryOp .Mult) (rI CMulB λi j=>.int (i*j)):=oN λ_ _ _ _ _ _ _ hc q=>mul_int q hc.ok
theorem op_fdivB:OpR X (binaryOp .FloorDiv) (rI (λ_ j=>CDivB j) λi j=>.int (i.fdiv j)):=oN λ_ _ _ _ _ _ _ J q=>floordiv_int J.1 q (.inl (PyProof.noPylong_of_log2 (J.2.log2 (by decide))))
end
def HZ (K:W.Frag):List V->Hp->VK->Prop:=λxs H Q=>∃x c t b u,xs=[x,c]/\RelV c u/\(∀u',RelV c u'->u'=u)/\TyOf K H x t/\W.kitOne K t u=some b/\Q (.bl b) H
section
variable {X:Cx}
theorem Rq:CallR X (.builtin "isinstance") (HZ X.K):=by
 intro pins s σ H xs us Q I r h;obtain⟨x,c,t,b,u,rfl,rc,uq,ty,e,q⟩:=h;obtain⟨u1,u2,rfl,U,r2⟩:=KP r;obtain rfl:=uq _ r2;exact MP I U ty e λJ=>⟨.bl b,H,I.tok J,rfl,q⟩
end
structure LB (P:Program)(w:World)(K:W.Frag)(mg:Str->Option Value)(base:Heap)(k:Nat)(name:Str)(ps:List Str)(sp:Sp):Prop where
 ex:∃(f:Addr) (fd:FuncData),FnOk P w K mg base OX k f fd ps sp/\Binds K fd ps []/\W.keepIn K (.ref f)=true/\mg name=some (.ref f)
section
variable {X:Cx} {k:Nat} {name:Str} {ps:List Str} {sp:Sp} {p pos:Pos} {e:Expr} {es:List Expr} {t:TA}
theorem Ft (C:LB X.prog X.w X.K X.mg X.base k name ps sp)(hr:Room k X.A)(hg:Gl X name)(ha:PA X (e::es) t)(hdb:(name==("__debug__":Str))=false:=by decide)
  (he:starEach (e::es) X.env=(false,eval e X.env)::starEach es X.env:=by rfl) (hpl:(backTo pos (starEach es X.env)).any (·.1)=false:=by rfl) :
  PE X (.Call (.Name name p) (e::es) [] pos) (Nq sp [] E0 t):=by
 obtain⟨f,fd,F,b,kp,m⟩:=C.ex;exact NK F hr hg m kp b .nil KW ha hdb he hpl
end
theorem Qd (h:H p=none)(o):Same H (upd H p o):=λb u q=>by rw[Qk (Qj q h)];exact q
theorem rH:tC v σ H Q=Q v H:=rfl
theorem CQ {r}{tb}:OK r ta tb σ H Q=ta σ H λx H1=>tb σ H1 λy H2=>r x y H2 Q:=rfl
theorem CK {r}:pT r ta σ H Q=ta σ H λx H1=>r x H1 Q:=rfl
theorem Dq {i j:Int}:mw (.int i) (.int j) H Q=Q (.bl (decide (i=j))) H:=by
 have e:decide (V.int i=V.int j)=decide (i=j):=by
  rw[Jo,Bool.beq_eq_decide_eq]
 unfold mw;rw[e];exact propext ⟨λh=>h.2,λh=>⟨rfl,h⟩⟩
theorem Da {i j:Int}:mq (.int i) (.int j) H Q=Q (.bl (!decide (i=j))) H:=by
 have e:decide (V.int i=V.int j)=decide (i=j):=by
  rw[Jo,Bool.beq_eq_decide_eq]
 unfold mq;rw[e];exact propext ⟨λh=>h.2,λh=>⟨rfl,h⟩⟩
theorem CU {b}{P:Bool->Prop}:(∃k,V.bl b=V.bl k/\P k)=P b:=by
 refine propext ⟨λ⟨k,e,q⟩=>?_,λq=>⟨b,rfl,q⟩⟩;cases e;exact q
theorem Dx {t u}{Q}:Ub t u σ H Q=t σ H λc H1=>if c=true then u σ H1 Q else Q false H1:=rfl
theorem CP {t u}{Q}:qd t u σ H Q=t σ H λc H1=>if c=true then Q true H1 else u σ H1 Q:=rfl
theorem E6 {t}{Q}:DG t σ H Q=t σ H λc H1=>Q (!c) H1:=rfl
theorem Dn {t}{tb}:qe t ta tb σ H Q=t σ H λc H1=>if c=true then ta σ H1 Q else tb σ H1 Q:=rfl
theorem SV:Sa D σ H=D.nx σ H:=rfl
theorem EZ {t u}{D}:X5 t u D σ H=t { D with nx:=u D } σ H:=rfl
theorem T3:RW te D σ H=te σ H D.rt:=rfl
theorem Hn:LZ te D σ H=te σ H λ_ H1=>D.nx σ H1:=rfl
theorem Dm {c}{t u}{D}:Jv c t u D σ H=c σ H λb H1=>if b=true then t D σ H1 else u D σ H1:=rfl
theorem RN:LX D σ H=False:=rfl
theorem Dw:Y5 te g D σ H=te σ H λx H1=>g x σ H1 D.nx:=rfl
theorem SZ {Q}:Xd i v σ H Q=Q (σ.set i (some v)) H:=rfl
theorem E5 {ta}{D}:DF i j ta D σ H=ta σ H λvs H1=>∃v w,vs=[v,w]/\D.nx ((σ.set i (some v)).set j (some w)) H1:=rfl
theorem E8 {Q}:W0 σ H Q=Q [] H:=rfl
theorem Ho {tr}{Q}:Sd ta tr σ H Q=ta σ H λx H1=>tr σ H1 λxs H2=>Q (x::xs) H2:=rfl
theorem Hq {sp}{dvs}{E}{t}:Nq sp dvs E t σ H Q=t σ H λvs H1=>sp (vs++dvs) H1 Q E:=rfl
theorem CT {r}{t}:pU r t σ H Q=t σ H λvs H1=>r vs H1 Q:=rfl
theorem ER:DE t σ H Q=t σ H λxs H1=>xs.length<=sizeLine/\∀p,H1 p=none->Q (.ref p) (upd H1 p (.tup xs)):=rfl
theorem Df:HI t σ H Q=t σ H λxs H1=>xs.length<=sizeLine/\∀p,H1 p=none->Q (.ref p) (upd H1 p (.lst xs)):=rfl
theorem Za (h:n<=1000):n<=sizeLine:=pJ (Zl h)
theorem SS {a}{P:α->Prop}:(∃v,some (some a)=some (some v)/\P v)=P a:=by
 refine propext ⟨λ⟨k,e,q⟩=>?_,λq=>⟨a,rfl,q⟩⟩;cases e;exact q
theorem Dj {a:Int}{P:Int->Prop}:(∃v,[V.int a]=[V.int v]/\P v)=P a:=by
 refine propext ⟨λ⟨k,e,q⟩=>?_,λq=>⟨a,rfl,q⟩⟩;cases e;exact q
theorem EO {P:V->V->Prop}:(∃v w,[a,b]=[v,w]/\P v w)=P a b:=by
 refine propext ⟨λ⟨k,l,e,q⟩=>?_,λq=>⟨a,b,rfl,q⟩⟩;cases e;exact q
theorem Hg {a b:Int}{P:Int->Int->Prop}:(∃v w,[V.int a,V.int b]=[V.int v,V.int w]/\P v w)=P a b:=by
 refine propext ⟨λ⟨k,l,e,q⟩=>?_,λq=>⟨a,b,rfl,q⟩⟩;cases e;exact q
theorem Same.sqT {a}(e:Same H H')(h:Kt K H a xs):Kt K H' a xs:=by
 rcases h with (h|⟨o,h⟩)|h
 ·exact .inl (.inl (e _ _ h))
 ·exact .inl (.inr ⟨o,e _ _ h⟩)
 ·exact .inr h
def Sm:R2:=λx y H Q=>lZ (λi j=>.int (i+j)) x y H Q∨(∃i j,x=.str i/\y=.str j/\i.length+j.length<=sizeLine/\Q (.str (i++j)) H)∨Pp x y H Q
section
variable {X:Cx}
theorem op_addA:OpR X (binaryOp .Add) Sm:=op_add.or (op_add_str.or FD)
theorem WU (hm:X.mg x=none)(hv:bootBuiltins x=some (.type T))(hg:Gl X x:=by rfl)(hn:x≠"__name__":=by decide)(hdb:(x==("__debug__":Str))=false:=by decide):PE X (.Name x pos) (tC (.ty T)):=
 PU hg hm hv rfl hn hdb
end
theorem Zg {k:Int}(h:Kt K H p xs)(e:Nd xs k=some v)(q:Q v H):lF K (.ref p) (.int k) H Q:=.inr (.inl ⟨p,xs,k,v,rfl,rfl,h,e,q⟩)
theorem QO {k:Int}(h:Kv K H p xs)(e:Nd xs k=some v)(q:Q v H):lF K (.ref p) (.int k) H Q:=.inl ⟨p,xs,k,v,rfl,rfl,h,e,q⟩
def pA (φ:V->Hp->VK->Prop):Sp:=λvs H Q _=>∃a,vs=[a]/\φ a H Q
def qN (φ:V->V->Hp->VK->Prop):Sp:=λvs H Q _=>∃a b,vs=[a,b]/\φ a b H Q
def qM (φ:V->V->V->Hp->VK->Prop):Sp:=λvs H Q _=>∃a b c,vs=[a,b,c]/\φ a b c H Q
def qL (φ:V->V->V->V->Hp->VK->Prop):Sp:=λvs H Q _=>∃a b c d,vs=[a,b,c,d]/\φ a b c d H Q
theorem EY {N}:start N [a]=some a::List.replicate (N.length-1) none:=rfl
theorem EX {N}:start N [a,b]=some a::some b::List.replicate (N.length-2) none:=rfl
theorem EW {N}:start N [a,b,c]=some a::some b::some c::List.replicate (N.length-3) none:=rfl
theorem EV {N}:start N [a,b,c,d]=some a::some b::some c::some d::List.replicate (N.length-4) none:=rfl
theorem YM {t}{Q}(h:Kt K H p xs)(hl:xs.length=n)(q:t xs σ H Q):F2 K n t (.ref p) σ H Q:=⟨p,xs,rfl,h,hl,q⟩
def Bh (K:W.Frag):List V->Hp->VK->Prop:=λxs H Q=>∃x n,xs=[x]/\CA K x H n/\Q (.int n) H
theorem Lb:CallR X (.builtin "len") (Bh X.K):=Rp
theorem Q7 (h:Kv K H p xs)(q:Q (.int xs.length) H):Bh K [.ref p] H Q:=⟨.ref p,xs.length,rfl,.inl ⟨xs,h,rfl⟩,q⟩
theorem S9 (h:Kt K H p xs)(q:Q (.int xs.length) H):Bh K [.ref p] H Q:=⟨.ref p,xs.length,rfl,.inr ⟨xs,h,rfl⟩,q⟩
theorem Dv {N}{sc}{f}{E}:(YE CX P w K mg base N qual sc f cdv A outer s H E).K=K:=rfl
theorem Dg {x}{t}{b}(ty:TyOf K H x t)(e:W.kitOne K t (.type T)=some b)(q:Q (.bl b) H):HZ K [x,.ty T] H Q:=
 ⟨x,.ty T,t,b,.type T,rfl,rfl,λ_ h=>h,ty,e,q⟩
theorem Dp {i j}:mw (.str i) (.str j) H Q=Q (.bl (decide (i=j))) H:=by
 have e:decide (V.str i=V.str j)=decide (i=j):=by
  by_cases h:i=j
  ·subst h;simp
  ·rw[AV h];exact AV λq=>h (V.str.inj q)
 unfold mw;rw[e];exact propext ⟨λh=>h.2,λh=>⟨rfl,h⟩⟩
theorem E9 {i j}:mq (.str i) (.str j) H Q=Q (.bl (!decide (i=j))) H:=by
 have e:decide (V.str i=V.str j)=decide (i=j):=by
  by_cases h:i=j
  ·subst h;simp
  ·rw[AV h];exact AV λq=>h (V.str.inj q)
 unfold mq;rw[e];exact propext ⟨λh=>h.2,λh=>⟨rfl,h⟩⟩
theorem Ds {i j}:mw (.bl i) (.bl j) H Q=Q (.bl (decide (i=j))) H:=by
 have e:decide (V.bl i=V.bl j)=decide (i=j):=by cases i<;>cases j<;>rfl
 unfold mw;rw[e];exact propext ⟨λh=>h.2,λh=>⟨rfl,h⟩⟩
theorem De {i j}:mq (.bl i) (.bl j) H Q=Q (.bl (!decide (i=j))) H:=by
 have e:decide (V.bl i=V.bl j)=decide (i=j):=by cases i<;>cases j<;>rfl
 unfold mq;rw[e];exact propext ⟨λh=>h.2,λh=>⟨rfl,h⟩⟩
theorem YF {lo hi}(h:Kv K H p xs)(q:∀r,H r=none->Q (.ref r) (upd H r (.lst (Yp xs lo hi)))):HY K (.ref p) lo hi H Q:=⟨p,xs,rfl,h,q⟩
theorem CM {r}{tl th}:qc r te tl th σ H Q=te σ H λx H1=>tl σ H1 λl H2=>th σ H2 λu H3=>r x l u H3 Q:=rfl
theorem E7 {Q}:Nk σ H Q=Q none H:=rfl
theorem SU {t}{Q}:T9 t σ H Q=t σ H λx H1=>∃i,x=.int i/\Q (some i) H1:=rfl
theorem CS {a:Int}{P:Int->Prop}:(∃v,V.int a=V.int v/\P v)=P a:=by
 refine propext ⟨λ⟨k,e,q⟩=>?_,λq=>⟨a,rfl,q⟩⟩;cases e;exact q
theorem RP {ta}:Sr ta σ H R=ta σ H λvs H1=>∃j:Int,vs=[.int j]/\-(2 ^ 62)<=j/\j<2 ^ 62/\R (nJ 0 j.toNat) H1:=rfl
theorem RL {j c:Int}{P:Int->Int->Prop}:(∃j' c':Int,[V.int 0,V.int j,V.int c]=[V.int 0,V.int j',V.int c']/\P j' c')=P j c:=by
 refine propext ⟨λ⟨_,_,e,q⟩=>?_,λq=>⟨j,c,rfl,q⟩⟩;cases e;exact q
theorem ES {r}{to}{t}:pV K T r to t σ H Q=to σ H λx H1=>lq K T x H1/\t σ H1 λxs H2=>r x xs H2 Q:=rfl
theorem SQ {r}{to}:HL K T r to σ H Q=to σ H λx H1=>lq K T x H1/\r x [] H1 Q:=rfl
theorem X6 (h:H p=some (.lst xs))(hl:xs.length<sizeLine)(q:Q .non (upd H p (.lst (xs++[y])))):Y9 (.ref p) [y] H Q:=⟨p,xs,y,rfl,rfl,h,hl,q⟩
theorem RQ:NT K tl σ H R=tl σ H λx H1=>∃a,x=.ref a/\(∃xs,Kv K H1 a xs)/\R (nK K a) H1:=rfl
theorem Qo {p:Prop}[Decidable p]{A B:Prop}(h:p->A)(h2:¬p->B):if p then A else B:=by
 by_cases c:p
 ·rw[An c];exact h c
 ·rw[Am c];exact h2 c
def Va (J:It)(g:TG)(tb:TS)(D:QY)(σ:St)(H1:Hp):Prop:=∃W:Nat->Nat->St->Hp->Prop,(∃m,W 0 m σ H1)/\∀i m σ H,W i m σ H ->
 (J.stop i H/\D.nx σ H)∨(J.go i H/\∃N:St->Hp->Prop,(∀σ' H',N σ' H'->∃m',m'<m/\W (i+1) m' σ' H')/\∀x H',J.yld i H x H'->g x σ H' λU H2=>tb { D with nx:=N,ct:=N,bk:=D.nx } U H2)
theorem Hh:RY wi g tb D σ H=wi σ H λJ H1=>Va J g tb D σ H1:=rfl
theorem B4 {D}(Pv:Nat->St->Hp->Prop)(h0:Pv 0 σ H)
  (hs:∀i σ H,i<n->Pv i σ H->g (.int (lo+i)) σ H λJ H2=>tb { D with nx:=Pv (i+1),ct:=Pv (i+1),bk:=D.nx } J H2) (hd:∀σ H,Pv n σ H->D.nx σ H):Va (nJ lo n) g tb D σ H:=MT Pv h0 hs hd
theorem WL {a}{D}(Pv:Nat->St->Hp->Prop)(h0:Pv 0 σ H)(hl:∀i σ H,i<=xs.length->Pv i σ H->Kv K H a xs)
  (hs:∀i x σ H,xs[i]?=some x->Pv i σ H->g x σ H λJ H2=>tb { D with nx:=Pv (i+1),ct:=Pv (i+1),bk:=D.nx } J H2) (hd:∀σ H,Pv xs.length σ H->D.nx σ H):Va (nK K a) g tb D σ H:=Z6 Pv h0 hl hs hd
inductive D where
 | non|int (i:Int)|str (x:Str)|tup (ds:List D)|lst (ds:List D)
inductive Rep (K)(H):D->V->Prop where
 | non:Rep K H .non .non
 | int (i:Int):Rep K H (.int i) (.int i)
 | bl (c:Bool):Rep K H (.int (if c then 1 else 0)) (.bl c)
 | str (x:Str):Rep K H (.str x) (.str x)
 | tup {p:Addr} {xs:List V} {ds:List D} (h:Kt K H p xs) (hl:ds.length=xs.length) (hr:∀(i:Nat) d x,ds[i]?=some d->xs[i]?=some x->Rep K H d x):Rep K H (.tup ds) (.ref p)
 | lst {p:Addr} {xs:List V} {ds:List D} (h:Kv K H p xs) (hl:ds.length=xs.length) (hr:∀(i:Nat) d x,ds[i]?=some d->xs[i]?=some x->Rep K H d x):Rep K H (.lst ds) (.ref p)
inductive DB:Nat->D->Prop where
 | non {n:Nat}:DB n .non
 | int {n:Nat} (i:Int):DB n (.int i)
 | str {n:Nat} (x:Str):DB n (.str x)
 | tup {n:Nat} {ds:List D} (h:∀d∈ds,DB n d):DB (n+1) (.tup ds)
 | lst {n:Nat} {ds:List D} (h:∀d∈ds,DB n d):DB (n+1) (.lst ds)
section
variable {X:Cx} {pins:List (Addr×Obj)} {σ:St} {H:Hp} {s:Shared}
theorem Inv.lt_ne (I:Inv X pins σ H s){p}{xs ys}(h:Kv X.K H p xs)(h':Kt X.K H p ys):False:=by
 obtain⟨its,_,pl,_⟩:=I.list h;obtain⟨its',_,pt,_⟩:=I.tuple h';exact SeqAt.ne_of_list_tuple (s:=s) pl.isList pt rfl
theorem Rep.inj (I:Inv X pins σ H s){d}{v}(r:Rep X.K H d v):∀{e},Rep X.K H e v->d=e:=by
 induction r with
 | non=>intro e U;cases U;rfl
 | int i=>intro e U;cases U;rfl
 | bl c=>intro e U;cases U;rfl
 | str x=>intro e U;cases U;rfl
 | @tup p xs ds h hl hr ih=>
  intro e U;cases U with
  | @tup _ ys es h' a0 J=>
   have e1:=I.tuple_inj h h';subst e1;refine congrArg D.tup (IX λi=>?_);by_cases hi:i<ds.length
   ·have h2:i<xs.length:=by omega
    have h3:i<es.length:=by omega
    rw[Ax hi,Ax h3];exact congrArg some (ih i _ _ (Ax hi) (Ax h2) (J i _ _ (Ax h3) (Ax h2)))
   ·rw[Il (by omega),Il (by omega)]
  | lst h' a0 J=>exact(I.lt_ne h' h).elim
 | @lst p xs ds h hl hr ih=>
  intro e U;cases U with
  | tup h' a0 J=>exact(I.lt_ne h h').elim
  | @lst _ ys es h' a0 J=>
   have e1:=I.list_inj h h';subst e1;refine congrArg D.lst (IX λi=>?_);by_cases hi:i<ds.length
   ·have h2:i<xs.length:=by omega
    have h3:i<es.length:=by omega
    rw[Ax hi,Ax h3];exact congrArg some (ih i _ _ (Ax hi) (Ax h2) (J i _ _ (Ax h3) (Ax h2)))
   ·rw[Il (by omega),Il (by omega)]
open Classical in
def Nc (ds es:List D)(j:Nat):Bool:=decide (ds[j]?=es[j]?)
open Classical in
theorem eqIt_iff {ds es}:Nc ds es j=true↔ds[j]?=es[j]?:=by
 unfold Nc;exact pG
theorem XT {ds es}(hl:ds.length=es.length):(List.range ds.length).all (Nc ds es)=true↔ds=es:=by
 rw[Io];constructor
 ·intro h;refine IX λi=>?_
  by_cases hi:i<ds.length
  ·exact eqIt_iff.mp (h i (List.mem_range.mpr hi))
  ·rw[Il (by omega),Il (by omega)]
 ·intro h i _;subst h;exact eqIt_iff.mpr rfl
theorem RelV.ref_of (r:RelV (.ref p) u):u=.ref p:=r
theorem HU (I:Inv X pins σ H s){d}{x}(r:Rep X.K H d x):∀{n:Nat}{A:Around}{e:D}{y:V}{u v:Value}{b:Bool},DB n d->A.units+n<cLine->Rep X.K H e y->RelV x u->RelV y v->(b=true↔d=e)->SeqAt.EqAt A s u v b:=by
 induction r with
 | non=>
  intro n A e y u v b _ hn r' ru U J;obtain rfl:u=Value.none:=ru;cases r' with
  | non=>obtain rfl:v=Value.none:=U;have:b=true:=J.mpr rfl;subst this;exact SeqAt.EqAt.same _
  | int j=>obtain⟨t,rfl⟩:=U;have:b=false:=AD.mpr λz=>nomatch (J.mp z);subst this;exact SeqAt.EqAt.none_int _ _
  | bl c=>obtain rfl:v=Value.bool c:=U;have:b=false:=AD.mpr λz=>nomatch (J.mp z);subst this;exact SeqAt.EqAt.none_bool _
  | str j=>obtain⟨t,rfl⟩:=U;have:b=false:=AD.mpr λz=>nomatch (J.mp z);subst this;exact SeqAt.EqAt.none_str _ _
  | tup h' a4 a0=>
   obtain rfl:=U.ref_of;have:b=false:=AD.mpr λz=>nomatch (J.mp z)
   subst this;obtain⟨its,_,pt,_⟩:=I.tuple h';exact SeqAt.EqAt.none_tuple pt (by omega)
  | lst h' a4 a0=>
   obtain rfl:=U.ref_of;have:b=false:=AD.mpr λz=>nomatch (J.mp z)
   subst this;obtain⟨its,_,pt,_⟩:=I.list h';exact SeqAt.EqAt.none_list pt.isList (by omega)
 | int i=>
  intro n A e y u v b _ hn r' ru U J;obtain⟨tu,rfl⟩:=ru;cases r' with
  | non=>obtain rfl:v=Value.none:=U;have:b=false:=AD.mpr λz=>nomatch (J.mp z);subst this;exact SeqAt.EqAt.int_none _ _
  | int j=>
   obtain⟨t,rfl⟩:=U;have:b=(i==j):=by
    by_cases q:i=j
    ·subst q;rw[J.mpr rfl];simp
    ·have:b=false:=AD.mpr λz=>q (by have:=J.mp z;injection this)
     rw[this];simp[q]
   subst this;exact SeqAt.EqAt.int_int _ _ _ _
  | bl c=>
   obtain rfl:v=Value.bool c:=U;have:b=(i==if c=true then 1 else 0):=by
    generalize (if c=true then(1:Int) else 0)=j at *;by_cases q:i=j
    ·subst q;rw[J.mpr rfl];simp
    ·have:b=false:=AD.mpr λz=>q (by have:=J.mp z;injection this)
     rw[this];simp[q]
   subst this;exact SeqAt.EqAt.int_bool _ _ _
  | str j=>obtain⟨t,rfl⟩:=U;have:b=false:=AD.mpr λz=>nomatch (J.mp z);subst this;exact SeqAt.EqAt.int_str _ _ _ _
  | tup h' a4 a0=>
   obtain rfl:=U.ref_of;have:b=false:=AD.mpr λz=>nomatch (J.mp z)
   subst this;obtain⟨its,_,pt,_⟩:=I.tuple h';exact SeqAt.EqAt.int_tuple _ _ pt (by omega)
  | lst h' a4 a0=>
   obtain rfl:=U.ref_of;have:b=false:=AD.mpr λz=>nomatch (J.mp z)
   subst this;obtain⟨its,_,pt,_⟩:=I.list h';exact SeqAt.EqAt.int_list _ _ pt.isList (by omega)
 | bl k=>
  intro n A e y u v b _ hn r' ru U J;obtain rfl:u=Value.bool k:=ru;cases r' with
  | non=>obtain rfl:v=Value.none:=U;have:b=false:=AD.mpr λz=>nomatch (J.mp z);subst this;exact SeqAt.EqAt.bool_none _
  | int j=>
   obtain⟨t,rfl⟩:=U;have:b=((if k=true then 1 else 0)==j):=by
    generalize (if k=true then(1:Int) else 0)=i at *;by_cases q:i=j
    ·subst q;rw[J.mpr rfl];simp
    ·have:b=false:=AD.mpr λz=>q (by have:=J.mp z;injection this)
     rw[this];simp[q]
   subst this;exact SeqAt.EqAt.bool_int _ _ _
  | bl c=>
   obtain rfl:v=Value.bool c:=U;have:b=(k==c):=by
    rw[Iy,J,beq_iff_eq];cases k<;>cases c<;>simp
   subst this;exact SeqAt.EqAt.bool_bool _ _
  | str j=>obtain⟨t,rfl⟩:=U;have:b=false:=AD.mpr λz=>nomatch (J.mp z);subst this;exact SeqAt.EqAt.bool_str _ _ _
  | tup h' a4 a0=>
   obtain rfl:=U.ref_of;have:b=false:=AD.mpr λz=>nomatch (J.mp z);subst this
   obtain⟨its,_,pt,_⟩:=I.tuple h';exact SeqAt.EqAt.bool_tuple _ pt (by omega)
  | lst h' a4 a0=>
   obtain rfl:=U.ref_of;have:b=false:=AD.mpr λz=>nomatch (J.mp z);subst this
   obtain⟨its,_,pt,_⟩:=I.list h';exact SeqAt.EqAt.bool_list _ pt.isList (by omega)
 | str i=>
  intro n A e y u v b _ hn r' ru U J;obtain⟨tu,rfl⟩:=ru;cases r' with
  | non=>obtain rfl:v=Value.none:=U;have:b=false:=AD.mpr λz=>nomatch (J.mp z);subst this;exact SeqAt.EqAt.str_none _ _
  | int j=>obtain⟨t,rfl⟩:=U;have:b=false:=AD.mpr λz=>nomatch (J.mp z);subst this;exact SeqAt.EqAt.str_int _ _ _ _
  | bl c=>obtain rfl:v=Value.bool c:=U;have:b=false:=AD.mpr λz=>nomatch (J.mp z);subst this;exact SeqAt.EqAt.str_bool _ _ _
  | str j=>
   obtain⟨t,rfl⟩:=U;have:b=(i==j):=by
    by_cases q:i=j
    ·subst q;rw[J.mpr rfl];simp
    ·have:b=false:=AD.mpr λz=>q (by have:=J.mp z;injection this)
     rw[this];simp[q]
   subst this;exact SeqAt.EqAt.str_str _ _ _ _
  | tup h' a4 a0=>
   obtain rfl:=U.ref_of;have:b=false:=AD.mpr λz=>nomatch (J.mp z)
   subst this;obtain⟨its,_,pt,_⟩:=I.tuple h';exact SeqAt.EqAt.str_tuple _ _ pt (by omega)
  | lst h' a4 a0=>
   obtain rfl:=U.ref_of;have:b=false:=AD.mpr λz=>nomatch (J.mp z)
   subst this;obtain⟨its,_,pt,_⟩:=I.list h';exact SeqAt.EqAt.str_list _ _ pt.isList (by omega)
 | @tup p xs ds h hl hr ih=>
  intro n A e y u v b a5 hn r' ru U J;obtain rfl:=ru.ref_of;obtain⟨its,rI,pt,_⟩:=I.tuple h;cases a5 with
  | @tup n' _ a5=>
  cases r' with
  | non=>obtain rfl:v=Value.none:=U;have:b=false:=AD.mpr λz=>nomatch (J.mp z);subst this;exact SeqAt.EqAt.tuple_none pt (by omega)
  | int j=>obtain⟨t,rfl⟩:=U;have:b=false:=AD.mpr λz=>nomatch (J.mp z);subst this;exact SeqAt.EqAt.tuple_int _ _ pt (by omega)
  | bl c=>obtain rfl:v=Value.bool c:=U;have:b=false:=AD.mpr λz=>nomatch (J.mp z);subst this;exact SeqAt.EqAt.tuple_bool _ pt (by omega)
  | str j=>obtain⟨t,rfl⟩:=U;have:b=false:=AD.mpr λz=>nomatch (J.mp z);subst this;exact SeqAt.EqAt.tuple_str _ _ pt (by omega)
  | @tup p' ys es h' a4 a0=>
   obtain rfl:=U.ref_of;obtain⟨its',a6,a8,_⟩:=I.tuple h';by_cases hp:p=p'
   ·subst hp;have:D.tup ds=D.tup es:=Rep.inj I (.tup h hl hr) (.tup h' a4 a0);rw[J.mpr this];exact SeqAt.EqAt.same _
   ·have z1:its.length=xs.length:=rI.length.symm;have z2:its'.length=ys.length:=a6.length.symm;have a7:=SeqAt.RcAt.tuples (A:=A) (s:=s) (e:=Nc ds es) pt a8 (by omega) (λj h1 h2=>by
     have g1:j<its.length:=by simpa using h1
     have g2:j<its'.length:=by simpa using h2
     have k1:ds[j]?=some ds[j]:=Ax (by omega);have k2:es[j]?=some es[j]:=Ax (by omega);obtain⟨w1,e1,a9⟩:=rI.get (Ax (show j<xs.length by omega));obtain⟨w2,e2,aa⟩:=a6.get (Ax (show j<ys.length by omega));have f1:its.toArray[j]=w1:=by
      have:=Ax g1;rw[e1] at this;simpa using(AO this).symm
     have f2:its'.toArray[j]=w2:=by
      have:=Ax g2;rw[e2] at this;simpa using(AO this).symm
     rw[f1,f2];refine ih j _ _ k1 (Ax (show j<xs.length by omega)) (a5 _ (List.getElem_mem _)) (by show A.units+1+n'<cLine;omega) (a0 j _ _ k2 (Ax (show j<ys.length by omega))) a9 aa ?_;rw[eqIt_iff,k1,k2,Option.some.injEq])
    refine SeqAt.EqAt.of_refs hp ?_;have eb:((List.range (min its.toArray.size its'.toArray.size)).all (Nc ds es)&&its.toArray.size==its'.toArray.size)=b:=by
     have s1:its.toArray.size=ds.length:=by simp;omega
     have s2:its'.toArray.size=es.length:=by simp;omega
     rw[s1,s2];by_cases hs:ds.length=es.length
     ·rw[hs,Nat.min_self,beq_self_eq_true,Bool.and_true,<-hs];rw[Iy,XT hs,J];exact⟨λz=>by rw[z],λz=>by injection z⟩
     ·have f:(ds.length==es.length)=false:=by simpa using hs
      rw[f,IJ];exact(AD.mpr λz=>hs (by have:=J.mp z;injection this with this;rw[this])).symm
    rw[eb] at a7;exact a7
  | @lst p' ys es h' a4 a0=>
   obtain rfl:=U.ref_of;have:b=false:=AD.mpr λz=>nomatch (J.mp z)
   subst this;obtain⟨its',_,pl,_⟩:=I.list h';exact SeqAt.EqAt.tuple_list pt pl.isList (by omega)
 | @lst p xs ds h hl hr ih=>
  intro n A e y u v b a5 hn r' ru U J;obtain rfl:=ru.ref_of;obtain⟨its,rI,pt,_⟩:=I.list h;cases a5 with
  | @lst n' _ a5=>
  cases r' with
  | non=>obtain rfl:v=Value.none:=U;have:b=false:=AD.mpr λz=>nomatch (J.mp z);subst this;exact SeqAt.EqAt.list_none pt.isList (by omega)
  | int j=>obtain⟨t,rfl⟩:=U;have:b=false:=AD.mpr λz=>nomatch (J.mp z);subst this;exact SeqAt.EqAt.list_int _ _ pt.isList (by omega)
  | bl c=>obtain rfl:v=Value.bool c:=U;have:b=false:=AD.mpr λz=>nomatch (J.mp z);subst this;exact SeqAt.EqAt.list_bool _ pt.isList (by omega)
  | str j=>obtain⟨t,rfl⟩:=U;have:b=false:=AD.mpr λz=>nomatch (J.mp z);subst this;exact SeqAt.EqAt.list_str _ _ pt.isList (by omega)
  | @tup p' ys es h' a4 a0=>
   obtain rfl:=U.ref_of;have:b=false:=AD.mpr λz=>nomatch (J.mp z)
   subst this;obtain⟨its',_,pl,_⟩:=I.tuple h';exact SeqAt.EqAt.list_tuple pt.isList pl (by omega)
  | @lst p' ys es h' a4 a0=>
   obtain rfl:=U.ref_of;obtain⟨its',a6,a8,_⟩:=I.list h';by_cases hp:p=p'
   ·subst hp;have:D.lst ds=D.lst es:=Rep.inj I (.lst h hl hr) (.lst h' a4 a0);rw[J.mpr this];exact SeqAt.EqAt.same _
   ·have z1:its.length=xs.length:=rI.length.symm;have z2:its'.length=ys.length:=a6.length.symm;refine SeqAt.EqAt.of_refs hp ?_;have s1:its.toArray.size=ds.length:=by simp;omega
    have s2:its'.toArray.size=es.length:=by simp;omega
    by_cases hs:ds.length=es.length
    ·have a7:=SeqAt.RcAt.lists (A:=A) (s:=s) (e:=Nc ds es) pt.isList a8.isList (by rw[s1,s2,hs]) (by omega) (λj h1 h2=>by
      have g1:j<its.length:=by simpa using h1
      have g2:j<its'.length:=by simpa using h2
      have k1:ds[j]?=some ds[j]:=Ax (by omega);have k2:es[j]?=some es[j]:=Ax (by omega);obtain⟨w1,e1,a9⟩:=rI.get (Ax (show j<xs.length by omega));obtain⟨w2,e2,aa⟩:=a6.get (Ax (show j<ys.length by omega));have f1:its.toArray[j]=w1:=by
       have:=Ax g1;rw[e1] at this;simpa using(AO this).symm
      have f2:its'.toArray[j]=w2:=by
       have:=Ax g2;rw[e2] at this;simpa using(AO this).symm
      rw[f1,f2];refine ih j _ _ k1 (Ax (show j<xs.length by omega)) (a5 _ (List.getElem_mem _)) (by show A.units+1+n'<cLine;omega) (a0 j _ _ k2 (Ax (show j<ys.length by omega))) a9 aa ?_;rw[eqIt_iff,k1,k2,Option.some.injEq])
     have eb:(List.range its.toArray.size).all (Nc ds es)=b:=by
      rw[s1,Iy,XT hs,J];exact⟨λz=>by rw[z],λz=>by injection z⟩
     rw[eb] at a7;exact a7
    ·have:b=false:=AD.mpr λz=>hs (by have:=J.mp z;injection this with this;rw[this])
     subst this;exact SeqAt.RcAt.lists_lengths pt.isList a8.isList (by rw[s1,s2];simpa using hs) (by omega)
theorem VE (I:Inv X pins σ H s){A:Around}{n:Nat}{ds es:List D}{xs ys:List V}{its its':List Value}(hdb:∀d∈ds,DB n d)(hn:A.units+1+n<cLine)
  (hl:ds.length=xs.length) (hr:∀(i:Nat) d x,ds[i]?=some d->xs[i]?=some x->Rep X.K H d x) (hl':es.length=ys.length) (hr':∀(i:Nat) d x,es[i]?=some d->ys[i]?=some x->Rep X.K H d x)
  (rI:Vals xs its) (rI':Vals ys its'):∀j (h1:j<its.toArray.size) (h2:j<its'.toArray.size),SeqAt.EqAt A.in1 s its.toArray[j] its'.toArray[j] (Nc ds es j):=λj h1 h2=>by
 have z1:its.length=xs.length:=rI.length.symm;have z2:its'.length=ys.length:=rI'.length.symm;have g1:j<its.length:=by simpa using h1
 have g2:j<its'.length:=by simpa using h2
 have k1:ds[j]?=some ds[j]:=Ax (by omega);have k2:es[j]?=some es[j]:=Ax (by omega);obtain⟨w1,e1,U⟩:=rI.get (Ax (show j<xs.length by omega));obtain⟨w2,e2,J⟩:=rI'.get (Ax (show j<ys.length by omega));have f1:its.toArray[j]=w1:=by
  have:=Ax g1;rw[e1] at this;simpa using(AO this).symm
 have f2:its'.toArray[j]=w2:=by
  have:=Ax g2;rw[e2] at this;simpa using(AO this).symm
 rw[f1,f2];refine HU I (hr j _ _ k1 (Ax (show j<xs.length by omega))) (hdb _ (List.getElem_mem _)) (by show A.units+1+n<cLine;omega) (hr' j _ _ k2 (Ax (show j<ys.length by omega))) U J ?_;rw[eqIt_iff,k1,k2,Option.some.injEq]
def Po (K:W.Frag)(neg:Bool):R2:=λx y H Q=>∃p r d e b,x=.ref p/\y=.ref r/\Rep K H d x/\Rep K H e y/\DB 30 d/\(b=true↔d=e)/\Q (.bl (if neg then !b else b)) H
theorem FA (hu:X.A.units+64<cLine):OpR X (compareOp .Eq) (Po X.K false):=by
 intro pins s σ H x y v u Q I rx ry h;obtain⟨p,r,d,e,b,rfl,rfl,rd,re,U,hb,q⟩:=h;obtain rfl:=rx.ref_of;obtain rfl:=ry.ref_of;have q:Q (.bl b) H:=q;cases rd with
 | @tup _ xs ds h1 hl hr=>
  obtain⟨its,rI,pt,_⟩:=I.tuple h1;cases U with
  | tup U=>
  cases re with
  | @tup _ ys es h2 a4 a0=>
   obtain⟨its',J,a5,_⟩:=I.tuple h2;refine SeqAt.eq_tupleAt pt a5 (by omega) (VE I U (by omega) hl hr a4 a0 rI J) ⟨.bl _,H,I,rfl,?_⟩;have z1:its.length=xs.length:=rI.length.symm;have z2:its'.length=ys.length:=J.length.symm;have eb:((List.range (min its.toArray.size its'.toArray.size)).all (Nc ds es)&&its.toArray.size==its'.toArray.size)=b:=by
    have s1:its.toArray.size=ds.length:=by simp;omega
    have s2:its'.toArray.size=es.length:=by simp;omega
    rw[s1,s2];by_cases hs:ds.length=es.length
    ·rw[hs,Nat.min_self,beq_self_eq_true,Bool.and_true,<-hs];rw[Iy,XT hs,hb];exact⟨λz=>by rw[z],λz=>by injection z⟩
    ·have f:(ds.length==es.length)=false:=by simpa using hs
     rw[f,IJ];exact(AD.mpr λz=>hs (by have:=hb.mp z;injection this with this;rw[this])).symm
   rw[eb];exact q
  | @lst _ ys es h2 a4 a0=>
   obtain⟨its',J,pl,_⟩:=I.list h2;have:b=false:=AD.mpr λz=>nomatch (hb.mp z)
   subst this;exact SeqAt.RcAt.tuple_list pt pl.isList (by omega) _ _ _ _ ⟨.bl _,H,I,rfl,q⟩
 | @lst _ xs ds h1 hl hr=>
  obtain⟨its,rI,pt,_⟩:=I.list h1;cases U with
  | lst U=>
  cases re with
  | @tup _ ys es h2 a4 a0=>
   obtain⟨its',J,pl,_⟩:=I.tuple h2;have:b=false:=AD.mpr λz=>nomatch (hb.mp z)
   subst this;exact SeqAt.RcAt.list_tuple pt.isList pl (by omega) _ _ _ _ ⟨.bl _,H,I,rfl,q⟩
  | @lst _ ys es h2 a4 a0=>
   obtain⟨its',J,a5,_⟩:=I.list h2;have z1:its.length=xs.length:=rI.length.symm;have z2:its'.length=ys.length:=J.length.symm;have s1:its.toArray.size=ds.length:=by simp;omega
   have s2:its'.toArray.size=es.length:=by simp;omega
   by_cases hs:ds.length=es.length
   ·refine SeqAt.eq_listAt pt.isList a5.isList (by rw[s1,s2,hs]) (by omega) (VE I U (by omega) hl hr a4 a0 rI J) ⟨.bl _,H,I,rfl,?_⟩;have eb:(List.range its.toArray.size).all (Nc ds es)=b:=by
     rw[s1,Iy,XT hs,hb];exact⟨λz=>by rw[z],λz=>by injection z⟩
    rw[eb];exact q
   ·have:b=false:=AD.mpr λz=>hs (by have:=hb.mp z;injection this with this;rw[this])
    subst this;exact SeqAt.eq_list_lengthsAt pt.isList a5.isList (by rw[s1,s2];simpa using hs) (by omega) ⟨.bl _,H,I,rfl,q⟩
theorem Fx (hu:X.A.units+64<cLine):OpR X (compareOp .NotEq) (Po X.K true):=by
 intro pins s σ H x y v u Q I rx ry h;obtain⟨p,r,d,e,b,rfl,rfl,rd,re,U,hb,q⟩:=h;obtain rfl:=rx.ref_of;obtain rfl:=ry.ref_of;have q:Q (.bl (!b)) H:=q;cases rd with
 | @tup _ xs ds h1 hl hr=>
  obtain⟨its,rI,pt,_⟩:=I.tuple h1;cases U with
  | tup U=>
  cases re with
  | @tup _ ys es h2 a4 a0=>
   obtain⟨its',J,a5,_⟩:=I.tuple h2;refine SeqAt.RcNeAt.tuples pt a5 (by omega) (VE I U (by omega) hl hr a4 a0 rI J) _ _ _ _ ⟨.bl _,H,I,rfl,?_⟩;have z1:its.length=xs.length:=rI.length.symm;have z2:its'.length=ys.length:=J.length.symm;have eb:((List.range (min its.toArray.size its'.toArray.size)).all (Nc ds es)&&its.toArray.size==its'.toArray.size)=b:=by
    have s1:its.toArray.size=ds.length:=by simp;omega
    have s2:its'.toArray.size=es.length:=by simp;omega
    rw[s1,s2];by_cases hs:ds.length=es.length
    ·rw[hs,Nat.min_self,beq_self_eq_true,Bool.and_true,<-hs];rw[Iy,XT hs,hb];exact⟨λz=>by rw[z],λz=>by injection z⟩
    ·have f:(ds.length==es.length)=false:=by simpa using hs
     rw[f,IJ];exact(AD.mpr λz=>hs (by have:=hb.mp z;injection this with this;rw[this])).symm
   rw[eb];exact q
  | @lst _ ys es h2 a4 a0=>
   obtain⟨its',J,pl,_⟩:=I.list h2;have:b=false:=AD.mpr λz=>nomatch (hb.mp z)
   subst this;exact SeqAt.RcNeAt.tuple_list pt pl.isList (by omega) _ _ _ _ ⟨.bl _,H,I,rfl,q⟩
 | @lst _ xs ds h1 hl hr=>
  obtain⟨its,rI,pt,_⟩:=I.list h1;cases U with
  | lst U=>
  cases re with
  | @tup _ ys es h2 a4 a0=>
   obtain⟨its',J,pl,_⟩:=I.tuple h2;have:b=false:=AD.mpr λz=>nomatch (hb.mp z)
   subst this;exact SeqAt.RcNeAt.list_tuple pt.isList pl (by omega) _ _ _ _ ⟨.bl _,H,I,rfl,q⟩
  | @lst _ ys es h2 a4 a0=>
   obtain⟨its',J,a5,_⟩:=I.list h2;have z1:its.length=xs.length:=rI.length.symm;have z2:its'.length=ys.length:=J.length.symm;have s1:its.toArray.size=ds.length:=by simp;omega
   have s2:its'.toArray.size=es.length:=by simp;omega
   by_cases hs:ds.length=es.length
   ·refine SeqAt.RcNeAt.lists pt.isList a5.isList (by rw[s1,s2,hs]) (by omega) (VE I U (by omega) hl hr a4 a0 rI J) _ _ _ _ ⟨.bl _,H,I,rfl,?_⟩;have eb:(List.range its.toArray.size).all (Nc ds es)=b:=by
     rw[s1,Iy,XT hs,hb];exact⟨λz=>by rw[z],λz=>by injection z⟩
    rw[eb];exact q
   ·have:b=false:=AD.mpr λz=>hs (by have:=hb.mp z;injection this with this;rw[this])
    subst this;exact SeqAt.RcNeAt.lists_lengths pt.isList a5.isList (by rw[s1,s2];simpa using hs) (by omega) _ _ _ _ ⟨.bl _,H,I,rfl,q⟩
def JA (K:W.Frag):R2:=λx y H Q=>mw x y H Q∨Po K false x y H Q
def Jy (K:W.Frag):R2:=λx y H Q=>mq x y H Q∨Po K true x y H Q
theorem FC (hu:X.A.units+64<cLine):OpR X (compareOp .Eq) (JA X.K):=op_eq.or (FA hu)
theorem Fy (hu:X.A.units+64<cLine):OpR X (compareOp .NotEq) (Jy X.K):=op_ne.or (Fx hu)
end
theorem Hk {i j:Int}:JA K (.int i) (.int j) H Q=Q (.bl (decide (i=j))) H:=by
 refine Eq.trans ?_ Dq;exact propext ⟨λh=>h.resolve_right (λ⟨_,_,_,_,_,e,_⟩=>nomatch e),.inl⟩
theorem SX {i j:Int}:Jy K (.int i) (.int j) H Q=Q (.bl (!decide (i=j))) H:=by
 refine Eq.trans ?_ Da;exact propext ⟨λh=>h.resolve_right (λ⟨_,_,_,_,_,e,_⟩=>nomatch e),.inl⟩
theorem Hj {i j}:JA K (.str i) (.str j) H Q=Q (.bl (decide (i=j))) H:=by
 refine Eq.trans ?_ Dp;exact propext ⟨λh=>h.resolve_right (λ⟨_,_,_,_,_,e,_⟩=>nomatch e),.inl⟩
theorem SW {i j}:Jy K (.str i) (.str j) H Q=Q (.bl (!decide (i=j))) H:=by
 refine Eq.trans ?_ E9;exact propext ⟨λh=>h.resolve_right (λ⟨_,_,_,_,_,e,_⟩=>nomatch e),.inl⟩
theorem Hl {i j}:JA K (.bl i) (.bl j) H Q=Q (.bl (decide (i=j))) H:=by
 refine Eq.trans ?_ Ds;exact propext ⟨λh=>h.resolve_right (λ⟨_,_,_,_,_,e,_⟩=>nomatch e),.inl⟩
theorem SY {i j}:Jy K (.bl i) (.bl j) H Q=Q (.bl (!decide (i=j))) H:=by
 refine Eq.trans ?_ De;exact propext ⟨λh=>h.resolve_right (λ⟨_,_,_,_,_,e,_⟩=>nomatch e),.inl⟩
theorem T4 {r}{d e}{b}(h1:Rep K H d (.ref p))(h2:Rep K H e (.ref r))(hd:DB 30 d)(hb:b=true↔d=e)(q:Q (.bl b) H):JA K (.ref p) (.ref r) H Q:=.inr ⟨p,r,d,e,b,rfl,rfl,h1,h2,hd,hb,q⟩
theorem Dd {r}{d e}{b}(h1:Rep K H d (.ref p))(h2:Rep K H e (.ref r))(hd:DB 30 d)(hb:b=true↔d=e)(q:Q (.bl (!b)) H):Jy K (.ref p) (.ref r) H Q:=.inr ⟨p,r,d,e,b,rfl,rfl,h1,h2,hd,hb,q⟩
abbrev fr (t b:Int):D:=.tup [.int t,.int b]
theorem HS {t b:Int}(h:Kt K H p [.int t,.int b]):Rep K H (fr t b) (.ref p):=by
 refine .tup h rfl λi d x e1 e2=>?_
 match i,e1,e2 with
 | 0,e1,e2=>cases e1;cases e2;exact .int _
 | 1,e1,e2=>cases e1;cases e2;exact .int _
 | k+2,e1,e2=>simp at e1
theorem SA {t b:Int}:DB (n+1) (fr t b):=.tup λd hd=>by
 simp at hd;rcases hd with rfl|rfl<;>exact .int _
end L2
namespace L2
theorem UM {a b:Int}(ha:0<=a)(hb:0<b):Int.gcd b (a % b)=Int.gcd a b:=by
 obtain ⟨n,rfl⟩:=Iv ha;obtain ⟨m,rfl⟩:=Iv (Int.le_of_lt hb);show Nat.gcd ((m:Int).natAbs) (((n:Int) % (m:Int)).natAbs)=Nat.gcd (n:Int).natAbs (m:Int).natAbs;rw [<-Int.natCast_emod,Int.natAbs_natCast,Int.natAbs_natCast,Int.natAbs_natCast,Nat.gcd_comm n m,Nat.gcd_comm m (n % m)];exact (Nat.gcd_rec m n).symm
theorem UL {a:Int}(ha:0<=a):(Int.gcd a 0:Int)=a:=by
 show((Nat.gcd a.natAbs 0:Nat):Int)=a;rw[Nat.gcd_zero_right];omega
theorem NW (a b:Int):Int.gcd (if a<0 then -a else a) (if b<0 then -b else b)=Int.gcd a b:=by
 have e:∀z:Int,(if z<0 then -z else z).natAbs=z.natAbs:=λz=>by split<;>omega
 show Nat.gcd _ _=Nat.gcd _ _;rw[e,e]
theorem VX (a:Int):0<=(if a<0 then -a else a):=by split<;>omega
def L1 (t b:Int):Int:=if b<0 then -(Int.gcd t b:Int) else(Int.gcd t b:Int)
def fnum (t b:Int):Int:=t.fdiv (L1 t b)
def fden (t b:Int):Int:=b.fdiv (L1 t b)
theorem NV {t b:Int}(hb:b≠0):0<(Int.gcd t b:Int):=by
 have h:0<Nat.gcd t.natAbs b.natAbs:=Nat.gcd_pos_of_pos_right _ (by omega);exact Int.natCast_pos.mpr h
theorem VH {t b:Int}(hb:b≠0):L1 t b≠0:=by
 have:=NV (t:=t) hb;unfold L1;split<;>omega
theorem F5 {t b:Int}:L1 t b∣t:=by
 unfold L1;split
 ·exact Int.neg_dvd.mpr (Int.gcd_dvd_left ..)
 ·exact Int.gcd_dvd_left ..
theorem F4 {t b:Int}:L1 t b∣b:=by
 unfold L1;split
 ·exact Int.neg_dvd.mpr (Int.gcd_dvd_right ..)
 ·exact Int.gcd_dvd_right ..
theorem JR {x d:Int}(h:d∣x):d*x.fdiv d=x:=by
 obtain⟨c,rfl⟩:=h;by_cases hd:d=0
 ·subst hd;simp
 ·rw[Int.mul_fdiv_cancel_left _ hd]
theorem VI {t b:Int}:L1 t b*fnum t b=t:=JR F5
theorem Jn {t b:Int}:L1 t b*fden t b=b:=JR F4
theorem UP {t b:Int}(hb:b≠0):0<fden t b:=by
 have h:=Jn (t:=t) (b:=b);have J:=NV (t:=t) hb;by_cases hn:b<0
 ·have e:L1 t b<0:=by unfold L1;rw[An hn];omega
  rcases Int.lt_trichotomy (fden t b) 0 with z|z|z
  ·have:=Int.mul_pos_of_neg_of_neg e z;omega
  ·rw[z] at h;simp at h;omega
  ·exact z
 ·have e:0<L1 t b:=by unfold L1;rw[Am hn];omega
  rcases Int.lt_trichotomy (fden t b) 0 with z|z|z
  ·have:=Int.mul_neg_of_pos_of_neg e z;omega
  ·rw[z] at h;simp at h;omega
  ·exact z
theorem N3 {t b:Int}(hb:b≠0):fnum t b*b=t*fden t b:=by
 have h1:=VI (t:=t) (b:=b);have h2:=Jn (t:=t) (b:=b);have:fnum t b*(L1 t b*fden t b)=L1 t b*fnum t b*fden t b:=by
  rw [<-IL,Int.mul_comm (fnum t b)]
 rw[h1,h2] at this;exact this
theorem NZ {t b:Int}(hb:b≠0):(fnum t b).natAbs<=t.natAbs:=by
 have h:(L1 t b*fnum t b).natAbs=t.natAbs:=by rw[VI]
 rw[IK] at h;have g:=VH (t:=t) hb;have:1<=(L1 t b).natAbs:=by omega
 calc (fnum t b).natAbs=1*(fnum t b).natAbs:=by omega
  _<=(L1 t b).natAbs*(fnum t b).natAbs:=Nat.mul_le_mul_right _ this
  _=t.natAbs:=h
theorem N2 {t b:Int}(hb:b≠0):(fden t b).natAbs<=b.natAbs:=by
 have h:(L1 t b*fden t b).natAbs=b.natAbs:=by rw[Jn]
 rw[IK] at h;have g:=VH (t:=t) hb;have:1<=(L1 t b).natAbs:=by omega
 calc (fden t b).natAbs=1*(fden t b).natAbs:=by omega
  _<=(L1 t b).natAbs*(fden t b).natAbs:=Nat.mul_le_mul_right _ this
  _=b.natAbs:=h
theorem NX {t b:Int}:(L1 t b).natAbs=Int.gcd t b:=by unfold L1;split<;>omega
theorem B3 {t b:Int}(hb:b≠0):(L1 t b).natAbs<=b.natAbs:=by
 rw[NX];show Nat.gcd t.natAbs b.natAbs<=b.natAbs;exact Nat.gcd_le_right _ (by omega)
theorem UQ {t b:Int}(hb:b≠0):Int.gcd (fnum t b) (fden t b)=1:=by
 have J:0<Nat.gcd t.natAbs b.natAbs:=Nat.gcd_pos_of_pos_right _ (by omega);have e1:(L1 t b).natAbs*(fnum t b).natAbs=t.natAbs:=by rw [<-IK,VI]
 have e2:(L1 t b).natAbs*(fden t b).natAbs=b.natAbs:=by rw [<-IK,Jn]
 have U:(L1 t b).natAbs=Nat.gcd t.natAbs b.natAbs:=NX;rw[U] at e1 e2;have h:=Nat.gcd_mul_left (Nat.gcd t.natAbs b.natAbs) (fnum t b).natAbs (fden t b).natAbs;rw[e1,e2] at h;show Nat.gcd _ _=1;have h':Nat.gcd t.natAbs b.natAbs*1=Nat.gcd t.natAbs b.natAbs*Nat.gcd (fnum t b).natAbs (fden t b).natAbs:=by rw[Nat.mul_one];exact h
 exact(Nat.eq_of_mul_eq_mul_left J h').symm
theorem Bd.fnum {m:Nat}{t b:Int}(h:Bd m t)(hb:b≠0):Bd m (fnum t b):=h.le (NZ hb)
theorem Bd.fden {m:Nat}{t b:Int}(h:Bd m b)(hb:b≠0):Bd m (fden t b):=h.le (N2 hb)
theorem CDivB.small {j:Int}(h0:j≠0)(h:j.natAbs<2 ^ 64):CDivB j:=⟨h0,(show Bd 64 j from h).mono (by decide)⟩
theorem Uy {a b c d:Int}(hb:0<b)(hd:0<d)(g1:Int.gcd a b=1)(g2:Int.gcd c d=1)(h:a*d=c*b):a=c/\b=d:=by
 have c1:Nat.Coprime b.natAbs a.natAbs:=by rw[Nat.coprime_comm];exact g1
 have J:Nat.Coprime d.natAbs c.natAbs:=by rw[Nat.coprime_comm];exact g2
 have hn:a.natAbs*d.natAbs=c.natAbs*b.natAbs:=by rw [<-IK,<-IK,h]
 have U:b.natAbs ∣ d.natAbs:=c1.dvd_of_dvd_mul_left (by rw [hn];exact Nat.dvd_mul_left _ _);have d2:d.natAbs ∣ b.natAbs:=J.dvd_of_dvd_mul_left (by rw [<-hn];exact Nat.dvd_mul_left _ _);have e:b.natAbs=d.natAbs:=Nat.dvd_antisymm U d2;have e2:b=d:=by omega
 subst e2;exact⟨Int.eq_of_mul_eq_mul_right (by omega) h,rfl⟩
end L2
set_option maxHeartbeats 4000000
namespace L2
open PySem PySem.Spec PyProof.Rows
structure XE (X:Cx)(scope:Scope)(cl:List (Str×Addr))(N:List Str)(caps:List (Option Nat)):Prop where
 clos:closureFor scope X.env=pure cl
 kind:scope.kind=.function
 nocell:∀y∈scope.names,y.2≠.cell
 names:∀y∈scope.names,y.2=.local->scope.names.lookup y.1=some .local
 sub:∀x c,cl.lookup x=some c->X.env.cells.lookup x=some c
 has:∀x,((relabel scope X.env).names.lookup x=some .cell∨(relabel scope X.env).names.lookup x=some .free)->∃c,cl.lookup x=some c
 cap:∀(i j:Nat) x,N[i]?=some x->caps[i]?=some (some j)->X.N[j]?=some x/\X.env.kindOf x=some .cell/\(relabel scope X.env).names.lookup x=some .cell
 len:caps.length=N.length
def KD (caps:List (Option Nat))(σ:St):St:=caps.map λo=>match o with|some j=>(σ[j]?).join|none=>none
abbrev Lw (X:Cx)(scope:Scope)(cl:List (Str×Addr))(N:List Str)(C:Addr)(s:Shared)(H:Hp)(ex:List Addr):Cx:=
 { X with N:=N,s₀:=s,H₀:=H,env:=compEnvC scope cl C X.env,outer:=X.stack,stack:=X.stack,ex:=ex,fn:=λx=>(cl.lookup x).isNone,pn:=[],xe:=λ_ _=>False }
section
variable {X:Cx} {pins:List (Addr×Obj)} {σ:St} {H:Hp} {s:Shared} {scope:Scope} {cl:List (Str×Addr)} {N:List Str} {caps:List (Option Nat)} {fp:List Addr} {C:Addr}
theorem Ee (I:Inv X pins σ H s)(O:XE X scope cl N caps)(hf:∀b∈fp,W4 X pins H b)(hC:s.heap.objs.size<=C)(hlt:∀b∈fp,b<s.heap.objs.size):(Lw X scope cl N C s H fp).Ok where
 mod:=I.ok.mod
 kind:=O.kind
 glob:=I.ok.glob
 blt:=I.ok.blt
 above:=hC
 inj:=λx y c h1 h2=>I.ok.inj x y c (O.sub x c h1) (O.sub y c h2)
 has:=λx h=>O.has x h
 cab:=λx c h1 h2=>by
  have h1:(cl.lookup x).isNone=true:=h1;have h2:cl.lookup x=some c:=h2;rw[h2] at h1;cases h1
 hd:=I.ok.hd
 frames:=I.ok.frames
 stk:=.inl rfl
 exf:=λb J=>⟨AQ (AW (hlt b J) hC),λx c h=>(hf b J).2.2.2.2.1 x c (O.sub x c h)⟩
 bs:=I.bs
 bsz:=A4 I.ok.bsz I.sz
 noex:=λb o e J=>by
  rcases(hf b J).2.2.2.1 with z|z
  ·exact I.ok.noex b o e z
  ·exact absurd (AW (AW (AC e) I.ok.bsz) z) (Ij _)
 exfs:=λb J z=>by
  rcases AF.mp (I.stkSub b z) with q|q
  ·exact(hf b J).2.1 q
  ·exact(hf b J).2.2.1 q
 funs:=I.stack
 frf:=I.stkFree
theorem Ro (h:(KD caps σ)[i]?=some (some v)):∃j,caps[i]?=some (some j)/\σ[j]?=some (some v):=by
 unfold KD at h;rw[AS] at h;cases e:caps[i]? with
 | none=>rw[e] at h;cases h
 | some o=>
  rw[e] at h;cases o with
  | none=>cases h
  | some j=>
   refine⟨j,rfl,?_⟩;have h:(σ[j]?).join=some v:=AO h;cases e2:σ[j]? with
   | none=>rw[e2] at h;cases h
   | some q=>rw[e2] at h;rw[show q=some v from h]
theorem Le (I:Inv X pins σ H s)(O:XE X scope cl N caps)(hf:∀b∈fp,W4 X pins H b)(hlt:∀b∈fp,b<s.heap.objs.size){h'}{t':Nat}{m}(keep:∀b o,s.heap.get? b=some o->h'.get? b=some o)(hC:s.heap.objs.size<=C)(ns:h'.Ns C m) :
  Inv (Lw X scope cl N C s H fp) [] (KD caps σ) H { s with heap:=h',toks:=t' }:=by
 refine⟨Ee I O hf hC hlt,rfl,I.bare,Un.kept keep,⟨m,ns,λi x v h1 h2 h3=>?_⟩,λx c e=>?_,I.hok.fresh hC,λx c e=>I.freeC x c (O.sub x c e),λp hp=>absurd (show p∈([]:List (Addr×Obj)) from hp) (by simp),I.hok.kept keep,?_⟩
 ·obtain⟨j,e1,e2⟩:=Ro h2;obtain⟨k1,k2,k3⟩:=O.cap i j x h1 e1;obtain⟨m0,_,hl⟩:=I.loc;obtain⟨u,r,l⟩:=hl j x v k1 e2 (.inr (.inl k2));refine⟨u,r,?_⟩;rcases l with ⟨z,_⟩|⟨_,c,e,z⟩
  ·rw[k2] at z;cases z
  ·obtain⟨U,J⟩:=O.has x (.inl k3);have:=O.sub x U J;rw[e] at this;cases this;exact .inr ⟨.inl k3,c,J,z.keeps keep⟩
 ·obtain⟨v,z⟩:=I.cell x c (O.sub x c e);exact⟨v,z.keeps keep⟩
 ·show(KD caps σ).length=N.length;unfold KD;rw[As,O.len]
theorem TH (I:Inv X pins σ H s)(hf:∀b∈fp,W4 X pins H b){pins'}{σ'}{H'}{s'}{h'}(J:Inv (Lw X scope cl N C s H fp) pins' σ' H' s')(hC:s.heap.objs.size<=C)(sb:Heap.SameBut C s'.heap h') :
  Inv X pins σ H' { s' with heap:=h' }:=by
 have ne:∀b o,s.heap.get? b=some o->b≠C:=λb o e=>AQ (AW (AC e) hC)
 have u:Un (Nb X.stack) fp H H' s.heap s'.heap:=J.base;have U:H' C=none:=J.free;refine I.call' (s':={ s' with heap:=h' }) (ch:=fp) J.os ⟨λb o e n h1 h2=>(sb.2 b (ne b o e)).trans (u.keep b o e n h1 h2),λb o e n h1 h2=>?_,u.free,λb o e h1=>?_,u.tups,u.frzs,u.tbls⟩ (λb o e=>?_) J.bare λb hb=>(hf b hb).2.2.2 |> λz=>⟨z.1,(hf b hb).2.1,z.2.1,z.2.2⟩
 ·obtain⟨sl,q⟩:=u.slot b o e n h1 h2;exact⟨sl,(sb.2 b (ne b o e)).trans q⟩
 ·obtain⟨o',q⟩:=u.there b o e h1;exact⟨o',(sb.2 b (ne b o e)).trans q⟩
 ·refine(J.hok b o e).stay (λc w' hc q=>(sb.2 c ?_).trans q) (λ_ q=>q) λ_ _ q=>q
  rintro rfl;rcases hc with rfl|hc
  ·rw[U] at e;cases e
  ·rw[U] at hc;cases hc
theorem Inv.track {D}(I:Inv X pins σ H s)(h0:X.s₀.heap.objs.size<=D)(hn:H D=none)(hL:D≠X.env.locals)(h2:∀x c,X.env.cells.lookup x=some c->c≠D)(h3:∀p∈X.pn++pins,p.1≠D)(new:ObjOk X.prog X.w (upd H D o) s.heap D o) :
  Inv X pins σ (upd H D o) s:=by
 have U:∀b u,H b=some u->b≠D:=λb u e=>Qj e hn
 have:=I.step (h':=s.heap) (H':=upd H D o) (g':=s.gens) (t':=s.toks) (d':=s.drawn) (ch:=[D]) (λb J=>?_) (λb o _ _ _ e _=>e) (λb o _ _ _ e _=>⟨o.slots,e⟩) (λb u J _ n=>by rw[Qk (by simpa using J)];exact n) (λb o _ e=>⟨o,e⟩)
  (λb xs e=>by rw[Qk (U b _ e)];exact e) (λb o' u e=>by rw[Qk (U b _ e)];exact e) (λb ps e=>⟨#[],by rw[Qk (U b _ e),e];simp⟩) (λ_ z=>z) (λb u e=>?_) I.bare
 ·exact this
 ·have e:b=D:=by simpa using J
  subst e;exact⟨.inr h0,hL,h2,h3⟩
 ·by_cases J:b=D
  ·subst J;rw[Qb] at e;cases e;exact new
  ·rw[Qk J] at e;exact(I.hok b u e).stay (λ_ _ _ q=>q) (λc q=>by rw[Qk (U c _ q)];exact q) λc xs q=>by rw[Qk (U c _ q)];exact q
end
def nH (X:Cx)(ifs:List Expr)(t:TT):Prop:=
 ∀(pins:List (Addr×Obj)) (s:Shared) (σ:St) (H:Hp) (Q:Bool->Hp->Prop),Inv X pins σ H s->t σ H Q ->
  wpAny (model X.prog X.w) X.A (forIn ifs true λc r=>if r=true then do let ok <-isTrue c X.env (eval c X.env);pure (ForInStep.yield ok) else pure (ForInStep.yield r)) (TP X pins σ Q) X.xe s
def RV:TT:=λ_ H Q=>Q true H
theorem QL:nH X [] RV:=λ_ _ _ H _ I h=>wpAny_tests_nil ⟨H,I,h⟩
theorem Wa {c}{t}(h:PT X c t):nH X [c] t:=λpins s σ H Q I q=>wpAny_tests_one (h pins s σ H Q I q)
def U7 (J:It)(g:TG)(tt:TT)(te:TE)(σ0:St)(H1:Hp)(Q:VK):Prop:=
 ∃W:Nat->Nat->List V->St->Hp->Prop,(∃m,W 0 m [] σ0 H1)/\∀i m acc σ H,W i m acc σ H ->
  (J.stop i H/\∀p,H p=none->Q (.ref p) (upd H p (.lst acc))) ∨
  (J.go i H/\acc.length<sizeLine/\∀x H',J.yld i H x H'->g x σ H' λU H2=>tt U H2 λb H3=>
   if b=true then te U H3 λv H4=>∃m',m'<m/\W (i+1) m' (acc++[v]) U H4 else ∃m',m'<m/\W (i+1) m' acc U H3)
def Y4 (caps:List (Option Nat))(wi:TI)(g:TG)(tt:TT)(te:TE):TE:=λσ H Q=>wi σ H λJ H1=>U7 J g tt te (KD caps σ) H1 Q
theorem VN {R}{target}{it acc}(I:Nat->Shared->Prop)
  (turn:∀n s,I n s->wpAny (model prog w) A (pyNext it) (λr J=>match r with
   | none=>R (.ok .next) J
   | some v=>wpAny (model prog w) A (letOwnedTupleGo target it v) (λ_ s₀=>wpAny (model prog w) A (assign target env v) (λ_ s₂=>
     wpAny (model prog w) A (forIn ifs true λc r=>if r=true then do let ok <-isTrue c env (eval c env);pure (ForInStep.yield ok) else pure (ForInStep.yield r)) (λok U=>
      if ok=true then wpAny (model prog w) A (eval elt env) (λx s₄=>
       wpAny (model prog w) A (call (.builtin "list.append") [acc,x]) (λ_ s₅=>∃m,m<n/\I m s₅) (λ_ _=>False) s₄) (λ_ _=>False) U
      else ∃m,m<n/\I m U) (λ_ _=>False) s₂) (λ_ _=>False) s₀) (λ_ _=>False) J) (λ_ _=>False) s)
  (n:Nat) (h:I n s):codeAny (model prog w) A (.compLoop (.ListComp elt [⟨target,iter,ifs,0⟩] scope pos) 0 it acc env) R s:=by
 refine codeAny_loop rfl I (λn s hI=>?_) n h;show wpAny _ A ((compTurn (.ListComp elt [⟨target,iter,ifs,0⟩] scope pos) 0 it acc env).onRaise (λx=>do noteFrame x env;theTreesLotGoes x)) _ _ s;refine wpAny_noted ?_;rw[compTurn_list];refine Aw (wpAny_standAt (Aw (A9 (turn n s hI) (λr J h₁=>?_) λ_ _ h'=>Gh h')));cases r with
 | none=>exact AM h₁
 | some v=>
  refine Aw (A9 h₁ (λ_ s₀ h₀=>?_) λ_ _ h'=>Gh h');refine Aw (A9 h₀ (λ_ s₂ h₂=>Aw (A9 h₂ (λok U h₃=>?_) λ_ _ h'=>Gh h')) λ_ _ h'=>Gh h');cases ok with
  | false=>exact AM ⟨rfl,h₃⟩
  | true=>
   exact Aw (Aw (A9 h₃ (λx s₄ h₄=>Aw (A9 h₄ (λ_ s₅ h₅=>AM (AM ⟨rfl,h₅⟩)) λ_ _ h'=>Gh h')) λ_ _ h'=>Gh h'))
section
variable {X:Cx}
theorem K2 {cl}{N}{p1}{use}{R}(hc:X.calm=true)(O:XE X scope cl N caps)
  (hi:PI X tg iter wi) (hg:∀C s H ex,PG (Lw X scope cl N C s H ex) tg g) (ht:∀C s H ex,nH (Lw X scope cl N C s H ex) ifs tt) (he:∀C s H ex,PE (Lw X scope cl N C s H ex) elt te)
  (hs:∀v,foldedSetIterable iter X.env v=pure v) (I:Inv X pins σ H s) (h:Y4 caps wi g tt te σ H Q)
  (fin:∀{C Dl:Addr} {s4:Shared} {H':Hp} {m:Str->Option Value} {r:Flow},Inv X pins σ H' s4->s4.heap.Ns C m->Q (.ref Dl) H'->H' C=none->C≠X.env.locals->X.s₀.heap.objs.size<=C->(∀x c,X.env.cells.lookup x=some c->c≠C)->(∀p∈X.pn++pins,p.1≠C)->compPost (model X.prog X.w) X.A X.xe use R (.ref Dl) C (.ok r) s4) :
  wpAny (model X.prog X.w) X.A (comprehension (.ListComp elt [⟨tg,iter,ifs,0⟩] scope pos) scope X.env p1 (newList []) false (eval iter X.env) use) R X.xe s:=by
 refine wpAny_comprehension_free (use:=use) rfl hs O.clos O.kind O.names (Kw (hi pins s σ H _ I h) fun v s1 h1=>Kw h1 fun ba s2 h2=>?_);obtain ⟨it,fp,tn,J,H2,e,I2,T,av,f2,W,⟨m0,w0⟩,au⟩:=h2;subst e;refine wpAny_newObj_type (wpAny_newFunctionEnv O.nocell (by intro y hy;simp at hy) (fun h₁ aa a5=>?_) O.kind);dsimp only at aa a5 ⊢;generalize ak:s2.heap.push { cls:=.type "list",dict:=none,data:=.seq ([]:List Value).toArray }=P2 at aa a5 ⊢;have hC:P2.objs.size=s2.heap.objs.size+1:=by rw [<-ak,Heap.size_push]
 have a7:s2.heap.objs.size≠P2.objs.size:=by rw[hC];exact AQ (IF _)
 have a4:s2.heap.objs.size<=P2.objs.size:=by rw[hC];exact IH _
 have aq:∀b o,s2.heap.get? b=some o->h₁.get? b=some o:=λb o e=>a5.extBut b o (AQ (AW (AC e) a4)) (AI _ (ak▸AI _ e))
 have ao:h₁.PlainList s2.heap.objs.size #[]:=⟨_,a5.extBut _ _ a7 (AI _ (ak▸Ia _ rfl))⟩
 have a6:∀b∈fp,b<s2.heap.objs.size:=λb U=>by
  obtain⟨o,e,_⟩:=T.obj 0 _ av b U;exact AC e
 generalize bb:P2.objs.size=C at *;generalize a0:s2.heap.objs.size=Dl at *;have I3:Inv (Lw X scope cl N C s2 H2 fp) [] (KD caps σ) H2 { s2 with heap:=h₁,toks:=s2.toks+([]:List (Str×Value)).length }:=Le I2 O f2 (by rw[a0];exact a6) aq (by rw[a0];exact a4) aa;have a8:tn 0 h₁:=T.keep 0 _ _ av λb _ o e=>aq b o e
 have b0:H2 Dl=none:=I2.hok.fresh (by rw[a0];exact Au _);have b6:∀b∈fp,b∉Nb X.stack:=λb U z=>by
  rcases AF.mp (I2.stkSub b z) with q|q
  ·exact(f2 b U).2.1 q
  ·exact(f2 b U).2.2.1 q
 have a9:∀{H':Hp},(∀b∈fp,H' b=none)->∀b∈fp,W4 (Lw X scope cl N C s2 H2 fp) [] H' b:=λhn b U=>
  ⟨hn b U,AQ (AW (a6 b U) a4),b6 b U,.inl U,λx c e=>(f2 b U).2.2.2.2.1 x c (O.sub x c e),λp hp=>absurd (show p∈([]:List (Addr×Obj)) from hp) (by simp)⟩
 have ah:∀x c,cl.lookup x=some c->c≠Dl:=λx c e z=>by
  obtain⟨v,q⟩:=I2.cell x c (O.sub x c e);have:=q.lt;rw[a0] at this;exact Ij _ (z▸this)
 have ab:Dl∉Nb X.stack:=λz=>by
  have:=I2.stkSub Dl z;rcases AF.mp this with q|q
  ·have:=I2.lt;rw[a0] at this;exact Ij _ (q▸this)
  ·exact I2.nofs (by rw[a0];exact Au _) q
 have ag:∀{H':Hp},H' Dl=none->W4 (Lw X scope cl N C s2 H2 fp) [] H' Dl:=λhn=>⟨hn,a7,ab,.inr (Nat.le_of_eq a0),ah,λp hp=>absurd (show p∈([]:List (Addr×Obj)) from hp) (by simp)⟩
 have ae:∀s₃:Shared,s₃={ s2 with heap:=h₁,toks:=s2.toks+([]:List (Str×Value)).length } ->
   codeAny (model X.prog X.w) X.A (.compLoop (.ListComp elt [⟨tg,iter,ifs,0⟩] scope pos) 0 (.ref it) (.ref Dl) (compEnvC scope cl C X.env))
    (compPost (model X.prog X.w) X.A X.xe use R (.ref Dl) C) s₃:=by
  intro s₃ ay;subst ay;refine VN (λn s'=>∃i σ' H' acc its,Inv (Lw X scope cl N C s2 H2 fp) [] σ' H' s'/\tn i s'.heap/\(∀b∈fp,H' b=none)/\H' Dl=none/\Vals acc its/\s'.heap.PlainList Dl its.toArray/\acc.length<=sizeLine/\W i n acc σ' H') ?_ m0
   ⟨0,KD caps σ,H2,[],[],I3,a8,λb U=>(f2 b U).1,b0,.nil,ao,AZ _,w0⟩
  rintro n s3 ⟨i,σ3,H3,acc,its,J3,a8,fr3,d3,va,pl3,la,w3⟩;rcases au i n acc σ3 H3 w3 with ⟨aw,qn⟩|⟨go,la2,step⟩
  ·refine Kw (T.done (Lw X scope cl N C s2 H2 fp) rfl rfl rfl hc i [(Dl,{ cls:=.type "list",data:=.seq its.toArray (Classical.choose pl3) })] s3 σ3 H3 (λ_ _=>False) (J3.pins_of λp hp=>?_) (λb U=>?_) a8 aw) λr s4 ⟨hr,J4⟩=>?_
   ·have e:=AA.mp (show p∈[_] from hp);subst e;exact⟨qU pl3,d3,a7,ab,λv z=>by cases z⟩
   ·obtain ⟨q1,q2,q3,q4,q5,q6⟩:=a9 fr3 b U;refine ⟨q1,q2,q3,q4,q5,fun p hp z=>?_⟩;have e:=AA.mp (show p∈[_] from hp);subst e;exact absurd (a6 b U) (by rw [<-z];exact Ij _)
   ·subst hr;obtain⟨m,hn,_⟩:=J4.loc;have pD:=J4.pin (Dl,_) (by simp;rfl);have J5:=TH I2 f2 J4 (by rw[a0];exact a4) (⟨rfl,λ_ _=>rfl⟩:Heap.SameBut C s4.heap s4.heap);have aj:∀{z:Addr},z<Dl->z≠Dl/\z≠C:=λq=>⟨AQ q,AQ (AW q a4)⟩
    have eL:=aj (a0▸I2.lt);have eC:∀y c,X.env.cells.lookup y=some c->c≠Dl/\c≠C:=λy c e=>by
     obtain⟨v,q⟩:=I2.cell y c e;exact aj (a0▸q.lt)
    have eP:∀p∈X.pn++pins,p.1≠Dl/\p.1≠C:=λp hp=>aj (a0▸AC (I2.pin p hp).1)
    have sz:=I2.sz;rw[a0] at sz;exact fin (J5.track (o:=.lst acc) sz d3 eL.1.symm (λy c e=>(eC y c e).1) (λp hp=>(eP p hp).1) ⟨la,its,_,va,pD.1⟩) hn (qn _ d3) ((Qk (Ir a7)).trans J4.free) eL.2.symm (A4 sz a4) (λy c e=>(eC y c e).2) (λp hp=>(eP p hp).2)
  ·refine Kw (T.item (Lw X scope cl N C s2 H2 fp) rfl rfl rfl hc i [(Dl,{ cls:=.type "list",data:=.seq its.toArray (Classical.choose pl3) })] s3 σ3 H3 (λ_ _=>False) (J3.pins_of λp hp=>?_) (λb U=>?_) a8 go) λr s4 ⟨u,hr,h4⟩=>?_
   ·have e:=AA.mp (show p∈[_] from hp);subst e;exact⟨qU pl3,d3,a7,ab,λv z=>by cases z⟩
   ·obtain ⟨q1,q2,q3,q4,q5,q6⟩:=a9 fr3 b U;refine ⟨q1,q2,q3,q4,q5,fun p hp z=>?_⟩;have e:=AA.mp (show p∈[_] from hp);subst e;exact absurd (a6 b U) (by rw [<-z];exact Ij _)
   ·subst hr;refine Kw h4 λ_ s5 ⟨y,H5,J5,r5,y5,ai,ax⟩=>?_
    have az:Inv (Lw X scope cl N C s2 H2 fp) ([(Dl,{ cls:=.type "list",data:=.seq its.toArray (Classical.choose pl3) })]++WC fp s5.heap) σ3 H5 s5:=J5.pinned (λb U=>by
     obtain ⟨q1,q2,q3,q4,q5,q6⟩:=a9 ax b U;refine ⟨q1,q2,q3,q4,q5,fun p hp z=>?_⟩;have e:=AA.mp (show p∈[_] from hp);subst e;exact absurd (a6 b U) (by rw [<-z];exact Ij _)) (T.obj _ _ ai)
    refine Kw (hg C s2 H2 fp _ s5 σ3 H5 y u _ az r5 (step y H5 y5)) λ_ s6 ⟨σ6,H6,J6,q6⟩=>?_
    refine Kw (ht C s2 H2 fp _ s6 σ6 H6 _ J6 q6) λok s7 ⟨H7,J7,q7⟩=>?_
    have af:∀{H8:Hp} {s8:Shared},Inv (Lw X scope cl N C s2 H2 fp) ([(Dl,{ cls:=.type "list",data:=.seq its.toArray (Classical.choose pl3) })]++WC fp s5.heap) σ6 H8 s8 ->
      tn (i+1) s8.heap/\(∀b∈fp,H8 b=none)/\H8 Dl=none/\s8.heap.PlainList Dl its.toArray:=λ{H8 s8} J8=>by
     have pb:∀b∈fp,∀o,s5.heap.get? b=some o->s8.heap.get? b=some o/\H8 b=none:=λb U o e=>by
      have:=J8.pin (b,o) (Ic _ (Ic _ (YS U e)));exact⟨this.1,this.2.1⟩
     have pd:=J8.pin (Dl,_) (Ic _ (Im _ (AA.mpr rfl)));refine⟨T.keep _ _ _ ai λb U o e=>(pb b U o e).1,λb U=>?_,pd.2.1,⟨_,pd.1⟩⟩;obtain⟨o,e,_⟩:=T.obj _ _ ai b U;exact(pb b U o e).2
    cases ok with
    | false=>
     rw[Am A2] at q7 ⊢;obtain⟨m',hm,w7⟩:=q7;obtain⟨b1,b2,b3,b4⟩:=af J7;exact⟨m',hm,i+1,σ6,H7,acc,its,J7.pins_of (λp hp=>absurd hp (by simp)),b1,b2,b3,va,b4,la,w7⟩
    | true=>
     rw[An rfl] at q7 ⊢;refine Kw (he C s2 H2 fp _ s7 σ6 H7 _ J7 q7) λz s8 ⟨zv,H8,J8,r8,q8⟩=>?_
     obtain⟨m',hm,w8⟩:=q8;obtain⟨b1,b2,b3,b4⟩:=af J8;have z1:its.length=acc.length:=va.length.symm;refine wpAny_list_append_plain (hsz:=by rw[AR];omega) b4 λh9 b5 ar=>?_
     have J9:Inv (Lw X scope cl N C s2 H2 fp) [] σ6 H8 { s8 with heap:=h9,toks:=s8.toks }:=by
      obtain⟨k0,k1,k2,k3,k4,k5⟩:=ag (H':=H8) b3;exact(J8.pins_of (pins':=[]) (λp hp=>absurd hp (by simp))).turned (it:=Dl) (λb o U e=>(ar.2 b U).trans e) k0 k1 k3 k4 k5
     refine⟨m',hm,i+1,σ6,H8,acc++[zv],its++[z],J9,T.keep _ _ _ b1 λb U o e=>(ar.2 b (AQ (a6 b U))).trans e,b2,b3,va.append (.cons r8 .nil),?_,?_,w8⟩
     ·simpa using b5
     ·rw[Aq,Av];omega
 exact codeAny_compStart_list (ae _ rfl) (T.self X.A 0 _ _ _ a8 (ae _ rfl))
theorem Uq {cl}{N}(hc:X.calm=true)(O:XE X scope cl N caps)
  (hi:PI X tg iter wi) (hg:∀C s H ex,PG (Lw X scope cl N C s H ex) tg g) (ht:∀C s H ex,nH (Lw X scope cl N C s H ex) ifs tt) (he:∀C s H ex,PE (Lw X scope cl N C s H ex) elt te)
  (hs:∀v,foldedSetIterable iter X.env v=pure v:=by intro _;rfl):PE X (.ListComp elt [⟨tg,iter,ifs,0⟩] scope pos) (Y4 caps wi g tt te):=λpins s σ H Q I h=>by
 rw[eval_ListComp];exact K2 hc O hi hg ht he hs I h λJ hn q fr nL hz U hp=>⟨_,hn,λh' sb=>⟨.ref _,_,J.turned (λb o hb e=>(sb.2 b hb).trans e) fr nL (.inr hz) U hp,rfl,q⟩⟩
theorem CD {cl}{N}(hc:X.calm=true)(O:XE X scope cl N caps)
  (hi:PI X (.Name x px) iter wi) (hg:∀C s H ex,PG (Lw X scope cl N C s H ex) (.Name x px) g) (ht:∀C s H ex,nH (Lw X scope cl N C s H ex) ifs tt) (he:∀C s H ex,PE (Lw X scope cl N C s H ex) elt te)
  (hs:∀v,foldedSetIterable iter X.env v=pure v:=by intro _;rfl):PE X (.ListComp elt [⟨.Name x px,iter,ifs,0⟩] scope pos) (Y4 caps wi g tt te):=Uq hc O hi hg ht he hs
end
theorem ObjOk.there {h}{a}(x:ObjOk P w H h a o):∃u,h.get? a=some u:=by
 cases o with
 | lst xs=>obtain⟨_,_,_,_,e⟩:=x;exact⟨_,e⟩
 | tup xs=>obtain⟨_,_,_,_,e,_⟩:=x;exact⟨_,e⟩
 | dK kvs=>obtain⟨_,_,_,_,o,_,_,e,_⟩:=x;exact⟨_,e⟩
 | dT kvs=>obtain⟨_,_,_,_,o,_,_,e,_⟩:=x;exact⟨_,e⟩
 | set S n=>obtain⟨o,_,_,_,e,_⟩:=x;exact⟨_,e⟩
 | ins C dx fs=>obtain⟨_,_,_,e,_⟩:=x;exact⟨_,e⟩
 | own y=>exact x
 | xd fs=>obtain⟨_,⟨_,_,_,e,_⟩,_⟩:=x;exact⟨_,e⟩
 | rng lo hi=>obtain⟨_,_,_,e⟩:=x;exact⟨_,e⟩
 | frz J u=>obtain⟨e,_⟩:=x;exact⟨_,e⟩
 | tbl ps=>exact⟨_,show h.get? a=some _ from x⟩
 | met f y=>exact⟨_,show h.get? a=some _ from x⟩
 | ext φ=>obtain⟨_,e,_⟩:=x;exact e
theorem HOk.none_of {h}{a}(x:HOk P w H h)(e:h.get? a=none):H a=none:=by
 cases q:H a with
 | none=>rfl
 | some o=>
  obtain⟨u,z⟩:=(x a o q).there;rw[e] at z;cases z
section
variable {X:Cx} {pins:List (Addr×Obj)} {σ:St} {H H':Hp} {s:Shared} {h':Heap}
theorem Inv.stepN (I:Inv X pins σ H s)
  (hch:∀b∈ch,X.s₀.heap.get? b=none/\b≠X.env.locals/\(∀x c,X.env.cells.lookup x=some c->c≠b)/\∀p∈X.pn++pins,p.1≠b)
  (keep:∀b o,b≠X.env.locals->b∉X.fs->b∉ch->s.heap.get? b=some o->H b=none->h'.get? b=some o)
  (slot:∀b o,b≠X.env.locals->b∈X.fs->b∉ch->s.heap.get? b=some o->H b=none->∃sl,h'.get? b=some { o with slots:=sl }) (free:∀b o,b∉ch->s.heap.get? b=some o->H b=none->H' b=none)
  (there:∀b o,b∉ch->s.heap.get? b=some o->∃o',h'.get? b=some o')
  (tups:∀b xs,H b=some (.tup xs)->H' b=some (.tup xs)) (frzs:∀b o u,H b=some (.frz o u)->H' b=some (.frz o u)) (tbls:∀b ps,H b=some (.tbl ps)->∃more,H' b=some (.tbl (ps++more)))
  (ns:∀m,s.heap.Ns X.env.locals m->h'.Ns X.env.locals m) (hok:HOk X.prog X.w H' h') :
  Inv X pins σ H' { s with heap:=h' }:=by
 have a4:∀b o,X.s₀.heap.get? b=some o->b≠X.env.locals:=λb o e=>AQ (AW (AC e) I.ok.above)
 have a0:∀b o,X.s₀.heap.get? b=some o->b∉ch:=λb o e hb=>by
  rw[(hch b hb).1] at e;cases e
 have U:∀x c,X.env.cells.lookup x=some c->∀v,s.heap.IsCell c v->h'.IsCell c v:=λx c e v ⟨o,ho,hd⟩=>by
  have J:c∉ch:=λz=>(hch c z).2.2.1 x c e rfl
  by_cases hc:c∈X.fs
  ·obtain⟨sl,q⟩:=slot c o (I.cne x c e) hc J ho (I.freeC x c e);exact⟨_,q,hd⟩
  ·exact⟨o,keep c o (I.cne x c e) hc J ho (I.freeC x c e),hd⟩
 refine⟨I.ok,I.os,I.bare,⟨λb o e n hb hx=>?_,λb o e n hb hx=>?_,λb o e n hx=>?_,λb o e hx=>?_,λb xs e=>tups b xs (I.base.tups b xs e),λb o xs e=>frzs b o xs (I.base.frzs b o xs e),λb ps e=>?_⟩,?_,λx c e=>?_,?_,λx c e=>?_,λp hp=>?_,hok,I.len⟩
 ·exact keep b o (a4 b o e) hb (a0 b o e) (I.base.keep b o e n hb hx) (I.base.free b o e n hx)
 ·obtain⟨sl,e1⟩:=I.base.slot b o e n hb hx;obtain⟨a5,e2⟩:=slot b _ (a4 b o e) hb (a0 b o e) e1 (I.base.free b o e n hx);exact⟨a5,e2⟩
 ·obtain⟨o',e1⟩:=I.base.there b o e hx;exact free b o' (a0 b o e) e1 (I.base.free b o e n hx)
 ·obtain⟨o',e1⟩:=I.base.there b o e hx;exact there b o' (a0 b o e) e1
 ·obtain⟨m1,e1⟩:=I.base.tbls b ps e;obtain⟨m2,e2⟩:=tbls b _ e1;exact⟨m1++m2,by rw[e2,Array.append_assoc]⟩
 ·obtain⟨m,hn,hl⟩:=I.loc;refine⟨m,ns m hn,λi x v e1 e2 e3=>?_⟩;obtain⟨u,r,l⟩:=hl i x v e1 e2 e3;refine⟨u,r,?_⟩;rcases l with l|⟨k,c,e,z⟩
  ·exact .inl l
  ·exact .inr ⟨k,c,e,U x c e _ z⟩
 ·obtain⟨v,z⟩:=I.cell x c e;exact⟨v,U x c e v z⟩
 ·obtain⟨m,⟨o,_,_,ho,_⟩,_⟩:=I.loc;exact free _ o (λz=>(hch _ z).2.1 rfl) ho I.free
 ·obtain⟨v,o,ho,hd⟩:=I.cell x c e;exact free c o (λz=>(hch c z).2.2.1 x c e rfl) ho (I.freeC x c e)
 ·obtain⟨e,n,ne,nf,d⟩:=I.pin p hp;have J:p.1∉ch:=λz=>(hch p.1 z).2.2.2 p hp rfl
  exact⟨keep p.1 p.2 ne nf J e n,free p.1 p.2 J e n,ne,nf,d⟩
def Ki (X:Cx)(pins:List (Addr×Obj))(H:Hp)(b:Addr):Prop:=H b=none/\X.s₀.heap.get? b=none/\∀p∈X.pn++pins,p.1≠b
def Air (X:Cx)(pins:List (Addr×Obj))(H:Hp)(h:Heap)(cls:Value)(e:Addr):Prop:=
 ∃oe vs T oT ts a0,h.get? e=some oe/\(oe.cls=cls/\vs[0]?=some a0)/\oe.data=.fields vs/\vs[1]?=some (.ref T)/\T≠e/\h.get? T=some oT/\oT.data=.fields ts/\ts[3]?=some .none/\Ki X pins H e/\Ki X pins H T
abbrev YT (X:Cx)(h:Heap)(ex:List Addr):Heap:=W.hideAll h (Nb X.stack++ex)
theorem UJ {h}{b}{o}(e:h.get? b=some o)(h1:b∉Nb X.stack)(h2:b∉ex):(YT X h ex).get? b=some o:=
 W.hideAll_get _ e λz=>(AK.mp z).elim h1 h2
theorem Ws (I:Inv X pins σ H s)(hex:∀b∈ex,Ki X pins H b)(hexf:∀b∈ex,∀o,s.heap.get? b=some o->∃vs,o.data=.fields vs)
  (st:(YT X s.heap ex).StaysIn h') (up:s.heap.UpToSlots h'):Inv X pins σ H { s with heap:=h' }:=by
 have fr:∀b∈Nb X.stack,∀o,s.heap.get? b=some o->∀vs,o.data≠.fields vs:=λb U o e=>by
  obtain⟨_,o',e',d⟩:=I.stack.mem U;rw[e] at e';cases e';exact d
 have sub:∀b,b∈X.fs->b∈Nb X.stack:=λb U=>by
  rcases I.ok.stk with e|⟨e,_⟩
  ·rw[e];exact U
  ·rw[e];unfold Nb;rw[List.filterMap_cons];split
   ·exact U
   ·exact AE _ U
 have J:∀b o,b∉Nb X.stack->b∉ex->s.heap.get? b=some o->h'.get? b=some o:=λb o h1 h2 e=>st b o (UJ e h1 h2)
 refine I.stepN (ch:=ex) (λb U=>⟨(hex b U).2.1,λz=>?_,λx c e z=>?_,(hex b U).2.2⟩) (λb o h1 h2 h3 e n=>J b o (λz=>?_) h3 e) (λb o h1 h2 h3 e n=>up b o e (fr b (sub b h2) o e)) (λ_ _ _ _ n=>n) (λb o h1 e=>?_) (λ_ _ e=>e) (λ_ _ _ e=>e) (λb ps e=>⟨#[],by rw[e];simp⟩) (λm hm=>up.ns hm) (λb u e=>?_)
 ·obtain⟨m,⟨o,es,ep,ho,hd,_⟩,_⟩:=I.loc;subst z;obtain⟨vs,q⟩:=hexf _ U o ho;rw[q] at hd;cases hd
 ·obtain⟨v,o,ho,hd⟩:=I.cell x c e;subst z;obtain⟨vs,q⟩:=hexf _ U o ho;rw[q] at hd;cases hd
 ·rcases AF.mp (I.stkSub b z) with q|q
  ·exact h1 q
  ·exact h2 q
 ·by_cases U:b∈Nb X.stack
  ·obtain⟨sl,q⟩:=up b o e (fr b U o e);exact⟨_,q⟩
  ·exact⟨o,J b o U h1 e⟩
 ·have nt:∀c v,H c=some v->c∉Nb X.stack/\c∉ex:=λc v q=>⟨λz=>(by rw[I.stkFree c z] at q;cases q),λz=>(by rw[(hex c z).1] at q;cases q)⟩
  refine(I.hok b u e).stay (λc v hc q=>?_) (λ_ q=>q) λ_ _ q=>q
  rcases hc with rfl|hc
  ·exact J c v (nt c _ e).1 (nt c _ e).2 q
  ·exact J c v (nt c _ hc).1 (nt c _ hc).2 q
theorem Jq {a0}{e}(I:Inv X pins σ H s)(hx0:X.ex=[])(hex:∀b∈ex,Ki X pins H b)(he:e∈ex)(fr:h'.FunFrames (YT X s.heap ex) X.stack)(tr:h'.TracedW (YT X s.heap ex) e cls a0):Air X pins H h' cls e:=by
 obtain⟨oe,vs,T,oT,ts,h1,h2,h3,h4,h5,h6,U,h8,h9⟩:=tr;refine⟨oe,vs,T,oT,ts,a0,h1,h2,h3,h4,h6,U,h8,h9,hex e he,?_⟩;have nf:T∉Nb X.stack:=λz=>by
  obtain⟨_,o,q,d⟩:=fr.mem z;rw[U] at q;cases q;exact d _ h8
 have J:∀o,s.heap.get? T=some o->T∈ex:=λo q=>by
  by_cases z:T∈ex
  ·exact z
  ·rw[UJ q nf z] at h5;cases h5
 refine⟨?_,?_,λp hp z=>?_⟩
 ·cases q:H T with
  | none=>rfl
  | some u=>
   obtain⟨o,z⟩:=(I.hok T u q).there;rw[(hex T (J o z)).1] at q;cases q
 ·cases q:X.s₀.heap.get? T with
  | none=>rfl
  | some o=>
   obtain⟨o',z⟩:=I.base.there T o q (by rw[hx0];simp);rw[(hex T (J o' z)).2.1] at q;cases q
 ·have q:=(I.pin p hp).1;rw[z] at q;exact(hex T (J _ q)).2.2 p hp z
def ZO (X:Cx):Prop:=X.ex=[]/\X.stack=X.env::X.outer/\X.env.frame=some X.env.locals
theorem ZV (I:Inv X pins σ H s):s.heap.FunFrames (YT X s.heap ex) X.stack:=
 W.funFrames_hide I.stack λenv he a J=>Im _ (List.mem_filterMap.mpr ⟨env,he,J⟩)
theorem Yz:(YT X s.heap ex).StaysIn s.heap:=λ_ _ e=>W.of_hideAll _ e
theorem Wk {b}(hb:b∈ex):(YT X s.heap ex).get? b=none:=W.hideAll_none _ (Ic _ hb)
theorem MM {e}{vs}{Q}(I:Inv X pins σ H s)(ow:ZO X)(hx:Heap.MadeExcOf s.heap h' e cls vs)
  (q:∀J,Inv X pins σ H { s with heap:=J }->Air X pins H J cls e->Q () { s with heap:=J }):wpAny M X.A (leaving X.env (.ref e)) Q E { s with heap:=h' }:=by
 have I1:Inv X pins σ H { s with heap:=h' }:=I.kept (t':=s.toks) hx.keeps;obtain⟨t,he,_,_⟩:=hx.there;have U:∀b∈[e],Ki X pins H b:=λb hb=>by
  have z:=AA.mp hb;subst z;refine⟨I.hok.none_of hx.new,?_,λp hp z=>?_⟩
  ·cases q:X.s₀.heap.get? b with
   | none=>rfl
   | some o=>
    obtain⟨o',z⟩:=I.base.there b o q (by rw[ow.1];simp);rw[hx.new] at z;cases z
  ·have q:=(I.pin p hp).1;rw[z,hx.new] at q;cases q
 have fs:=ZV (ex:=[e]) I1;have fr:=I1.ok.frames;rw[ow.2.1] at fs fr;refine wpAny_leaving_firstW (base:=YT X h' [e]) fr fs ow.2.2 he (Yz (s:={ s with heap:=h' })) (Wk (s:={ s with heap:=h' }) (by simp)) rfl rfl rfl λJ L=>?_
 obtain ⟨l1,l2,l3,l4⟩:=L;rw [<-ow.2.1] at l2;exact q J (Ws (s:={ s with heap:=h' }) I1 U (fun b hb o z=>by
  have w:=AA.mp hb;subst w;have z':h'.get? b=some o:=z;rw[he] at z';cases z';exact⟨_,rfl⟩) l1 l4) (Jq (s:={ s with heap:=h' }) I1 ow.1 U (by simp) l2 l3)
theorem Air.two {e}{h}(a:Air X pins H h cls e):∃T a0,(∀b∈[e,T],Ki X pins H b)/\(∀b∈[e,T],∀o,h.get? b=some o->∃vs,o.data=.fields vs)/\h.TracedW (YT X h [e,T]) e cls a0:=by
 obtain⟨oe,vs,T,oT,ts,a0,h1,h2,U,h4,h6,h7,h8,h9,l1,l2⟩:=a;refine⟨T,a0,λb J=>?_,λb J o z=>?_,oe,vs,T,oT,ts,h1,h2,U,h4,W.hideAll_none _ (Ic _ (by simp)),h6,h7,h8,h9⟩
 ·rcases AF.mp J with rfl|J
  ·exact l1
  ·rw[AA.mp J];exact l2
 ·rcases AF.mp J with rfl|J
  ·rw[h1] at z;cases z;exact⟨_,U⟩
  ·rw[AA.mp J,h7] at z;cases z;exact⟨_,h8⟩
theorem BQ {e}{Q}(I:Inv X pins σ H s)(ow:ZO X)(a:Air X pins H s.heap cls e)
  (q:∀J,Inv X pins σ H { s with heap:=J }->Air X pins H J cls e->Q () { s with heap:=J }):wpAny M X.A (leaving X.env (.ref e)) Q E s:=by
 obtain⟨T,a0,U,a4,tr⟩:=a.two;have fs:=ZV (ex:=[e,T]) I;have fr:=I.ok.frames;rw[ow.2.1] at fs fr;refine wpAny_leaving_nextW (base:=YT X s.heap [e,T]) fr fs ow.2.2 tr Yz (Wk (by simp)) λJ L=>?_
 obtain ⟨l1,l2,l3,l4⟩:=L;rw [<-ow.2.1] at l2;exact q J (Ws I U a4 l1 l4) (Jq I ow.1 U (by simp) l2 l3)
end
def SG (H:Hp)(h old:Heap)(cls:Value)(e:Addr):Prop:=
 ∃oe vs T oT ts a0,h.get? e=some oe/\(oe.cls=cls/\vs[0]?=some a0)/\oe.data=.fields vs/\vs[1]?=some (.ref T)/\T≠e/\h.get? T=some oT/\oT.data=.fields ts/\ts[3]?=some .none/\(H e=none/\old.get? e=none)/\(H T=none/\old.get? T=none)
def CXr (P:Program)(w:World):CXT:=λouter H s E e s'=>
 ∃ea cls H',e=.ref ea/\s'.os=s.os/\AllBare s'.gens/\Un (Nb outer) [] H H' s.heap s'.heap/\HOk P w H' s'.heap/\SG H' s'.heap s.heap cls ea/\E cls none H'
section
variable {X:Cx} {pins:List (Addr×Obj)} {σ:St} {H:Hp} {s s':Shared} {E:XK} {e:Value}
theorem CXr.here (I:Inv X pins σ H s)(hx:X.ex=[])(c:CXr X.prog X.w X.stack H s E e s'):∃ea cls H',e=.ref ea/\Inv X pins σ H' s'/\Air X pins H' s'.heap cls ea/\E cls none H':=by
 obtain⟨ea,cls,H',rfl,os,bare,un,J,⟨oe,vs,T,oT,ts,a0,h1,h2,h3,h4,h5,h6,h7,h8,n1,U⟩,q⟩:=c;have ls:∀b,H' b=none->s.heap.get? b=none->Ki X pins H' b:=λb hn ho=>by
  refine⟨hn,?_,λp hp z=>?_⟩
  ·cases q:X.s₀.heap.get? b with
   | none=>rfl
   | some o=>
    obtain⟨o',z⟩:=I.base.there b o q (by rw[hx];simp);rw[ho] at z;cases z
  ·have q:=(I.pin p hp).1;rw[z,ho] at q;cases q
 exact⟨ea,cls,H',rfl,I.call' (ch:=[]) os un J bare (λb z=>absurd z (by simp)),⟨oe,vs,T,oT,ts,a0,h1,h2,h3,h4,h5,h6,h7,h8,ls _ n1.1 n1.2,ls _ U.1 U.2⟩,q⟩
end
section
variable {P:Program} {w:World} {K:W.Frag} {mg:Str->Option Value} {base:Heap} {N:List Str} {qual:Str} {sc:Scope} {f:Addr} {cd:Value} {A:Around} {outer:List Env} {s0:Shared} {H0:Hp} {E:XK}
theorem BA:ZO (YE CX P w K mg base N qual sc f cd A outer s0 H0 E):=⟨rfl,rfl,rfl⟩
end
def Rx (X:Cx)(E:XK):Prop:=∀(pins:List (Addr×Obj)) (σ:St) (H:Hp) (s:Shared) (h':Heap) (e:Addr) (cls:Value) (vs:List Value),Inv X pins σ H s->Heap.MadeExcOf s.heap h' e cls vs->E cls none H->X.xe (.ref e) { s with heap:=h' }
def LW (E:XK)(C:Addr)(t:TA):TS:=λ_ σ H=>t σ H λvs H1=>vs.length<=sizeLine/\E (.ref C) none H1
section
variable {X:Cx} {E:XK} {x:Str} {C:Addr} {bmB bmN:List Value} {B Bn newId nid initId inN:String} {np cpos pos:Pos} {e₀:Expr} {rest:List Expr} {t:TA}
theorem ZI (th:Rx X E)(hc:X.calm=true)(hg:Gl X x)(hm:X.mg x=some (.ref C))(q:W.excIn X.K C bmB newId=true)(Fn:ExcBaseFacts Bn newId inN bmN)(hBn:bmB.contains (.type Bn)=true)(FB:ExcBaseFacts B nid initId bmB)(ha:PA X (e₀::rest) t)
  (he:starEach (e₀::rest) X.env=(false,eval e₀ X.env)::starEach rest X.env:=by rfl) (hpl:(backTo cpos (starEach rest X.env)).any (·.1)=false:=by rfl) (hd:(x==("__debug__":Str))=false:=by decide) :
  PS X (.Raise (some (.Call (.Name x np) (e₀::rest) [] cpos)) none pos) (LW E C t):=by
 intro pins s σ H D I h;unfold W.excIn at q;split at q
 ·rename_i dd a9 sl ho;split at q
  ·rename_i C' bm k0 k1 k2 k3 n k5 a6 hs;simp only[Iu,beq_iff_eq,qz] at q;obtain⟨⟨⟨⟨⟨rfl,rfl⟩,a0⟩,ht⟩,J⟩,a7⟩:=q;obtain⟨nm,bs,ag,ns,qn,aa,sn,sub,ab,col,af⟩:=a9;dsimp only at a6 a0 J a7;subst a6 a0;have a8:sl=#[k0,k1,k2,k3,some (.builtin n),k5]:=by
    obtain⟨l⟩:=sl;simp only at hs;rw[hs]
   subst a8;have T0:OwnTail s.heap bmB bm:=W.tail_of_in I.kIn ht;refine wpAny_Raise_call_subU (C:=C') (nm:=nm) (q:=qn) (N:=ns) (bs:=bs) (bm:=bm) (hdct:=aa) (sn:=sn) (sub:=sub) (ab:=ab) (col:=col) (dd:=dd) (k0:=k0) (k1:=k1) (k2:=k2) (k3:=k3) (k5:=k5)
    Fn hBn FB (mN:=s.heap.nsMap ns) (T0.hasType FB.hasBase) (I.ok.hd hc) (by rw[he];show(false||(backTo cpos (starEach rest X.env)).any (·.1))=false;rw[hpl];rfl) (W.nsMap_none_of_in I.kIn J a7) (X0 I hg hm ⟨rfl,?_⟩ hd)
   have a5:=ha cpos pins s σ H _ I h;rw[he] at a5 ⊢;have U:∀{s2:Shared},X.K.In s2.heap->s2.heap.Ns ns (s.heap.nsMap ns):=λ{s2} ae=>by
    unfold W.nsOkIn at J;split at J
    ·rename_i oo es nn oM a4;have n1:s.heap.Ns ns (s.heap.nsMap ns):=.of_isNs (W.isNs_of_in I.kIn (by unfold W.nsOkIn;rw[a4];exact J));exact n1.at' λo e=>by
      have e1:=I.kIn _ _ a4;rw[e] at e1;cases e1;exact ae _ _ a4
    ·cases J
   exact Calls.evalArgs_plain (A9 a5 (fun us s2 ⟨vs,H1,I1,r,z,q⟩=>⟨rfl,by rw [<-r.length];exact z,I1.kIn _ _ ho,U I1.kIn,W.tail_of_in I1.kIn ht,fun h' e hx=>th pins σ H1 s2 h' e _ _ I1 hx q⟩) fun _ _ y=>y)
  ·cases q
 ·cases q
end
abbrev Cx.hand (X:Cx)(e:Addr):Cx:={ X with A:=X.A.mark (some (.ref e)),calm:=false,xe:=λ_ _=>False }
section
variable {X:Cx} {pins:List (Addr×Obj)} {σ:St} {H:Hp} {s:Shared} {e:Addr}
theorem Inv.hand (I:Inv X pins σ H s)(e):Inv (X.hand e) pins σ H s:=
 ⟨⟨I.ok.mod,I.ok.kind,I.ok.glob,I.ok.blt,I.ok.above,I.ok.inj,I.ok.has,I.ok.cab,λz=>Bool.noConfusion (show false=true from z),I.ok.frames,I.ok.stk,I.ok.exf,I.ok.bs,I.ok.bsz,I.ok.noex,I.ok.exfs,I.ok.funs,I.ok.frf⟩,
  I.os,I.bare,I.base,I.loc,I.cell,I.free,I.freeC,I.pin,I.hok,I.len⟩
theorem Inv.unhand (hok:X.Ok)(I:Inv (X.hand e) pins σ H s):Inv X pins σ H s:=⟨hok,I.os,I.bare,I.base,I.loc,I.cell,I.free,I.freeC,I.pin,I.hok,I.len⟩
theorem SP.unhand (hok:X.Ok){D}{f}{s'}(h:SP (X.hand e) pins D f s'):SP X pins D f s':=by
 cases f with
 | next=>obtain⟨J,H',I,q⟩:=h;exact⟨J,H',I.unhand hok,q⟩
 | brk=>obtain⟨J,H',I,q⟩:=h;exact⟨J,H',I.unhand hok,q⟩
 | cont=>obtain⟨J,H',I,q⟩:=h;exact⟨J,H',I.unhand hok,q⟩
 | ret u=>obtain⟨v,J,H',I,r,q⟩:=h;exact⟨v,J,H',I.unhand hok,r,q⟩
end
def Eo (e:Addr)(cls:Value)(h:Heap):Prop:=∃o vs,h.get? e=some o/\o.cls=cls/\o.data=.fields vs
abbrev TX:=St->Hp->VK->XK->Prop
def Gk (sp:Sp)(t:TA):TX:=λσ H Q E=>t σ H λvs H1=>sp vs H1 Q E
section
variable {X:Cx} {k:Nat} {f:Addr} {fd:FuncData} {ps:List Str} {sp:Sp} {x:Str} {p pos:Pos} {e:Expr} {es:List Expr} {t:TA}
variable {tx:TX}
def pW (i:Nat)(tx:TX):QY->XK->St->Hp->Prop:=λD E σ H=>tx σ H (λv H1=>D.nx (σ.set i (some v)) H1) E
end
section
variable {X:Cx} {body suite:List Stmt} {b₀:Stmt} {x n:Str} {C:Addr} {np hp pos:Pos} {tb:QY->XK->St->Hp->Prop} {ts:TS}
theorem UA {Q}(I:Inv X pins σ H s)(ow:ZO X)(a:Air X pins H s.heap cls ea)
  (q:∀h',Inv X pins σ H { s with heap:=h' }->Air X pins H h' cls ea->Q () { s with heap:=h' }):wpAny M A (setFlight (.ref ea) none) Q E s:=by
 obtain⟨T,a0,J,U,tr⟩:=a.two;refine lands_againW (base:=YT X s.heap [ea,T]) ⟨Yz,Wk (by simp),ZV I,tr⟩ λh' fl up=>?_
 exact q h' (Ws I J U fl.1 up) (Jq I ow.1 J (by simp) fl.2.2.1 fl.2.2.2)
end
end L2
namespace L2
open PySem PySem.Spec PyProof.Rows PySem.W Builtin Builtin.ObjectAttr Builtin.Getset_descriptor
structure WQ (K:W.Frag)(C:Addr):Prop where
 ga:W.findIn K (.ref C) "__getattribute__"=some (some (.builtin "BaseException.__getattribute__"))
 gt:W.findIn K (.ref C) "__getattr__"=some none
 ca:W.findIn K (.ref C) "__class__"=some (some (.builtin "object.__class__"))
 mB:W.mroIn K C (.type "BaseException")=some true
 mO:W.mroIn K C (.type "object")=some true
 hc:(W.clsIn K C).isSome=true
section
variable {prog:Program} {w:World} {A:Around} {E:Value->Shared->Prop} {h:Heap} {g:Array GenState} {d:Drawn} {t:Nat} {os:OsState} {K:W.Frag} {a C:Addr} {o:Obj}
theorem F9 {R}{tp}(Z:WQ K C)(X:K.In h)(hx:h.get? a=some o)(hc:o.cls=.ref C)(q:R (.ok (.ret (.ref C))) ⟨h,g,d,t,os⟩) :
  codeAny (model prog w) A (.call (.builtin "getset_descriptor.__get__") ⟨[.builtin "object.__class__",.ref a,tp],[]⟩) R ⟨h,g,d,t,os⟩:=by
 have J:W.Looks (model prog w) h (typeOf (.ref a)) (.ref C):=hc▸(W.Looks.ld hx).andThen .now;have U:=W.looks_mroIn (M:=model prog w) X Z.mO;refine codeAny_call_builtin PySem.W.KF.slot_gs.plain PySem.W.KF.entry_gs (W.KF.slot_gs.check _ _ _ _ _ _ _ _ W.KF.type_class (W.KF.args_gs _ _ _) ?_);unfold Builtin.«getset_descriptor.__get__» descrGet;rw[W.dga_obj];refine Aw (AM ?_);unfold descrGetter descrCheckInstance descrNameAndClass isInstance;simp only[W.KF.owner_class]
 repeat lk
 refine⟨Code.quiet_builtin _ (by decide +kernel),codeAny_builtin PySem.W.KF.entry_class ?_⟩;unfold Builtin.«object.__class__» shownTypeOf
 repeat lk
 exact q
theorem MV {tk}{Q}(Z:WQ K C)(X:K.In h)(hx:h.get? a=some o)(hc:o.cls=.ref C)(q:Q (.done (.ret (.ref C))) ⟨h,g,d,t,os⟩) :
  wpAny (model prog w) A (Builtin.«object.__getattribute__» ⟨[.ref a,.str "__class__" tk],[]⟩) Q E ⟨h,g,d,t,os⟩:=by
 have U:W.Looks (model prog w) h (typeOf (.ref a)) (.ref C):=hc▸(W.Looks.ld hx).andThen .now;have L2:=W.looks_findIn (M:=model prog w) X Z.ca;have J:typeOf (.builtin "object.__class__")=pure (.type "getset_descriptor"):=by kernel_rfl
 have f6:=F.slot_gs_get.lookup;have f7:=F.slot_gs_set.lookup;unfold Builtin.«object.__getattribute__»
 repeat (any_goals (first|assumption|(with_reducible refine wpAny_loadPart_at hx ?_;rw[hc])|with_reducible refine L2.at ?_|wp_step))
 refine F9 Z X hx hc ?_
 repeat (any_goals (first|assumption|wp_step))
theorem MX {nameV}{Q}(Z:WQ K C)(X:K.In h)(hx:h.get? a=some o)(hc:o.cls=.ref C)(q:Q () ⟨h,g,d,t,os⟩):wpAny M A (checkBuiltinCall "BaseException.__getattribute__" ⟨[.ref a,nameV],[]⟩) Q E ⟨h,g,d,t,os⟩:=by
 have hk:builtinKind "BaseException.__getattribute__"=some .slot:=by decide +kernel
 have J:splitId "BaseException.__getattribute__"=some ("BaseException","__getattribute__"):=by decide +kernel
 have ha:=F.args_bexc_ga (.ref a) nameV;have U:=W.looks_mroIn (M:=M) X Z.mB;simp only[checkBuiltinCall,hk,J];refine Aw ?_;unfold isInstance
 repeat (first|(with_reducible refine wpAny_loadPart_at hx ?_;rw[hc])|with_reducible refine U.at ?_|wp_step)
 exact q
theorem MW {Q}(Z:WQ K C)(X:K.In h)(hx:h.get? a=some o)(hc:o.cls=.ref C)(q:Q (some (.ref C)) ⟨h,g,d,t+1,os⟩):wpAny (model prog w) A (getAttr? (.ref a) "__class__") Q E ⟨h,g,d,t,os⟩:=by
  have J:W.Looks (model prog w) h (typeOf (.ref a)) (.ref C):=hc▸(W.Looks.ld hx).andThen .now;have U:=W.looks_findIn (M:=model prog w) X Z.ga;have L2:=W.looks_findIn (M:=model prog w) X Z.gt;have f3:=F.attr_ValueError.ga.bind (.ref a);unfold getAttr? getAttrBy? getAttrBy;refine Aw (wpAny_mkText (Aw (wpAny_attempt (wpAny_holding (Aw (J.at (Aw (U.at ?_))))))));dsimp only;rw[Am (show¬((onTheHeap (Value.ref C)&&Value.builtin "BaseException.__getattribute__" == Value.builtin "object.__getattribute__")=true) by
    rw[show(Value.builtin "BaseException.__getattribute__" == Value.builtin "object.__getattribute__")=false by decide +kernel,IJ];exact A2)]
  unfold getAttrByItsOwn hookBefore;rw[An (show onTheHeap (Value.ref C)=true from rfl)];refine Aw (L2.at ?_);refine Aw (wpAny_attempt (wpAny_holding ?_));unfold callGetattribute;rw[Am (show¬((false&&onTheHeap (Value.builtin "BaseException.__getattribute__"))=true) from A2)];unfold boundAndCalled
  repeat (any_goals (first|assumption|wp_step))
  refine codeAny_call_builtin F.attr_ValueError.ga.plain F.entry_bexc_ga (MX Z X hx hc (MV Z X hx hc ?_))
  repeat (any_goals (first|assumption|wp_step))
theorem BS {e}(Z:WQ K C):W.KitX K (.ref e) (.ref C) (Eo e (.ref C)) where
 ty:=λM h _ ⟨o,vs,h1,h2,_⟩=>h2▸(W.Looks.ld h1).andThen .now
 it:=λ_ _ X _=>by
  obtain⟨cd,J⟩:=Option.isSome_iff_exists.mp Z.hc;unfold W.clsIn at J;split at J
  ·rename_i c' d' a4 U ho;intro A' Q' E' s' k q;unfold isType loadHead;exact Aw (wpAny_loadPart (k _ _ (X _ _ ho)) (AM q))
  ·cases J
 ne:=λh tp dd its n sl X a0=>by
  obtain⟨cd,J⟩:=Option.isSome_iff_exists.mp Z.hc;refine AD.mpr λq=>?_
  have e:C=tp:=Value.ref.inj (beq_iff_eq.mp q);subst e;unfold W.clsIn at J;split at J
  ·rename_i c' d' a4 U ho;have z:=(X _ _ ho).symm.trans a0;cases z
  ·cases J
 ca:=λ{_ _ _ _ _ s} X p k=>by
  obtain⟨h,g,d,t,os⟩:=s;obtain⟨o,vs,h1,h2,_⟩:=p;exact MW Z X h1 h2 k
end
def D0 (K:W.Frag):List V->Hp->VK->Prop:=λxs H Q=>∃e c C b u,xs=[.ref e,c]/\RelV c u/\(∀u',RelV c u'->u'=u)/\H e=some (.ext (Eo e (.ref C)))/\WQ K C/\W.kitOne K (.ref C) u=some b/\Q (.bl b) H
def Bi (K:W.Frag):List V->Hp->VK->Prop:=λxs H Q=>HZ K xs H Q∨D0 K xs H Q
section
variable {X:Cx}
theorem Lc:CallR X (.builtin "isinstance") (Bi X.K):=by
 intro pins s σ H xs us Q I r h;rcases h with h|h
 ·exact Rq pins s σ H xs us Q I r h
 ·obtain⟨e,c,C,b,u,rfl,rc,uq,he,Z,k,q⟩:=h;obtain⟨u1,u2,rfl,U,r2⟩:=KP r;obtain rfl:=uq _ r2;obtain rfl:=U.ref_of;obtain⟨p,_⟩:=(show ObjOk X.prog X.w H s.heap e (.ext (Eo e (.ref C))) from I.hok e _ he)
  exact W.kia_one (BS Z) I.kIn p k (λz=>nomatch z) λJ=>⟨.bl b,H,I.tok J,rfl,q⟩
end
theorem Hf {x}{t}{b}(ty:TyOf K H x t)(e:W.kitOne K t (.type T)=some b)(q:Q (.bl b) H):Bi K [x,.ty T] H Q:=.inl (Dg ty e q)
end L2
namespace L2
open PySem PySem.Spec PyProof.Rows
abbrev Af:List Value:=[.type "ValueError",.type "Exception",.type "BaseException",.type "object"]
theorem RM {E}{t}{D}:LW E C t D σ H=t σ H λvs H1=>vs.length<=sizeLine/\E (.ref C) none H1:=rfl
theorem ET {tx}{D}{E}:pW i tx D E σ H=tx σ H (λv H1=>D.nx (σ.set i (some v)) H1) E:=rfl
theorem EN {sp}{t}{E}:Gk sp t σ H Q E=t σ H λvs H1=>sp vs H1 Q E:=rfl
def qQ (φ:V->Hp->VK->XK->Prop):Sp:=λvs H Q E=>∃a,vs=[a]/\φ a H Q E
def qP (φ:V->V->Hp->VK->XK->Prop):Sp:=λvs H Q E=>∃a b,vs=[a,b]/\φ a b H Q E
theorem rT (K){X}(h:X.K=K):IxR X (lF K):=by subst h;exact FU
theorem rV (K){X}(h:X.K=K)(hu:X.A.units+64<cLine):OpR X (compareOp .Eq) (JA K):=by subst h;exact FC hu
theorem rR (K){X}(h:X.K=K)(hu:X.A.units+64<cLine):OpR X (compareOp .NotEq) (Jy K):=by subst h;exact Fy hu
theorem C8 (K){X}(h:X.K=K):CallR X (.builtin "len") (Bh K):=by subst h;exact Lb
theorem lY (K){X}(h:X.K=K):qO X (HY K):=by subst h;exact Pb
theorem L0 (K){X}{tg l}{tl}(h:X.K=K)(hl:PE X l tl):PI X tg l (NT K tl):=by subst h;exact PB hl
theorem ON (K){X}{es}{k:Nat}{t}{n:Nat}{pos}(h:X.K=K)(hc:X.calm=true)(hg:PGs X es t)(hn:(assignEach es X.env).length=n:=by rfl)(hst:(assignEach es X.env).findIdx? (·.1)=none:=by rfl):PG X (.Tuple es k pos) (F2 K n t):=by
 subst h;exact Fk hc hg hn hst
section
variable {X:Cx} {o e:Expr} {es:List Expr} {to:TE} {t:TA} {T:String} {name:Str} {id:String} {r:V->List V->Hp->VK->Prop} {apos cpos:Pos}
theorem PR (K)(h:X.K=K)(pa:PlainAttrs T)(slot:Slot T name id)(hty:typeOf (.builtin id)=pure (.type "method_descriptor"))(hm:nI X id r)(ho:PE X o to)
  (hbase:attributeBase o name X.env (eval o X.env)=eval o X.env:=by rfl) (hline:(apos.endLine==cpos.line)=true:=by rfl):PE X (.Call (.Attribute o name apos) [] [] cpos) (HL K T r to):=by
 subst h;exact Fu pa slot hty hm ho hbase hline
theorem QA (K)(h:X.K=K)(pa:PlainAttrs T)(slot:Slot T name id)(hty:typeOf (.builtin id)=pure (.type "method_descriptor"))(hm:nI X id r)(ho:PE X o to)(ha:PA X (e::es) t)
  (hbase:attributeBase o name X.env (eval o X.env)=eval o X.env:=by rfl)
  (hfew:((backTo cpos (starEach (e::es) X.env)).all (λx=>!x.1)&&(backToKw cpos (keywordEach [] X.env)).all (λx=>x.1.isSome)
   && decide ((e::es).length+([]:List Keyword).length+(if([]:List Keyword).isEmpty then 0 else 1)<30))=true:=by rfl)
  (hline:(apos.endLine==cpos.line)=true:=by rfl) (hs:starEach (e::es) X.env=(false,eval e X.env)::starEach es X.env:=by rfl) (hplain:(backTo cpos (starEach es X.env)).any (·.1)=false:=by rfl) :
  PE X (.Call (.Attribute o name apos) (e::es) [] cpos) (pV K T r to t):=by
 subst h;exact D4 pa slot hty hm ho ha hbase hfew hline hs hplain
def Vp (K:W.Frag):List V->Hp->VK->Prop:=λxs H Q=>∃p ys,xs=[.ref p]/\(Kv K H p ys∨Kt K H p ys)/\∀l,H l=none->Q (.ref l) (upd H l (.lst ys))
theorem Xi (K)(h:X.K=K):CallR X (.type "list") (Vp K):=by subst h;exact VS
def Bg (K:W.Frag):List V->Hp->VK->Prop:=λxs H Q=>∃p ys,xs=[.ref p]/\((Kv K H p ys/\∀l,H l=none->Q (.ref l) (upd H l (.tup ys)))∨(Kt K H p ys/\Q (.ref p) H))
theorem Hv (K)(h:X.K=K):CallR X (.type "tuple") (Bg K):=by subst h;exact KG
end
theorem Mz {t b:Int}(hb:b≠0)(h:q=Rat.divInt t b):q.num*b=t*(q.den:Int):=by
 have h1:(q.num:Rat) / ((q.den:Int):Rat)=(t:Rat) / (b:Rat):=by
  rw [<-Rat.divInt_eq_div,<-Rat.divInt_eq_div,Iz,h]
 have U:((q.den:Int):Rat)≠0:=by
  intro z;have:(q.den:Int)=0:=Rat.intCast_inj.mp (by rw[z];rfl);exact q.den_nz (by omega)
 have J:(b:Rat)≠0:=by
  intro z;exact hb (Rat.intCast_inj.mp (by rw[z];rfl))
 have h2:(q.num:Rat)*(b:Rat)=(t:Rat)*((q.den:Int):Rat):=by grind
 rw [<-Gf,<-Gf] at h2;exact Rat.intCast_inj.mp h2
theorem Kx (q:Rat):0<(q.den:Int):=by have:=q.den_nz;omega
theorem Pi (q:Rat):Int.gcd q.num (q.den:Int)=1:=by
 have:=q.reduced;show Nat.gcd q.num.natAbs (q.den:Int).natAbs=1;simpa using this
theorem Gz {t b:Int}(hb:b≠0):(Rat.divInt t b).num=fnum t b/\((Rat.divInt t b).den:Int)=fden t b:=by
 have h:=Mz hb (rfl:Rat.divInt t b=_);have f:=N3 (t:=t) hb;refine Uy (Kx _) (UP hb) (Pi _) (UQ hb) ?_;have h2:(Rat.divInt t b).num*fden t b*b=fnum t b*((Rat.divInt t b).den:Int)*b:=by
  have e1:(Rat.divInt t b).num*fden t b*b=(Rat.divInt t b).num*b*fden t b:=by rw[IL,Int.mul_comm (fden t b),<-IL]
  have e2:fnum t b*((Rat.divInt t b).den:Int)*b=fnum t b*b*((Rat.divInt t b).den:Int):=by rw[IL,Int.mul_comm ((Rat.divInt t b).den:Int),<-IL]
  rw[e1,e2,h,f,IL,IL,Int.mul_comm (fden t b)]
 exact Int.eq_of_mul_eq_mul_right hb h2
theorem Lv (q:Rat):(q.den:Int)≠0:=by have:=Kx q;omega
theorem Vo (a b:Rat):a+b=Rat.divInt (a.num*b.den+b.num*a.den) (a.den*b.den):=by
 have:=Rat.divInt_add_divInt a.num b.num (Lv a) (Lv b);rw[Iz,Iz] at this;exact this
theorem NC (a b:Rat):a-b=Rat.divInt (a.num*b.den-b.num*a.den) (a.den*b.den):=by
 have:=Rat.divInt_sub_divInt a.num b.num (Lv a) (Lv b);rw[Iz,Iz] at this;exact this
theorem Jg (a b:Rat):a*b=Rat.divInt (a.num*b.num) (a.den*b.den):=by
 have:=Rat.divInt_mul_divInt a.num b.num (d₁:=a.den) (d₂:=b.den);rw[Iz,Iz] at this;exact this
theorem ND (a b:Rat):a / b=Rat.divInt (a.num*b.den) (a.den*b.num):=by
 have h1:b⁻¹=Rat.divInt b.den b.num:=by
  have:=Rat.inv_divInt b.num b.den;rw[Iz] at this;exact this
 rw[Rat.div_def,h1];have:=Rat.divInt_mul_divInt a.num b.den (d₁:=a.den) (d₂:=b.num);rw[Iz] at this;exact this
theorem GD (h:q≠0):q.num≠0:=λz=>h (Rat.num_eq_zero.mp z)
def RB (m:Nat)(q:Rat):Prop:=Bd m q.num/\Bd m (q.den:Int)
theorem RB.mono (h:RB m q)(hl:m<=n):RB n q:=⟨h.1.mono hl,h.2.mono hl⟩
theorem RB.of {t b:Int}(hb:b≠0)(h1:Bd m t)(h2:Bd m b):RB m (Rat.divInt t b):=by
 obtain⟨e1,e2⟩:=Gz (t:=t) hb;exact⟨by rw[e1];exact h1.fnum hb,by rw[e2];exact h2.fden hb⟩
theorem RB.add {a b:Rat}(h:RB m a)(h':RB n b):RB (m+n+1) (a+b):=by
 rw[Vo];refine RB.of (Ip (Lv a) (Lv b)) (((h.1.mul h'.2).add (h'.1.mul h.2)).mono (by omega)) ((h.2.mul h'.2).mono (by omega))
theorem RB.sub {a b:Rat}(h:RB m a)(h':RB n b):RB (m+n+1) (a-b):=by
 rw[NC];refine RB.of (Ip (Lv a) (Lv b)) (((h.1.mul h'.2).sub (h'.1.mul h.2)).mono (by omega)) ((h.2.mul h'.2).mono (by omega))
theorem RB.mul {a b:Rat}(h:RB m a)(h':RB n b):RB (m+n) (a*b):=by
 rw[Jg];exact RB.of (Ip (Lv a) (Lv b)) (h.1.mul h'.1) (h.2.mul h'.2)
theorem RB.div {a b:Rat}(hb:b≠0)(h:RB m a)(h':RB n b):RB (m+n) (a / b):=by
 rw[ND];exact RB.of (Ip (Lv a) (GD hb)) (h.1.mul h'.2) (h.2.mul h'.1)
theorem RB.int {i:Int}(h:Bd m i)(hm:1<=m):RB m (i:Rat):=by
 refine⟨by rw[Rat.num_intCast];exact h,?_⟩;rw[Rat.den_intCast];exact(show Bd 1 ((1:Nat):Int) by unfold Bd;decide).mono hm
theorem RB.zero (hm:1<=m):RB m 0:=by
 refine⟨?_,?_⟩
 ·exact(show Bd 1 (0:Int) by unfold Bd;decide).mono hm
 ·exact(show Bd 1 ((1:Nat):Int) by unfold Bd;decide).mono hm
def Grow (H H':Hp):Prop:=∀b o,H b=some o->(∀xs,o≠.lst xs)->H' b=some o
theorem Same.grow (g:Same H H'):Grow H H':=λb o h _=>g b o h
theorem Grow.refl (H):Grow H H:=λ_ _ h _=>h
theorem Ym (h:H p=some (.lst xs)):Grow H (upd H p (.lst ys)):=λb o q n=>by
 rw[Qk (YH q h (n xs))];exact q
theorem Z3 (g:Same H H')(hp:H p=none):Same H (upd H' p o):=λb u q=>by
 rw[Qk (Qj q hp)];exact g b u q
theorem Grow.sqT {a}(e:Grow H H')(h:Kt K H a xs):Kt K H' a xs:=by
 rcases h with (h|⟨o,h⟩)|h
 ·exact .inl (.inl (e _ _ h λ_ z=>nomatch z))
 ·exact .inl (.inr ⟨o,e _ _ h λ_ z=>nomatch z⟩)
 ·exact .inr h
def Fq (K:W.Frag)(H:Hp)(q:Rat)(v:V):Prop:=∃p,v=.ref p/\Kt K H p [.int q.num,.int q.den]
theorem Fq.grow (g:Grow H H')(h:Fq K H q v):Fq K H' q v:=by
 obtain⟨p,e,h⟩:=h;exact⟨p,e,g.sqT h⟩
theorem Fq.same (g:Same H H')(h:Fq K H q v):Fq K H' q v:=h.grow g.grow
theorem Fq.new {t b:Int}(hb:b≠0):Fq K (upd H p (.tup [.int (fnum t b),.int (fden t b)])) (Rat.divInt t b) (.ref p):=by
 obtain⟨e1,e2⟩:=Gz (t:=t) hb;refine⟨p,rfl,?_⟩;rw[e1,e2];exact G6 Qb
abbrev Row3:=Rat×Rat×Rat
def Fw (K:W.Frag)(H:Hp)(r:Row3)(v:V):Prop:=∃p x y z,v=.ref p/\Kt K H p [x,y,z]/\Fq K H r.1 x/\Fq K H r.2.1 y/\Fq K H r.2.2 z
theorem Fw.grow {q}(g:Grow H H')(h:Fw K H q v):Fw K H' q v:=by
 obtain⟨p,x,y,z,e,h,h1,h2,J⟩:=h;exact⟨p,x,y,z,e,g.sqT h,h1.grow g,h2.grow g,J.grow g⟩
theorem Fw.same {q}(g:Same H H')(h:Fw K H q v):Fw K H' q v:=h.grow g.grow
def All2 (R:α->V->Prop)(qs:List α)(vs:List V):Prop:=qs.length=vs.length/\∀(i:Nat) q v,qs[i]?=some q->vs[i]?=some v->R q v
theorem All2.imp {R S:α->V->Prop}{qs:List α}(f:∀q v,R q v->S q v)(h:All2 R qs vs):All2 S qs vs:=⟨h.1,λi q v a b=>f _ _ (h.2 i q v a b)⟩
theorem All2.nil {R:α->V->Prop}:All2 R [] []:=⟨rfl,λi q v a _=>by simp at a⟩
theorem All2.snoc {R:α->V->Prop}{qs:List α}{q:α}(h:All2 R qs vs)(r:R q v):All2 R (qs++[q]) (vs++[v]):=by
 refine⟨by rw[Aq,Aq,h.1];rfl,λi U J a b=>?_⟩;rcases Nat.lt_trichotomy i qs.length with z|z|z
 ·rw [A7 z] at a;rw [A7 (by rw [<-h.1];exact z)] at b;exact h.2 i U J a b
 ·subst z;rw[Ib (Au _),Ih] at a;rw[Ib (by rw[h.1];exact Au _),h.1,Ih] at b;cases a;cases b;exact r
 ·rw[Il (by rw[Aq,Av];omega)] at a;cases a
theorem All2.get {R:α->V->Prop}{qs:List α}{q:α}(h:All2 R qs vs)(a:qs[i]?=some q):∃v,vs[i]?=some v/\R q v:=by
 have hi:i<vs.length:=by rw [<-h.1];exact (AU.mp a).1
 exact⟨vs[i],Ax hi,h.2 i q _ a (Ax hi)⟩
theorem All2.getV {R:α->V->Prop}{qs:List α}(h:All2 R qs vs)(a:vs[i]?=some v):∃q,qs[i]?=some q/\R q v:=by
 have hi:i<qs.length:=by rw[h.1];exact(AU.mp a).1
 exact⟨qs[i],Ax hi,h.2 i _ v (Ax hi) a⟩
def Fl (K:W.Frag)(H:Hp)(rows:List Row3)(l:Addr):Prop:=∃vs,Kv K H l vs/\All2 (Fw K H) rows vs
end L2
variable {rows:List L2.Row3}
namespace L2
def Zx (r:Row3)(x:Rat):Rat:=r.2.1+r.2.2*(x-r.1)
structure DrawsTo (rows:List Row3)(f:Rat->Rat)(e:Option Rat):Prop where
 rise:∀(i:Nat) r r',rows[i]?=some r->rows[i+1]?=some r'->r.1<r'.1
 on:∀(i:Nat) r r' x,rows[i]?=some r->rows[i+1]?=some r'->r.1<=x->x<=r'.1->f x=Zx r x
 last:∀(i:Nat) r x,rows[i]?=some r->i+1=rows.length->r.1<=x->(∀b,e=some b->x<=b)->f x=Zx r x
 lt:∀(i:Nat) r b,rows[i]?=some r->i+1=rows.length->e=some b->r.1<b
abbrev Draws (rows:List Row3)(f:Rat->Rat):Prop:=DrawsTo rows f none
def XD (rows:List Row3):Prop:=∃r,rows[0]?=some r/\r.1=0
def VZ (rows:List Row3):Prop:=∀(i:Nat) r r',rows[i]?=some r->rows[i+1]?=some r'->r.2.2≠r'.2.2
theorem Z2 {l:List α}{a:α}{r:α}(h:(l++[a])[i]?=some r):(l[i]?=some r/\i<l.length)∨(i=l.length/\r=a):=by
 rcases Nat.lt_trichotomy i l.length with z|z|z
 ·rw[A7 z] at h;exact .inl ⟨h,z⟩
 ·subst z;rw[Ib (Au _),Ih] at h;cases h;exact .inr ⟨rfl,rfl⟩
 ·rw[Il (by rw[Aq,Av];omega)] at h;cases h
theorem Qt {l:List α}{r:α}(h:l[i]?=some r):i<l.length:=(AU.mp h).1
theorem DrawsTo.snoc {f}{r}{e}(d:DrawsTo rows f (some r.1))(hr:∀x,r.1<=x->(∀b,e=some b->x<=b)->f x=Zx r x)(hl:∀b,e=some b->r.1<b):DrawsTo (rows++[r]) f e where
 rise:=λi a a' h h'=>by
  rcases Z2 h with ⟨h1,h2⟩|⟨h1,rfl⟩
  ·rcases Z2 h' with ⟨U,_⟩|⟨U,rfl⟩
   ·exact d.rise i a a' h1 U
   ·exact d.lt i a a'.1 h1 U rfl
  ·have:=Qt h';rw[Aq,Av] at this;omega
 on:=λi a a' x h h' h1 h2=>by
  rcases Z2 h with ⟨J,g2⟩|⟨J,rfl⟩
  ·rcases Z2 h' with ⟨g3,_⟩|⟨g3,rfl⟩
   ·exact d.on i a a' x J g3 h1 h2
   ·exact d.last i a x J g3 h1 (λb hb=>by cases hb;exact h2)
  ·have:=Qt h';rw[Aq,Av] at this;omega
 last:=λi a x h hi h1 h2=>by
  rw[Aq,Av] at hi;rcases Z2 h with ⟨J,g2⟩|⟨J,rfl⟩
  ·omega
  ·exact hr x h1 h2
 lt:=λi a b h hi hb=>by
  rw[Aq,Av] at hi;rcases Z2 h with ⟨J,g2⟩|⟨J,rfl⟩
  ·omega
  ·exact hl b hb
theorem DrawsTo.skip {f}{k r}{e}(d:DrawsTo rows f (some r.1))(hk:rows[rows.length-1]?=some k)(hs:k.2.2=r.2.2)(hr:∀x,r.1<=x->(∀b,e=some b->x<=b)->f x=Zx r x)(hl:∀b,e=some b->r.1<b):DrawsTo rows f e where
 rise:=d.rise
 on:=d.on
 last:=λi a x h hi h1 h2=>by
  have J:i=rows.length-1:=by omega
  subst J;rw[hk] at h;cases h;rcases Classical.em (x<=r.1) with c|c
  ·exact d.last _ k x hk hi h1 (λb U=>by cases U;exact c)
  ·have c':r.1<=x:=by grind
   have e1:=hr x c' h2;have kr:k.1<r.1:=d.lt _ k r.1 hk hi rfl;have e2:=d.last _ k r.1 hk hi (by grind) (λb U=>by cases U;grind);have e3:=hr r.1 (by grind) (λb U=>by have:=hl b U;grind);unfold Zx at *
   grind
 lt:=λi a b h hi U=>by
  have J:i=rows.length-1:=by omega
  subst J;rw[hk] at h;cases h;have:=d.lt _ k r.1 hk hi rfl;have:=hl b U
  grind
def Qy (kept:List Row3)(r:Row3):List Row3:=match kept[kept.length-1]? with
 | some k=>if k.2.2=r.2.2 then kept else kept++[r]
 | none=>kept++[r]
theorem JG {kept}{k r}(h:kept[kept.length-1]?=some k):Qy kept r=if k.2.2=r.2.2 then kept else kept++[r]:=by
 unfold Qy;rw[h]
def WE (rows:List Row3):List Row3:=rows.foldl Qy []
def Xf (rows:List Row3)(i:Nat):Option Rat:=(rows[i]?).map (·.1)
structure MInv (f:Rat->Rat)(kept:List Row3)(e:Option Rat):Prop where
 d:DrawsTo kept f e
 s:XD kept
 u:VZ kept
theorem MInv.step {f}{kept}{r}{e}(m:MInv f kept (some r.1))(hr:∀x,r.1<=x->(∀b,e=some b->x<=b)->f x=Zx r x)(hl:∀b,e=some b->r.1<b):MInv f (Qy kept r) e:=by
 obtain⟨s0,U,hz⟩:=m.s;have J:=Qt U;obtain⟨k,hk⟩:∃k,kept[kept.length-1]?=some k:=⟨_,Ax (by omega)⟩
 unfold Qy;rw[hk];dsimp only;split
 ·rename_i c;exact⟨m.d.skip hk c hr hl,m.s,m.u⟩
 ·rename_i c;refine⟨m.d.snoc hr hl,⟨s0,by rw[A7 J];exact U,hz⟩,λi a a' h h'=>?_⟩;rcases Z2 h with ⟨h1,h2⟩|⟨h1,rfl⟩
  ·rcases Z2 h' with ⟨h3,_⟩|⟨h3,rfl⟩
   ·exact m.u i a a' h1 h3
   ·have:i=kept.length-1:=by omega
    subst this;rw[hk] at h1;cases h1;exact c
  ·have:=Qt h';rw[Aq,Av] at this;omega
theorem MInv.start {f}{r}{e}(h0:r.1=0)(hr:∀x,r.1<=x->(∀b,e=some b->x<=b)->f x=Zx r x)(hl:∀b,e=some b->r.1<b):MInv f [r] e where
 d:=⟨λi a a' h h'=>by have:=Qt h';simp at this,λi a a' x h h'=>by have:=Qt h';simp at this,λi a x h hi h1 h2=>by
   have:i=0:=by simpa using hi
   subst this;cases h;exact hr x h1 h2,λi a b h hi J=>by
   have:i=0:=by simpa using hi
   subst this;cases h;exact hl b J⟩
 s:=⟨r,rfl,h0⟩
 u:=λi a a' h h'=>by have:=Qt h';simp at this
theorem Draws.piece {f}(d:Draws rows f){i:Nat}{r}(h:rows[i]?=some r):(∀x,r.1<=x->(∀b,Xf rows (i+1)=some b->x<=b)->f x=Zx r x)/\∀b,Xf rows (i+1)=some b->r.1<b:=by
 unfold Xf;cases q:rows[i+1]? with
 | none=>
  have hl:i+1=rows.length:=by
   have h1:=Qt h;have h2:rows.length<=i+1:=List.getElem?_eq_none_iff.mp q;omega
  exact⟨λx h1 _=>d.last i r x h hl h1 (λb J=>nomatch J),λb J=>nomatch J⟩
 | some U=>
  refine⟨λx h1 h2=>d.on i r U x h q h1 (h2 U.1 rfl),λb J=>?_⟩;cases J;exact d.rise i r U h q
theorem KZ {rows}{f}(d:Draws rows f)(s:XD rows):∀n,1<=n->n<=rows.length->MInv f ((rows.take n).foldl Qy []) (Xf rows n)
 | 0,h,_=>absurd h (by decide)
 | 1,_,hn=>by
  obtain⟨r,J,hz⟩:=s;obtain⟨U,p2⟩:=d.piece J;have e:rows.take 1=[r]:=by
   cases rows with
   | nil=>cases J
   | cons a t=>cases J;rfl
  rw[e];exact MInv.start hz U p2
 | n+2,_,hn=>by
  have ih:=KZ d s (n+1) (by omega) (by omega);have J:rows[n+1]?=some rows[n+1]:=Ax (by omega);obtain⟨U,p2⟩:=d.piece J;have e:rows.take (n+2)=rows.take (n+1)++[rows[n+1]]:=by
   rw[AX,J];rfl
  rw[e,List.foldl_append];have:Xf rows (n+1)=some rows[n+1].1:=by unfold Xf;rw[J];rfl
  rw[this] at ih;exact ih.step U p2
theorem Ux {f}(d:Draws rows f)(s:XD rows):Draws (WE rows) f/\XD (WE rows)/\VZ (WE rows):=by
 have J:1<=rows.length:=by obtain⟨r,U,_⟩:=s;exact Qt U
 have h:=KZ d s rows.length J (Au _);have e:Xf rows rows.length=none:=by unfold Xf;rw[Il (Au _)];rfl
 rw[IM,e] at h;exact⟨h.d,h.s,h.u⟩
theorem KC {kept}{r a}(h:a∈Qy kept r):a∈kept∨a=r:=by
 unfold Qy at h;split at h
 ·split at h
  ·exact .inl h
  ·simpa using h
 ·simpa using h
theorem GF {a}(h:a∈WE rows):a∈rows:=by
 have J:∀(l kept:List Row3),a∈l.foldl Qy kept->a∈kept∨a∈l:=by
  intro l
  induction l with
  | nil=>intro kept h;exact .inl h
  | cons x t U=>
   intro kept h;rcases U _ h with h|h
   ·rcases KC h with h|h
    ·exact .inl h
    ·exact .inr (by rw[h];exact AH)
   ·exact .inr (AE _ h)
 rcases J rows [] h with h|h
 ·cases h
 ·exact h
structure CB (rows:List Row3)(x:Rat)(i:Nat):Prop where
 lt:i<rows.length
 lo:i=0∨∀r,rows[i]?=some r->r.1<=x
 hi:∀r,rows[i+1]?=some r->x<r.1
theorem Draws.at {rows}{f}(d:Draws rows f)(s:XD rows){x:Rat}(hx:0<=x){i:Nat}(o:CB rows x i){r}(h:rows[i]?=some r):f x=Zx r x:=by
 have lo:r.1<=x:=by
  rcases o.lo with z|z
  ·subst z;obtain⟨r0,U,z0⟩:=s;rw[h] at U;cases U;rw[z0];exact hx
  ·exact z r h
 refine(d.piece h).1 x lo (λb J=>?_);unfold Xf at J;cases q:rows[i+1]? with
 | none=>rw[q] at J;cases J
 | some r'=>
  rw[q] at J;cases J;have:=o.hi r' q
  grind
end L2
namespace L2
open PySem PySem.Spec PyProof.Rows
structure KTup (K:W.Frag)(mg:Str->Option Value)(n:Str)(a:Addr)(xs:List V):Prop where
 m:mg n=some (.ref a)
 s:∀H,Kt K H a xs
theorem ktup2 {n}{a}{i j:Int}{t u}{k:Nat}{sl}(m:mg n=some (.ref a))(l:K.lookup a=some ⟨.type "tuple",od,.seq #[.int i t,.int j u] k,sl⟩):KTup K mg n a [.int i,.int j]:=
 ⟨m,λH=>.inr ⟨_,_,_,l,rfl,rfl,by show 2<=sizeLine;decide,.cons ⟨t,rfl⟩ (.cons ⟨u,rfl⟩ .nil)⟩⟩
theorem GB {n}{a}(k:KTup X.K X.mg n a xs)(hg:Gl X n:=by rfl)(hd:(n==("__debug__":Str))=false:=by decide):PE X (.Name n pos) (tC (.ref a)):=Vs (v:=.ref a) hg k.m rfl hd
theorem KTup.fq0 {n}{a}(k:KTup K mg n a [.int 0,.int 1]):Fq K H 0 (.ref a):=⟨a,rfl,k.s H⟩
def Fo (K:W.Frag)(H:Hp)(rows:List Row3)(l:Addr):Prop:=∃vs,H l=some (.lst vs)/\All2 (Fw K H) rows vs
theorem Fq.rep (h:Fq K H q v):∃p,v=.ref p/\Rep K H (fr q.num q.den) (.ref p):=by
 obtain⟨p,e,h⟩:=h;exact⟨p,e,HS h⟩
theorem fr_eq {a b:Rat}:(fr a.num a.den=fr b.num b.den)↔a=b:=by
 refine⟨λh=>?_,λh=>by rw[h]⟩;have h1:a.num=b.num/\(a.den:Int)=(b.den:Int):=by
  unfold fr at h;simp only[D.tup.injEq,List.cons.injEq,D.int.injEq] at h;exact⟨h.1,h.2.1⟩
 exact Rat.ext h1.1 (by omega)
theorem Dc {a b:Rat}{x}(h1:Fq K H a x)(h2:Fq K H b y)(q:Q (.bl (!decide (a=b))) H):Jy K x y H Q:=by
 obtain⟨p,rfl,J⟩:=h1.rep;obtain⟨p',rfl,U⟩:=h2.rep;exact Dd (b:=decide (a=b)) J U SA (by rw[pG];exact fr_eq.symm) q
theorem Dr {a b:Rat}{x}(h1:Fq K H a x)(h2:Fq K H b y)(q:Q (.bl (decide (a=b))) H):JA K x y H Q:=by
 obtain⟨p,rfl,J⟩:=h1.rep;obtain⟨p',rfl,U⟩:=h2.rep;exact T4 (b:=decide (a=b)) J U SA (by rw[pG];exact fr_eq.symm) q
theorem Mh {xs:List α}{v:α}(h:xs[xs.length-1]?=some v):Nd xs (-1)=some v:=by
 have J:=Qt h;have e:xs=xs.dropLast++[v]:=by
  have h1:xs≠[]:=by intro z;rw[z] at J;simp at J
  have h2:=List.dropLast_concat_getLast h1;have U:xs.getLast h1=v:=by
   rw[List.getLast_eq_getElem];have:=Ax (l:=xs) (i:=xs.length-1) (by omega);rw[h] at this;exact(AO this).symm
  rw[U] at h2;exact h2.symm
 rw[e];exact Q4 _ _
inductive pC (K)(op:Rat->Rat->Rat)(x)(y:V)(H:Hp)(Q:VK):Prop
 | mk (a b:Rat) (m n:Nat) (h1:Fq K H a x) (h2:Fq K H b y) (h3:RB m a) (h4:RB n b) (h5:m+n<=8900) (h6:∀z H',Same H H'->Fq K H' (op a b) z->Q z H'):pC K op x y H Q
inductive oW (K)(x)(y)(H:Hp)(Q:VK):Prop
 | mk (a b:Rat) (m n:Nat) (h1:Fq K H a x) (h2:Fq K H b y) (h3:b≠0) (h4:RB m a) (h5:RB n b) (h6:m+n<=8900) (h7:∀z H',Same H H'->Fq K H' (a / b) z->Q z H'):oW K x y H Q
inductive qv (K)(x)(y)(H:Hp)(Q:VK):Prop
 | mk (a b:Rat) (m n:Nat) (h1:Fq K H a x) (h2:Fq K H b y) (h3:RB m a) (h4:RB n b) (h5:m+n<=8900) (h6:Q (.bl (decide (a<b))) H):qv K x y H Q
inductive oU (K)(x)(y)(H:Hp)(Q:VK):Prop
 | mk (a b:Rat) (m n:Nat) (h1:Fq K H a x) (h2:Fq K H b y) (h3:RB m a) (h4:RB n b) (h5:m+n<=8900) (h6:∀z,Fq K H (if b<a then b else a) z->Q z H):oU K x y H Q
inductive oV (K)(x)(y)(H:Hp)(Q:VK):Prop
 | mk (a b:Rat) (m n:Nat) (h1:Fq K H a x) (h2:Fq K H b y) (h3:RB m a) (h4:RB n b) (h5:m+n<=8900) (h6:∀z,Fq K H (if a<b then b else a) z->Q z H):oV K x y H Q
def nS (m1 m2 m3:Nat)(r:Row3):Prop:=RB m1 r.1/\RB m2 r.2.1/\RB m3 r.2.2
inductive nG (K)(x)(y)(H:Hp)(Q:VK):Prop
 | mk (r:Row3) (a:Rat) (m1 m2 m3 n:Nat) (h1:Fw K H r x) (h2:Fq K H a y) (h3:nS m1 m2 m3 r) (h4:RB n a) (h5:m1+m2+m3+n<=8800) (h6:∀z H',Same H H'->Fq K H' (Zx r a) z->Q z H'):nG K x y H Q
inductive lV (K)(x:V)(H)(Q:VK):Prop
 | mk (rows:List Row3) (l:Addr) (h1:x=.ref l) (h2:Fl K H rows l) (h3:rows.length<=1000) (h4:∀l' H',H l'=none->Same H H'->Fo K H' (WE rows) l'->Q (.ref l') H'):lV K x H Q
inductive lW (K)(x:V)(y)(H:Hp)(Q:VK):Prop
 | mk (rows:List Row3) (l:Addr) (a:Rat) (m n:Nat) (h1:x=.ref l) (h2:Fl K H rows l) (h3:Fq K H a y) (h4:(∀r∈rows,RB m r.1)) (h5:RB n a) (h6:m+n<=8900) (h7:0<rows.length) (h8:rows.length<=1000) (h9:∀i:Nat,CB rows a i->Q (.int i) H):lW K x y H Q
inductive qw (K)(x:V)(y)(H:Hp)(Q:VK):Prop
 | mk (rows:List Row3) (f:Rat->Rat) (l:Addr) (a:Rat) (m1 m2 m3 n:Nat) (h1:x=.ref l) (h2:Fl K H rows l) (h3:Fq K H a y) (h4:Draws rows f) (h5:XD rows) (h6:0<=a) (h7:(∀r∈rows,nS m1 m2 m3 r)) (h8:RB n a) (h9:m1+m2+m3+n<=8800) (h10:rows.length<=1000) (h11:∀z H',Same H H'->Fq K H' (f a) z->Q z H'):qw K x y H Q
theorem Mp {r}{k:Int}(h:Fw K H r v)(hk:k=0∨k=1∨k=2)(q:∀w,Fq K H (if k=0 then r.1 else if k=1 then r.2.1 else r.2.2) w->Q w H):lF K v (.int k) H Q:=by
 obtain⟨p,x,y,z,rfl,h,h1,h2,J⟩:=h;rcases hk with rfl|rfl|rfl
 ·exact Zg h rfl (q x h1)
 ·exact Zg h rfl (q y h2)
 ·exact Zg h rfl (q z J)
abbrev Pr:=Int×Rat
def Fp (K:W.Frag)(H:Hp)(p:Pr)(v:V):Prop:=∃a y,v=.ref a/\Kt K H a [.int p.1,y]/\Fq K H p.2 y
theorem Fp.grow {p}(g:Grow H H')(h:Fp K H p v):Fp K H' p v:=by
 obtain⟨a,y,e,h1,h2⟩:=h;exact⟨a,y,e,g.sqT h1,h2.grow g⟩
theorem Fp.same {p}(g:Same H H')(h:Fp K H p v):Fp K H' p v:=h.grow g.grow
def Pl (K:W.Frag)(H:Hp)(ps:List Pr)(l:Addr):Prop:=∃vs,Kv K H l vs/\All2 (Fp K H) ps vs
def Zf:Int->List Pr->Bool
 | _,[]=>true
 | a,p::r=>decide (a<p.1)&&Zf p.1 r
theorem limOk_cons {a:Int}{p}{r}:Zf a (p::r)=true↔a<p.1/\Zf p.1 r=true:=by
 show(decide (a<p.1)&&Zf p.1 r)=true↔_;rw[Iu,pG]
def QT:List Pr->Rat->Rat
 | [],_=>0
 | [p],x=>if x<=p.1 then 0 else p.2*(x-p.1)
 | p::p' :: t,x=>(if x<=p.1 then 0 else if x<=p'.1 then p.2*(x-p.1) else p.2*((p'.1:Rat)-p.1))+QT (p' :: t) x
theorem ZZ {a b:Int}(h:a<b):(a:Rat)<(b:Rat):=Rat.intCast_lt_intCast.mpr h
theorem ZW:∀{ps}{a:Int}{p}{r},ps=p::r->Zf a ps=true->∀x:Rat,x<=p.1->QT ps x=0
 | _,a,p,[],rfl,h,x,hx=>by
  unfold QT;rw[An hx]
 | _,a,p,p' :: t,rfl,h,x,hx=>by
  obtain⟨h1,h2⟩:=limOk_cons.mp h;obtain⟨J,_⟩:=limOk_cons.mp h2;have c:=ZZ J;unfold QT;rw[An hx,ZW (p:=p') (r:=t) rfl h2 x (by grind)]
  grind
theorem Ke:∀{ps}{a:Int},Zf a ps=true->∀(i:Nat) (p:Pr) (x:Rat),ps[i]?=some p->(p.1:Rat)<=x->(∀p',ps[i+1]?=some p'->x<=p'.1)->QT ps x=QT ps p.1+p.2*(x-p.1)
 | [],_,_,i,p,x,h,_,_=>by simp at h
 | [q],_,_,i,p,x,h,h1,_=>by
  have hi:i=0:=by have:=Qt h;simpa using this
  subst hi;cases h;unfold QT;have e:((q.1:Rat)<=q.1):=by grind
  rw[An e];split
  ·have:x=q.1:=by grind
   rw[this];grind
  ·grind
 | q::q' :: t,a,hl,0,p,x,h,h1,h2=>by
  cases h;obtain⟨l1,J⟩:=limOk_cons.mp hl;have hx:x<=q'.1:=h2 q' rfl;obtain⟨U,_⟩:=limOk_cons.mp J;have c:=ZZ U;have e:((q.1:Rat)<=q.1):=by grind
  show(if x<=q.1 then 0 else if x<=q'.1 then q.2*(x-q.1) else q.2*((q'.1:Rat)-q.1))+QT (q' :: t) x=(if(q.1:Rat)<=q.1 then 0 else if(q.1:Rat)<=q'.1 then q.2*((q.1:Rat)-q.1) else q.2*((q'.1:Rat)-q.1))+QT (q' :: t) q.1+q.2*(x-q.1);rw[An e,ZW (p:=q') (r:=t) rfl J x hx,ZW (p:=q') (r:=t) rfl J q.1 (by grind),An hx];split
  ·have:x=q.1:=by grind
   rw[this];grind
  ·grind
 | q::q' :: t,a,hl,i+1,p,x,h,h1,h2=>by
  obtain⟨l1,J⟩:=limOk_cons.mp hl;have hp:(q' :: t)[i]?=some p:=h;have ih:=Ke J i p x hp h1 h2;have a4:(q'.1:Rat)<=p.1:=by
   have a0:∀(l:List Pr) (a:Int) (i:Nat) (p:Pr),Zf a l=true->l[i]?=some p->a<p.1:=by
    intro l
    induction l with
    | nil=>intro a i p _ h;simp at h
    | cons y s a5=>
     intro a i p h1 h2;obtain⟨k1,k2⟩:=limOk_cons.mp h1;cases i with
     | zero=>cases h2;exact k1
     | succ j=>exact Int.lt_trans k1 (a5 y.1 j p k2 h2)
   cases i with
   | zero=>cases hp;grind
   | succ j=>
    obtain⟨U,l4⟩:=limOk_cons.mp J;have:=ZZ (a0 t q'.1 j p l4 hp)
    grind
  obtain⟨U,_⟩:=limOk_cons.mp J;have c:=ZZ U;have first:∀y:Rat,(q'.1:Rat)<=y->(if y<=q.1 then 0 else if y<=q'.1 then q.2*(y-q.1) else q.2*((q'.1:Rat)-q.1))=q.2*((q'.1:Rat)-q.1):=λy hy=>by
   rw[Am (by grind)];split
   ·have:y=q'.1:=by grind
    rw[this]
   ·rfl
  show(if x<=q.1 then 0 else if x<=q'.1 then q.2*(x-q.1) else q.2*((q'.1:Rat)-q.1))+QT (q' :: t) x=(if(p.1:Rat)<=q.1 then 0 else if(p.1:Rat)<=q'.1 then q.2*((p.1:Rat)-q.1) else q.2*((q'.1:Rat)-q.1))+QT (q' :: t) p.1+p.2*(x-p.1);rw[first x (by grind),first p.1 a4,ih]
  grind
theorem XQ {ps}:∀{a:Int}{i:Nat}{p p'},Zf a ps=true->ps[i]?=some p->a<p.1/\(ps[i+1]?=some p'->p.1<p'.1):=by
 induction ps with
 | nil=>intro a i p p' _ h;simp at h
 | cons y s ih=>
  intro a i p p' h1 h2;obtain⟨k1,k2⟩:=limOk_cons.mp h1;cases i with
  | zero=>
   cases h2;refine⟨k1,λJ=>?_⟩;cases s with
   | nil=>simp at J
   | cons z u=>cases J;exact(limOk_cons.mp k2).1
  | succ j=>
   obtain⟨q1,U⟩:=ih (p':=p') k2 h2;exact⟨Int.lt_trans k1 q1,U⟩
theorem GN {ps}:∀{a:Int},Zf a ps=true->∀(i:Nat) p,ps[i]?=some p->Zf p.1 (ps.drop (i+1))=true:=by
 induction ps with
 | nil=>intro a _ i p h;simp at h
 | cons y s J=>
  intro a h1 i p h;obtain⟨k1,k2⟩:=limOk_cons.mp h1;cases i with
  | zero=>cases h;exact k2
  | succ j=>exact J k2 j p h
theorem JS {l:List α}{p:α}(h:l[i]?=some p):l.drop i=p::l.drop (i+1):=by
 induction l generalizing i with
 | nil=>simp at h
 | cons y s J=>
  cases i with
  | zero=>cases h;rfl
  | succ j=>exact J h
def Yj (ps:List Pr)(i:Nat):Option Rat:=(ps[i]?).map λp=>(p.1:Rat)
structure Ng (ps:List Pr)(n:Nat)(rows:List Row3):Prop where
 d:DrawsTo rows (QT ps) (Yj ps n)
 s:XD rows
 z:n=0->rows=[(0,0,0)]
 l:rows.length<=n+1
theorem Kb {ps}(h:Zf (-1) ps=true)(h0:∀p,ps[0]?=some p->0<p.1):Ng ps 0 [(0,0,0)]:=by
 refine⟨⟨λi a a' h h'=>by have:=Qt h';simp at this,λi a a' x h h'=>by have:=Qt h';simp at this,λi a x h1 hi U J=>?_,λi a b h1 hi J=>?_⟩,⟨_,rfl,rfl⟩,λ_=>rfl,by simp⟩
 ·have:i=0:=by simpa using hi
  subst this;cases h1;unfold Yj at J;have e:Zx (0,0,0) x=0:=by unfold Zx;grind
  rw[e];cases ps with
  | nil=>rfl
  | cons p r=>exact ZW (p:=p) (r:=r) rfl h x (J p.1 rfl)
 ·have:i=0:=by simpa using hi
  subst this;cases h1;unfold Yj at J;cases q:ps[0]? with
  | none=>rw[q] at J;cases J
  | some p=>
   rw[q] at J;have e:b=(p.1:Rat):=(AO J).symm;rw[e];exact ZZ (h0 p q)
theorem Kd {ps}(h:Zf (-1) ps=true){n:Nat}{p}(hp:ps[n]?=some p):(∀x,(p.1:Rat)<=x->(∀b,Yj ps (n+1)=some b->x<=b)->QT ps x=Zx ((p.1:Rat),QT ps p.1,p.2) x)/\∀b,Yj ps (n+1)=some b->(p.1:Rat)<b:=by
 unfold Yj;refine⟨λx h1 h2=>?_,λb J=>?_⟩
 ·exact Ke h n p x hp h1 λp' U=>h2 _ (by rw[U];rfl)
 ·cases q:ps[n+1]? with
  | none=>rw[q] at J;cases J
  | some p'=>
   rw[q] at J;have e:b=(p'.1:Rat):=(AO J).symm;rw[e];exact ZZ ((XQ (p':=p') h hp).2 q)
theorem Lf {ps}(h:Zf (-1) ps=true){p}(hp:ps[0]?=some p)(hz:p.1=0):Ng ps 1 [((p.1:Rat),QT ps p.1,p.2)]/\QT ps p.1=0:=by
 obtain⟨J,p2⟩:=Kd h hp;have m:=MInv.start (f:=QT ps) (r:=((p.1:Rat),QT ps p.1,p.2)) (e:=Yj ps 1) (by rw[hz];rfl) J p2;refine⟨⟨m.d,m.s,λz=>absurd z (by decide),by simp⟩,?_⟩;cases ps with
 | nil=>cases hp
 | cons q r=>cases hp;exact ZW (p:=p) (r:=r) rfl h _ (by grind)
theorem Lg {ps}(h:Zf (-1) ps=true){n:Nat}{p}{rows}{k}(hp:ps[n]?=some p)(b:Ng ps n rows)(hk:rows[rows.length-1]?=some k) :
  Ng ps (n+1) (rows++[((p.1:Rat),Zx k p.1,p.2)])/\Zx k p.1=QT ps p.1:=by
 obtain⟨p1,p2⟩:=Kd h hp;obtain⟨s0,U,hz⟩:=b.s;have J:=Qt U;have hl:Yj ps n=some (p.1:Rat):=by unfold Yj;rw[hp];rfl
 have d:=b.d;rw[hl] at d;have a0:k.1<(p.1:Rat):=d.lt _ k _ hk (by omega) rfl;have ev:Zx k p.1=QT ps p.1:=(d.last _ k p.1 hk (by omega) (by grind) (λb hb=>by cases hb;grind)).symm;rw[ev];refine⟨⟨DrawsTo.snoc (r:=((p.1:Rat),QT ps p.1,p.2)) d p1 p2,⟨s0,by rw[A7 J];exact U,hz⟩,λz=>absurd z (by omega),by rw[Aq,Av];have:=b.l;omega⟩,rfl⟩
def RX (a b:Nat)(q:Rat):Prop:=Bd a q.num/\Bd b (q.den:Int)
theorem RX.mono {a b:Nat}(h:RX a b q)(h1:a<=a')(h2:b<=b'):RX a' b' q:=⟨h.1.mono h1,h.2.mono h2⟩
theorem RX.rb {a b:Nat}(h:RX a b q)(h1:a<=m)(h2:b<=m):RB m q:=⟨h.1.mono h1,h.2.mono h2⟩
theorem RX.of {t b:Int}(hb:b≠0)(h1:Bd m t)(h2:Bd n b):RX m n (Rat.divInt t b):=by
 obtain⟨e1,e2⟩:=Gz (t:=t) hb;exact⟨by rw[e1];exact h1.fnum hb,by rw[e2];exact h2.fden hb⟩
theorem RX.add {a b:Nat}{p:Rat}(h:RX a b p)(h':RX a' b' q):RX (max (a+b') (a'+b)+1) (b+b') (p+q):=by
 rw[Vo];exact RX.of (Ip (Lv p) (Lv q)) ((h.1.mul h'.2).add (h'.1.mul h.2)) (h.2.mul h'.2)
theorem RX.mul {a b:Nat}{p:Rat}(h:RX a b p)(h':RX a' b' q):RX (a+a') (b+b') (p*q):=by
 rw[Jg];exact RX.of (Ip (Lv p) (Lv q)) (h.1.mul h'.1) (h.2.mul h'.2)
theorem RX.int {i:Int}(h:Bd m i):RX m 1 (i:Rat):=by
 refine⟨by rw[Rat.num_intCast];exact h,?_⟩;rw[Rat.den_intCast];unfold Bd;decide
inductive Nf (K)(x)(y)(H:Hp)(Q:VK):Prop
 | mk (v s:Rat) (h1:Fq K H v x) (h2:Fq K H s y) (h3:∀l H',H l=none->Same H H'->Fo K H' [(0,v,s)] l->Q (.ref l) H'):Nf K x y H Q
theorem Fq.int {a}{i:Int}(h:Kt K H a [.int i,.int 1]):Fq K H (i:Rat) (.ref a):=by
 refine⟨a,rfl,?_⟩;rw[Rat.num_intCast,Rat.den_intCast];exact h
theorem GG:(WE rows).length<=rows.length:=by
 have J:∀(l kept:List Row3),(l.foldl Qy kept).length<=kept.length+l.length:=by
  intro l
  induction l with
  | nil=>intro kept;exact Au _
  | cons x t U=>
   intro kept;have h1:=U (Qy kept x);have h2:(Qy kept x).length<=kept.length+1:=by
    unfold Qy;split
    ·split
     ·omega
     ·rw[Aq,Av];omega
    ·rw[Aq,Av];omega
   rw[AN];show(t.foldl Qy (Qy kept x)).length<=_;omega
 have:=J rows [];show(rows.foldl Qy []).length<=_;simpa using this
def DZ (K:W.Frag):List V->Hp->VK->Prop:=λxs H Q=>∃p c b u,xs=[.ref p,c]/\RelV c u/\(∀u',RelV c u'->u'=u)/\((∃ys,Kt K H p ys/\W.kitOne K (.type "tuple") u=some b)∨(∃ys,Kv K H p ys/\W.kitOne K (.type "list") u=some b))/\Q (.bl b) H
def NF (K:W.Frag):List V->Hp->VK->Prop:=λxs H Q=>Bi K xs H Q∨DZ K xs H Q
theorem UI (K){X}(hK:X.K=K):CallR X (.builtin "isinstance") (NF K):=by
 subst hK;intro pins s σ H xs us Q I r h;rcases h with h|⟨p,c,b,u,rfl,rc,uq,hh,q⟩
 ·exact Lc pins s σ H xs us Q I r h
 ·obtain⟨u1,u2,rfl,r1,r2⟩:=KP r;obtain rfl:=uq _ r2;obtain rfl:=r1.ref_of;rcases hh with ⟨ys,U,k⟩|⟨ys,U,k⟩
  ·obtain⟨its,_,⟨o,e1,e2,_⟩,_⟩:=I.tuple U;exact W.kia_one W.kitx_tuple I.kIn ⟨o,e1,e2⟩ k (λz=>nomatch z) λJ=>⟨.bl b,H,I.tok J,rfl,q⟩
  ·obtain⟨its,_,⟨o,n,e1,e2,_⟩,_⟩:=I.list U;exact W.kia_one W.kitx_list I.kIn ⟨o,e1,e2⟩ k (λz=>nomatch z) λJ=>⟨.bl b,H,I.tok J,rfl,q⟩
theorem Jr {x}{t}{b}(ty:TyOf K H x t)(e:W.kitOne K t (.type T)=some b)(q:Q (.bl b) H):NF K [x,.ty T] H Q:=.inl (Hf ty e q)
theorem Dh (h:Kt K H p ys)(q:Q (.bl true) H):NF K [.ref p,.ty "tuple"] H Q:=.inr ⟨p,.ty "tuple",true,.type "tuple",rfl,rfl,λ_ h=>h,.inl ⟨ys,h,rfl⟩,q⟩
theorem Di (h:Kv K H p ys)(q:Q (.bl true) H):NF K [.ref p,.ty "list"] H Q:=.inr ⟨p,.ty "list",true,.type "list",rfl,rfl,λ_ h=>h,.inr ⟨ys,h,rfl⟩,q⟩
theorem GX (xs)(k:Nat):Yp xs none (some (k:Int))=xs.take k:=by
 unfold Yp;rw[HT.sIx_none,HT.sIx_nat,List.drop_zero,Nat.sub_zero];by_cases h:k<=xs.length
 ·rw[Nat.min_eq_left h]
 ·rw[Nat.min_eq_right (by omega),AJ (Au _),AJ (by omega)]
theorem JT (xs)(k:Nat):Yp xs (some (k:Int)) none=xs.drop k:=by
 unfold Yp;rw[HT.sIx_none,HT.sIx_nat];by_cases h:k<=xs.length
 ·rw[Nat.min_eq_left h,AJ (by rw[IS];omega)]
 ·rw[Nat.min_eq_right (by omega),List.drop_of_length_le (Au _),List.drop_of_length_le (by omega)];simp
theorem Mc (xs)(j k:Nat):Yp xs (some (j:Int)) (some (k:Int))=(xs.drop j).take (k-j):=by
 unfold Yp;rw[HT.sIx_nat,HT.sIx_nat];by_cases h:j<=xs.length
 ·rw[Nat.min_eq_left h];by_cases h2:k<=xs.length
  ·rw[Nat.min_eq_left h2]
  ·rw[Nat.min_eq_right (by omega),AJ (by rw[IS];omega),AJ (by rw[IS];omega)]
 ·rw[show min j xs.length=xs.length by omega,List.drop_of_length_le (Au _),List.drop_of_length_le (by omega)];simp
def term (p:Pr)(t:List Pr)(x:Rat):Rat:=match t with
 | []=>if x<=p.1 then 0 else p.2*(x-p.1)
 | p' :: _=>if x<=p.1 then 0 else if x<=p'.1 then p.2*(x-p.1) else p.2*((p'.1:Rat)-p.1)
theorem G1 (p)(t)(x:Rat):QT (p::t) x=term p t x+QT t x:=by
 cases t with
 | nil=>show(if x<=p.1 then 0 else p.2*(x-p.1))=(if x<=p.1 then 0 else p.2*(x-p.1))+0;grind
 | cons p' t=>rfl
theorem Zs (x:Rat):x*((x.den:Int):Rat)=(x.num:Rat):=by
 have h:=Iz x;rw[Rat.divInt_eq_div] at h;have J:((x.den:Int):Rat)≠0:=by
  intro z;exact Lv x (Rat.intCast_inj.mp (by rw[z];rfl))
 grind
section
variable {X:Cx} {pins:List (Addr×Obj)} {σ:St} {H:Hp} {s:Shared} {h':Heap}
theorem Inv.turnedL (I:Inv X pins σ H s)(k:∀b o,b∉fp->s.heap.get? b=some o->h'.get? b=some o)(hf:∀b∈fp,W4 X pins H b):Inv X pins σ H { s with heap:=h',toks:=t' }:=by
 have U:∀b u,H b=some u->b∉fp:=λb u e z=>by rw[(hf b z).1] at e;cases e
 refine I.step (g':=s.gens) (d':=s.drawn) (ch:=fp) (λb hb=>⟨(hf b hb).2.2.2.1,(hf b hb).2.1,(hf b hb).2.2.2.2.1,(hf b hb).2.2.2.2.2⟩) (λb o _ _ J e _=>k b o J e) (λb o _ _ J e _=>⟨o.slots,k b o J e⟩) (λ_ _ _ _ n=>n)
  (λb o J e=>⟨o,k b o J e⟩) (λ_ _ e=>e) (λ_ _ _ e=>e) (λb ps e=>⟨#[],by rw[e];simp⟩) (λm hm=>?_) (λb u e=>?_) I.bare
 ·obtain⟨o,es,ep,ho,r⟩:=hm;exact⟨o,es,ep,k _ o (λz=>(hf _ z).2.1 rfl) ho,r⟩
 ·refine(I.hok b u e).stay (λc v J q=>k c v ?_ q) (λ_ q=>q) λ_ _ q=>q
  rcases J with z|z
  ·rw[z];exact U b u e
  ·exact U c _ z
theorem Inv.trackNew {D}{s0}(I:Inv X pins σ H s)(I0:Inv X pins σ H s0)(hD:s0.heap.objs.size<=D)(new:ObjOk X.prog X.w (upd H D o) s.heap D o):Inv X pins σ (upd H D o) s:=by
 refine I.track (A4 I0.sz hD) (I0.hok.fresh hD) (λz=>?_) (λx c e z=>?_) (λp hp z=>?_) new
 ·have:=I0.lt;exact Ij _ (AW (z▸this) hD)
 ·obtain⟨v,q⟩:=I0.cell x c e;exact Ij _ (AW (z▸q.lt) hD)
 ·have:=AC (I0.pin p hp).1;exact Ij _ (AW (z▸this) hD)
end
def qZ (K:W.Frag)(a:Addr):It:=
 ⟨λi H=>∃xs x,Kv K H a xs/\xs[i]?=some x,λi H v H'=>∃p x,v=.ref p/\H p=none/\H'=upd H p (.tup [.int i,x])/\∀xs,Kv K H a xs->xs[i]?=some x,λi H=>∃xs,Kv K H a xs/\xs.length<=i⟩
theorem Mu {k:Nat}(a e it)(hne:e≠it):U6 P w K (.Tuple es k pos) (qZ K a) [e,it] e (λi h=>∃J,IsEnum h e it i J/\h.IsListIter it a i) where
 mem:=by simp
 obj:=λi h st b U=>by
  obtain⟨J,h1,o,e1,c,d⟩:=st;rcases AF.mp U with rfl|U
  ·exact⟨_,h1,λv z=>by
    have z':Data.fields _=Data.cell v:=z;cases z'⟩
  ·have:b=it:=by simpa using U
   subst this;exact⟨o,e1,λv z=>by rw[d] at z;cases z⟩
 keep:=λi h h' ⟨J,h1,st⟩ k=>⟨J,k e (by simp) _ h1,st.at λo e=>k it (by simp) o e⟩
 item:=by
  intro X hP hw hK hc i pins s σ H E I hf st hg;subst hP hw hK;obtain⟨xs,x,hq,hx⟩:=hg;obtain⟨its,rv,p,hz⟩:=I.list hq;obtain⟨u,hu,ru⟩:=rv.get hx;obtain⟨J,h1,h2⟩:=st;refine wpAny_pyNext_enum_item h1 h2 p.isList (x:=u) (by simpa using hu) hne λh' e1 e2 e3 e4 e5=>?_
  refine⟨_,rfl,wpAny_letOwnedTupleGo_enum (s:={ s with heap:=h',toks:=s.toks+1 }) e1 λa4 e6 sb=>?_⟩;have a0:e≠s.heap.objs.size:=AQ (AC h1);have I1:Inv X pins σ H { s with heap:=a4,toks:=s.toks+1 }:=I.turnedL (fp:=[e,it]) (λb o U q=>by
   have n1:b≠e:=λz=>U (by simp[z])
   have n2:b≠it:=λz=>U (by simp[z])
   exact(sb.2 b n1).trans (e5 b o n1 n2 q)) hf
  have et:a4.get? s.heap.objs.size=some { cls:=.type "tuple",data:=.seq #[.int i s.toks,u] }:=(sb.2 _ (Ir a0)).trans e3;have I2:=I1.trackNew (o:=.tup [.int i,x]) I (Au _) ⟨by show 2<=sizeLine;decide,[.int i s.toks,u],.cons ⟨_,rfl⟩ (.cons ru .nil),?_⟩
  ·refine⟨.ref s.heap.objs.size,_,I2,rfl,⟨_,x,rfl,I.hok.fresh (Au _),rfl,λys hy=>by rw[I.list_inj hy hq];exact hx⟩,⟨u,?_,?_⟩,λb U=>?_⟩
   ·have:((i:Int)+1)=((i+1:Nat):Int):=by omega
    rw[this] at e6;exact e6
   ·exact e2.at λo q=>(sb.2 _ (Ir hne)).trans q
   ·rw[Qk ?_]
    ·exact(hf b U).1
    ·intro z;obtain⟨o,q,r⟩:=h2;rcases AF.mp U with U|U
     ·exact a0 (U▸z)
     ·have:b=it:=by simpa using U
      rw[this] at z;exact AQ (AC q) z
  ·exact⟨_,et,rfl,0,rfl⟩
 done:=by
  intro X hP hw hK hc i pins s σ H E I hf st hg;subst hP hw hK;obtain⟨xs,hq,hx⟩:=hg;obtain⟨its,rv,p,hz⟩:=I.list hq;obtain⟨J,h1,h2⟩:=st;have hl:=rv.length;exact wpAny_pyNext_enum_end (I.ok.hd hc) h1 h2 p.isList (by simp;omega) λh' eb=>⟨rfl,I.turnedL (fp:=[e,it]) (t':=s.toks) (λb o U q=>eb b o (λz=>U (by simp[z])) q) hf⟩
 self:=λ_ _ _ _ _ ⟨J,h1,_⟩ h=>wpAny_pyIter_enum h1 h
def Ss (K:W.Frag)(ta:TA):TI:=λσ H R=>ta σ H λvs H1=>∃a,vs=[.ref a]/\(∃xs,Kv K H1 a xs)/\R (qZ K a) H1
theorem PF (K){es}{k:Nat}{a}{ta}{p pos pt}(hK:X.K=K)(hg:Gl X "enumerate")(hm:X.mg "enumerate"=none)(ha:PA X [a] ta)(hs:starEach [a] X.env=[(false,eval a X.env)]:=by rfl):PI X (.Tuple es k pt) (.Call (.Name "enumerate" p) [a] [] pos) (Ss K ta):=by
 subst hK;intro pins s σ H R I h;refine Call_ (WH I hg hm boot_enumerate (pH (Kw (ha pos pins s σ H _ I h) λus J ⟨vs,H1,I1,r1,q1⟩=>?_) hs rfl));obtain⟨l,rfl,⟨xs,hq⟩,q⟩:=q1;obtain⟨u1,rfl,r2⟩:=Z1 r1;obtain rfl:=r2.ref_of;obtain⟨its,rv,pl,hz⟩:=I1.list hq;refine call_enumerate_list pl.isList λh' e1 e2 e3 e4=>?_
 have I2:Inv X pins σ H1 { J with heap:=h' }:=I1.kept (t':=J.toks) e4;refine wpAny_pyIter_enum (s:={ J with heap:=h' }) e1 ?_;refine⟨J.heap.objs.size+1,[J.heap.objs.size+1,J.heap.objs.size],_,_,H1,rfl,I2,Mu l _ _ (Nat.succ_ne_self _),⟨_,e1,e2⟩,λb hb=>?_,q⟩;have U:J.heap.objs.size<=b:=by
  rcases AF.mp hb with hb|hb
  ·rw[hb];exact IH _
  ·have:b=J.heap.objs.size:=by simpa using hb
   rw[this];exact Au _
 exact I1.fpOk U (I1.hok.fresh U)
theorem Ac {a}{D}(Pv:Nat->St->Hp->Prop)(h0:Pv 0 σ H)(hl:∀i σ H,i<=xs.length->Pv i σ H->Kv K H a xs)
  (hs:∀i x σ H p,xs[i]?=some x->Pv i σ H->H p=none->g (.ref p) σ (upd H p (.tup [.int (i:Nat),x])) λσ2 H2=>tb { D with nx:=Pv (i+1),ct:=Pv (i+1),bk:=D.nx } σ2 H2) (hd:∀σ H,Pv xs.length σ H->D.nx σ H):Va (qZ K a) g tb D σ H:=by
 refine⟨λi m σ H=>m=xs.length-i/\i<=xs.length/\Pv i σ H,⟨xs.length,by simp,AZ _,h0⟩,?_⟩;rintro i m σ H ⟨rfl,hi,p⟩;have q:=hl i σ H hi p;by_cases J:i<xs.length
 ·refine .inr ⟨⟨xs,xs[i],q,by simp[J]⟩,Pv (i+1),λσ' H' p'=>⟨xs.length-(i+1),by omega,rfl,J,p'⟩,λx H' y=>?_⟩;obtain⟨pp,U,rfl,hn,rfl,y⟩:=y;exact hs i U σ _ pp (y xs q) p hn
 ·have e:i=xs.length:=by omega
  subst e;exact .inl ⟨⟨xs,q,Au _⟩,hd σ H p⟩
def VO (cells:List (Str×Addr)):List (Str×NameKind)->List (Str×Addr)->Option (List (Str×Addr))
 | [],acc=>some acc
 | (n,k)::r,acc=>if k==.free then(match cells.lookup n with|some a=>VO cells r ((n,a)::acc)|none=>none) else VO cells r acc
theorem JU:∀{names}{acc cl},VO cells names acc=some cl->(∀p∈acc,cells.lookup p.1=some p.2)->∀p∈cl,cells.lookup p.1=some p.2
 | [],acc,cl,h,ha=>by
  have:acc=cl:=AO h;subst this;exact ha
 | (n,k)::r,acc,cl,h,ha=>by
  unfold VO at h;split at h
  ·split at h
   ·rename_i a e;exact JU h λp hp=>by
     rcases AF.mp hp with rfl|hp
     ·exact e
     ·exact ha p hp
   ·cases h
  ·exact JU h ha
theorem M3 {cl}(h:VO env.cells scope.names []=some cl):closureFor scope env=pure cl:=by
 simp only[closureFor];have J:∀(names:List (Str×NameKind)) (acc:List (Str×Addr)),VO env.cells names acc=some cl->(do let r <-forIn names acc λ(x:Str×NameKind) (cs:List (Str×Addr))=>if(x.2==NameKind.free)=true then do let a <-cellOf env x.1;pure (ForInStep.yield ((x.1,a)::cs)) else pure (ForInStep.yield cs);pure r)=(pure cl:Sem _):=by
  intro names
  induction names with
  | nil=>intro acc h;have:acc=cl:=AO h;subst this;rfl
  | cons y r U=>
   intro acc h;obtain⟨n,k⟩:=y;unfold VO at h;rw[List.forIn_cons];split at h
   ·rename_i e;split at h
    ·rename_i a ea;simp only[An e];have:=U _ h;simp only[cellOf,ea];exact this
    ·cases h
   ·rename_i e;simp only[Am e];exact U _ h
 exact Eq.trans (congrArg (λm:Sem (List (Str×Addr))=>m >>= pure) (J _ _ h)) rfl
theorem GL {cl:List (Str×Addr)}{c:Addr}(h:cl.lookup x=some c):(x,c)∈cl:=by
 induction cl with
 | nil=>simp at h
 | cons y r U=>
  rw[List.lookup_cons] at h;split at h
  ·rename_i e;have J:x=y.1:=by simpa using e
   cases h;rw[J];exact AH ..
  ·exact AE _ (U h)
def Cw (X:Cx)(scope:Scope)(N:List Str)(caps:List (Option Nat)):Bool:=(List.range N.length).all λi=>match N[i]?,caps[i]? with
 | some x,some (some j)=>X.N[j]? == some x&&X.env.kindOf x==some .cell&&(relabel scope X.env).names.lookup x==some .cell
 | _,_=>true
theorem Tz {cl}{N}(clos:VO X.env.cells scope.names []=some cl)(kind:scope.kind=.function)(nm:(scope.names.all λy=>y.2 != .cell&&(y.2 != .local||scope.names.lookup y.1==some .local))=true)
  (has:((relabel scope X.env).names.all λy=>(y.2 != .cell&&y.2 != .free)||(cl.lookup y.1).isSome)=true) (cap:Cw X scope N caps=true) (len:caps.length=N.length):XE X scope cl N caps where
 clos:=M3 clos
 kind:=kind
 nocell:=λy hy z=>by
  have:=Io.mp nm y hy;rw[z] at this;simp at this
 names:=λy hy z=>by
  have:=Io.mp nm y hy;rw[z] at this;simpa using this
 sub:=λx c h=>JU clos (λp hp=>absurd hp (by simp)) _ (GL h)
 has:=λx h=>by
  have a0:∀(l:List (Str×NameKind)),(l.all λy=>(y.2 != .cell&&y.2 != .free)||(cl.lookup y.1).isSome)=true->(l.lookup x=some .cell∨l.lookup x=some .free)->∃c,cl.lookup x=some c:=by
   intro l
   induction l with
   | nil=>intro _ h;simp at h
   | cons y r ih=>
    intro U h;rw[List.all_cons,Iu] at U;rw[List.lookup_cons] at h;split at h
    ·rename_i e;have e':x=y.1:=by simpa using e
     have J:y.2=.cell∨y.2=.free:=h.elim (λh=>.inl (AO h)) (λh=>.inr (AO h));have:=U.1;have h4:(cl.lookup y.1).isSome=true:=by
      rcases J with J|J<;>rw[J] at this<;>exact this
     rw[e'];exact Option.isSome_iff_exists.mp h4
    ·exact ih U.2 h
  exact a0 _ has h
 cap:=λi j x h1 h2=>by
  have hi:=Qt h1;have:=Io.mp cap i (List.mem_range.mpr hi);simp only[h1,h2,Iu,beq_iff_eq] at this;exact⟨this.1.1,this.1.2,this.2⟩
 len:=len
theorem Rk {cl}{N}(a:VO X.env.cells scope.names []=some cl:=by rfl)(b:scope.kind=.function:=by rfl)(c:(scope.names.all λy=>y.2 != .cell&&(y.2 != .local||scope.names.lookup y.1==some .local))=true:=by rfl)(d:((relabel scope X.env).names.all λy=>(y.2 != .cell&&y.2 != .free)||(cl.lookup y.1).isSome)=true:=by rfl)(e:Cw X scope N caps=true:=by rfl)(f:caps.length=N.length:=by rfl):XE X scope cl N caps:=Tz a b c d e f
theorem QX:Y4 caps wi g tt te σ H Q=wi σ H λJ H1=>U7 J g tt te (KD caps σ) H1 Q:=rfl
theorem Zw {Q}:RV σ H Q=Q true H:=rfl
def CN (Pv:Nat->List V->St->Hp->Prop)(n i:Nat)(acc:List V)(σ:St)(H:Hp):Prop:=∃m',m'<n-i/\m'=n-(i+1)/\i+1<=n/\acc.length<=i+1/\Pv (i+1) acc σ H
theorem CN.mk {Pv}{acc}(hi:i<n)(ha:acc.length<=i+1)(h:Pv (i+1) acc σ H):CN Pv n i acc σ H:=⟨n-(i+1),by omega,rfl,hi,ha,h⟩
theorem Zt {a}(Pv)(h0:Pv 0 [] σ0 H)(hl:∀i acc σ H,i<=xs.length->Pv i acc σ H->Kv K H a xs)(hn:xs.length<=1000)
  (hs:∀i x acc σ H,xs[i]?=some x->acc.length<=i->Pv i acc σ H->g x σ H λJ H2=>tt J H2 λb H3=>if b=true then te J H3 λv H4=>CN Pv xs.length i (acc++[v]) J H4 else CN Pv xs.length i acc J H3)
  (hd:∀acc σ H,Pv xs.length acc σ H->∀p,H p=none->Q (.ref p) (upd H p (.lst acc))):U7 (nK K a) g tt te σ0 H Q:=by
 refine⟨λi m acc σ H=>m=xs.length-i/\i<=xs.length/\acc.length<=i/\Pv i acc σ H,⟨xs.length,by simp,AZ _,Au _,h0⟩,?_⟩;rintro i m acc σ H ⟨rfl,hi,ha,p⟩;have q:=hl i acc σ H hi p;by_cases U:i<xs.length
 ·refine .inr ⟨⟨xs,xs[i],q,by simp[U]⟩,Zl (by omega),λx H' y=>?_⟩;obtain⟨e,y⟩:=y;subst e;exact hs i x acc σ _ (y xs q) ha p
 ·have e:i=xs.length:=by omega
  subst e;exact .inl ⟨⟨xs,q,Au _⟩,hd acc σ H p⟩
def pL (K:W.Frag)(a b:Addr):It:=
 ⟨λi H=>∃xs ys x y,Kv K H a xs/\Kv K H b ys/\xs[i]?=some x/\ys[i]?=some y,λi H v H'=>∃p x y,v=.ref p/\H p=none/\H'=upd H p (.tup [x,y])/\(∀xs,Kv K H a xs->xs[i]?=some x)/\∀ys,Kv K H b ys->ys[i]?=some y,
  λi H=>∃xs ys,Kv K H a xs/\Kv K H b ys/\(xs.length<=i∨ys.length<=i)⟩
theorem LR {k:Nat}(l1 l2 z TI TO i1 i2)(D:ZipApart z TI TO i1 i2 l1 l2) :
  U6 P w K (.Tuple es k pos) (pL K l1 l2) [z,TI,TO,i1,i2] z (λi h=>IsZip h z TI TO .none/\IsPair h TI (.ref i1) (.ref i2)/\(∃a b,IsPair h TO a b)/\h.IsListIter i1 l1 i/\h.IsListIter i2 l2 i) where
 mem:=by simp
 obj:=λi h st b J=>by
  obtain⟨U,h1,⟨_,_,h2⟩,⟨o3,e3,_,d3⟩,⟨o4,e4,_,d4⟩⟩:=st;simp only[AF,List.not_mem_nil,or_false] at J;rcases J with rfl|rfl|rfl|rfl|rfl
  ·exact⟨_,U,λv q=>by have q':Data.fields _=Data.cell v:=q;cases q'⟩
  ·exact⟨_,h1,λv q=>by have q':Data.seq _ _=Data.cell v:=q;cases q'⟩
  ·exact⟨_,h2,λv q=>by have q':Data.seq _ _=Data.cell v:=q;cases q'⟩
  ·exact⟨o3,e3,λv q=>by rw[d3] at q;cases q⟩
  ·exact⟨o4,e4,λv q=>by rw[d4] at q;cases q⟩
 keep:=λi h h' ⟨U,h1,⟨a,b,h2⟩,h3,h4⟩ k=>⟨k z (by simp) _ U,k TI (by simp) _ h1,⟨a,b,k TO (by simp) _ h2⟩,h3.at λo e=>k i1 (by simp) o e,h4.at λo e=>k i2 (by simp) o e⟩
 item:=by
  intro X hP hw hK hc i pins s σ H E I hf st hg;subst hP hw hK;obtain⟨xs,ys,x,y,a6,a4,hx,hy⟩:=hg;obtain⟨ae,a9,p1,_⟩:=I.list a6;obtain⟨ab,a7,p2,_⟩:=I.list a4;obtain⟨u1,ag,ai⟩:=a9.get hx;obtain⟨u2,aj,af⟩:=a7.get hy;obtain⟨U,a0,⟨a,b,a5⟩,h1,h2⟩:=id st;refine wpAny_pyNext_zip_item D U a0 a5 h1 h2 p1.isList p2.isList (x:=u1) (y:=u2) (by simpa using ag) (by simpa using aj) λh' e1 e2 e3 e4 e5 e6 e7=>?_
  refine⟨_,rfl,wpAny_letOwnedTupleGo_zip (s:={ s with heap:=h' }) e1 λaa e8 sb=>?_⟩;have ah:z≠s.heap.objs.size:=AQ (AC U);have I1:Inv X pins σ H { s with heap:=aa }:=I.turnedL (fp:=[z,TI,TO,i1,i2]) (t':=s.toks) (λb o J q=>by
   have n1:b≠z:=λq=>J (by simp[q])
   exact(sb.2 b n1).trans (e7 b o n1 (λq=>J (by simp[q])) (λq=>J (by simp[q])) (λq=>J (by simp[q])) q)) hf
  have et:aa.get? s.heap.objs.size=some { cls:=.type "tuple",data:=.seq #[u1,u2] }:=(sb.2 _ (Ir ah)).trans e5;have I2:=I1.trackNew (o:=.tup [x,y]) I (Au _) ⟨by show 2<=sizeLine;decide,[u1,u2],.cons ai (.cons af .nil),⟨_,et,rfl,0,rfl⟩⟩;refine⟨.ref s.heap.objs.size,_,I2,rfl,⟨_,x,y,rfl,I.hok.fresh (Au _),rfl,λys a8=>by rw[I.list_inj a8 a6];exact hx,λys a8=>by rw[I.list_inj a8 a4];exact hy⟩,⟨e8,?_,⟨_,_,(sb.2 _ D.TOz).trans e2⟩,e3.at λo q=>(sb.2 _ D.i1z).trans q,e4.at λo q=>(sb.2 _ D.i2z).trans q⟩,λb J=>?_⟩
  ·exact(sb.2 _ D.TIz).trans (e7 _ _ D.TIz D.TITO D.TIi1 D.TIi2 a0)
  ·rw[Qk ?_]
   ·exact(hf b J).1
   ·intro q;have:∃o,s.heap.get? b=some o:=by
     simp only[AF,List.not_mem_nil,or_false] at J;obtain⟨o3,g3,_⟩:=h1;obtain⟨o4,g4,_⟩:=h2;rcases J with rfl|rfl|rfl|rfl|rfl
     ·exact⟨_,U⟩
     ·exact⟨_,a0⟩
     ·exact⟨_,a5⟩
     ·exact⟨_,g3⟩
     ·exact⟨_,g4⟩
    obtain⟨o,g⟩:=this;exact AQ (AC g) q
 done:=by
  intro X hP hw hK hc i pins s σ H E I hf st hg;subst hP hw hK;obtain⟨xs,ys,a6,a4,hx⟩:=hg;obtain⟨ae,a9,p1,_⟩:=I.list a6;obtain⟨ab,a7,p2,_⟩:=I.list a4;obtain⟨U,a0,⟨a,b,a5⟩,h1,h2⟩:=st;have ak:=a9.length;have ao:=a7.length;refine wpAny_pyNext_zip_end (I.ok.hd hc) D U a0 a5 h1 h2 p1.isList p2.isList ?_ λh' eb=>⟨rfl,I.turnedL (fp:=[z,TI,TO,i1,i2]) (t':=s.toks) (λb o J q=>eb b o (λq=>J (by simp[q])) (λq=>J (by simp[q])) (λq=>J (by simp[q])) (λq=>J (by simp[q])) q) hf⟩
  rcases hx with hx|hx
  ·exact .inl (by simp;omega)
  ·exact .inr (by simp;omega)
 self:=λ_ _ _ _ _ ⟨U,_⟩ h=>wpAny_pyIter_zip U h
theorem FG {a b:Nat}(h:a<b∨b<a):a≠b:=by omega
theorem CF (n l1 l2:Nat)(h1:l1<n)(h2:l2<n):ZipApart (n+4) (n+2) (n+3) n (n+1) l1 l2:=by
 constructor<;>exact FG (by omega)
def Cb (K:W.Frag)(ta:TA):TI:=λσ H R=>ta σ H λvs H1=>∃a b,vs=[.ref a,.ref b]/\(∃xs,Kv K H1 a xs)/\(∃ys,Kv K H1 b ys)/\R (pL K a b) H1
theorem LK {ta}:Cb K ta σ H R=ta σ H λvs H1=>∃a b,vs=[.ref a,.ref b]/\(∃xs,Kv K H1 a xs)/\(∃ys,Kv K H1 b ys)/\R (pL K a b) H1:=rfl
theorem Bq (K){es}{k:Nat}{a b}{ta}{p pos pt}(hK:X.K=K)(hg:Gl X "zip")(hm:X.mg "zip"=none)(ha:PA X [a,b] ta)(hs:starEach [a,b] X.env=[(false,eval a X.env),(false,eval b X.env)]:=by rfl)(hs2:starEach [b] X.env=[(false,eval b X.env)]:=by rfl):PI X (.Tuple es k pt) (.Call (.Name "zip" p) [a,b] [] pos) (Cb K ta):=by
 subst hK;intro pins s σ H R I h;refine Call_ (WH I hg hm boot_zip (pH (Kw (ha pos pins s σ H _ I h) λus J ⟨vs,H1,U,r1,q1⟩=>?_) (by rw[hs,hs2]) (by rw[hs2];rfl)));obtain⟨l1,l2,rfl,⟨xs,a6⟩,⟨ys,a4⟩,q⟩:=q1;obtain⟨u1,u2,rfl,r2,r3⟩:=KP r1;obtain rfl:=r2.ref_of;obtain rfl:=r3.ref_of;obtain⟨a9,ab,p1,_⟩:=U.list a6;obtain⟨a8,aa,p2,_⟩:=U.list a4;have a5:l1<J.heap.objs.size:=by obtain⟨o,e,_⟩:=p1.isList;exact AC e
 have a7:l2<J.heap.objs.size:=by obtain⟨o,e,_⟩:=p2.isList;exact AC e
 refine call_zip_2 p1.isList p2.isList λh' e1 e2 e3 e4 e5 e6 e7=>?_
 have I2:Inv X pins σ H1 { J with heap:=h' }:=U.kept (t':=J.toks) e7;refine wpAny_pyIter_zip (s:={ J with heap:=h' }) e1 ?_;generalize hn:J.heap.objs.size=n at *;have D:ZipApart (n+4) (n+2) (n+3) n (n+1) l1 l2:=CF n l1 l2 a5 a7;refine⟨n+4,[n+4,n+2,n+3,n,n+1],_,_,H1,rfl,I2,LR l1 l2 _ _ _ _ _ D,⟨e1,e2,⟨_,_,e3⟩,e4,e5⟩,λb hb=>?_,q⟩;have a0:J.heap.objs.size<=b:=by
  rw[hn];simp only[AF,List.not_mem_nil,or_false] at hb;rcases hb with rfl|rfl|rfl|rfl|rfl
  ·exact Nat.le_add_right _ _
  ·exact Nat.le_add_right _ _
  ·exact Nat.le_add_right _ _
  ·exact Au _
  ·exact Nat.le_add_right _ _
 exact U.fpOk a0 (U.hok.fresh a0)
def Sl (K:W.Frag):List V->Hp->VK->Prop:=λxs H Q=>∃(p:Addr) (bs:List Bool),xs=[.ref p]/\Kv K H p (bs.map V.bl)/\Q (.bl (bs.all id)) H
theorem RR {bs:List Bool}(h:Vals (bs.map V.bl) us):us=bs.map Value.bool:=by
 induction bs generalizing us with
 | nil=>cases h;rfl
 | cons b r J=>
  cases h with
  | cons h1 h2=>
   have e:_=Value.bool b:=h1;rw[e,J h2];rfl
theorem MA {bs:List Bool}:((List.range bs.length).all λi=>bs.getD i false)=bs.all id:=by
 have e:bs=(List.range bs.length).map λi=>bs.getD i false:=by
  apply List.ext_getElem
  ·simp
  ·intro i h1 h2;simp[pF,Ax h1]
 conv=>rhs;rw[e]
 rw[List.all_map];rfl
theorem XS (K){X}(hK:X.K=K)(hc:X.calm=true):CallR X (.builtin "all") (Sl K):=by
 subst hK;intro pins s σ H xs us Q I r h;obtain⟨p,bs,rfl,hq,q⟩:=h;obtain⟨u,rfl,r1⟩:=Z1 r;obtain rfl:=r1.ref_of;obtain⟨its,rv,pl,_⟩:=I.list hq;have e:=RR rv;subst e;refine call_all_walk (wpAny_pyIter_list pl.isList ⟨_,_,_,_,_,_,λi=>bs.getD i false,rfl,Walks.list (A:=X.A.in1) (I.ok.hd hc) s.heap.objs.size p ?_ _,⟨⟨_,Ia _ rfl,rfl,rfl⟩,pl.isList.push _⟩,?_,λh' tk hk=>?_⟩)
 ·obtain⟨o,g,_⟩:=pl.isList;exact AQ (AC g)
 ·intro i v s' Q' E' hv a4;have a0:(bs.map Value.bool)[i]?=some v:=by simpa using hv
  rw[AS] at a0;obtain⟨b,hb,rfl⟩:=A8.mp a0;have e:bs.getD i false=b:=by rw[pF,hb];rfl
  have U:Q' (bs.getD i false) s':=a4;rw[e] at U;exact ID U
 ·have J:Inv X pins σ H { s with heap:=h',toks:=tk }:=I.kept λb o g=>hk b o (λz=>by
   have z':b=s.heap.objs.size:=by simpa using z
   exact AQ (AC g) z') (AI _ g)
  refine QG J q ?_;rw[AR,As,MA]
def CMulU (i j:Int):Prop:=Bd 4000000 i/\Bd 4000000 j
theorem CMulU.ok {i j:Int}(h:CMulU i j):IntMulOk i j:=by
 have h1:=h.1.bits;have h2:=h.2.bits;unfold IntMulOk;have e:Builtin.Int.intTooBig ((Builtin.Int.intBits i:Int)+(Builtin.Int.intBits j:Int))=false:=by
  unfold Builtin.Int.intTooBig;have e2:bitsLine=134217728:=by decide
  rw[e2];exact AV (by omega)
 rw[e];simp
theorem op_mulU:OpR X (binaryOp .Mult) (rI CMulU λi j=>.int (i*j)):=oN λ_ _ _ _ _ _ _ hc q=>mul_int q hc.ok
theorem C7 (K){X}{tg l}{tl}(h:X.K=K)(hl:PE X l tl):PI X tg l (Cc K tl):=by subst h;exact Fj hl
def qK (φ:V->V->V->V->V->Hp->VK->Prop):Sp:=λvs H Q _=>∃a b c d e,vs=[a,b,c,d,e]/\φ a b c d e H Q
theorem EU {N}:start N [a,b,c,d,e]=some a::some b::some c::some d::some e::List.replicate (N.length-5) none:=rfl
section
variable {X:Cx}
theorem Bo {y}{spos}{cl}{N}(hN:X.N.Nodup)(hy:X.N[i]?=some y)(hx:mL X.env.scope y)(hc:X.calm=true)(O:XE X scope cl N caps)
  (hi:PI X tg iter wi) (hg:∀C s H ex,PG (Lw X scope cl N C s H ex) tg g) (ht:∀C s H ex,nH (Lw X scope cl N C s H ex) ifs tt) (he:∀C s H ex,PE (Lw X scope cl N C s H ex) elt te)
  (hs:∀v,foldedSetIterable iter X.env v=pure v:=by intro _;rfl) (hsw:swapsWith (.ListComp elt [⟨tg,iter,ifs,0⟩] scope pos) (some (.Name y py)) spos.line X.env=pure true:=by rfl)
  (hf:X.fn y=true∨X.env.scope.names.lookup y=some .local:=by first|exact .inl rfl|exact .inr rfl|assumption):PS X (.Assign [.Name y py] (.ListComp elt [⟨tg,iter,ifs,0⟩] scope pos) spos) (Y5 (Y4 caps wi g tt te) (Xd i)):=by
 intro pins s σ H D I h;rw[exec_Assign_Name_used _ _ _ _ hsw];refine Aw (wpAny_standAt ?_);refine Aw ?_;show wpAny _ _ (comprehension (.ListComp elt [⟨tg,iter,ifs,0⟩] scope pos) scope X.env (firstIterPos [⟨tg,iter,ifs,0⟩] pos) (newList []) (firstAsync [⟨tg,iter,ifs,0⟩]) (firstIter [⟨tg,iter,ifs,0⟩] X.env) (some (assign (.Name y py) X.env)) >>= λ_=>pure ()) _ _ s;refine Aw (K2 hc O hi hg ht he hs I h @λC Dl s4 H' m r J hn q fr U hz cC hp=>?_);refine PyProof.Rows.assign_Name (KR J hN hy hx (show RelV (.ref _) (.ref _) from rfl) (λs5 J7 ⟨a,sa,ha⟩=>?_) hf);refine⟨m,?_,λh' sb=>AM (AM ⟨_,_,J7.turned (t':=s5.toks) (λb o hb e=>(sb.2 b hb).trans e) fr U (.inr hz) cC hp,q⟩)⟩;obtain⟨o,es,ep,e,rest⟩:=hn;exact⟨o,es,ep,(sa.2 _ λz=>ha.elim (λw=>U (z.trans w)) λw=>cC _ _ w z.symm).trans e,rest⟩
theorem Ji {y}{spos}{cl}{N}(hN:X.N.Nodup)(hy:X.N[i]?=some y)(hx:mL X.env.scope y)(hc:X.calm=true)(O:XE X scope cl N caps)
  (hi:PI X (.Name x px) iter wi) (hg:∀C s H ex,PG (Lw X scope cl N C s H ex) (.Name x px) g) (ht:∀C s H ex,nH (Lw X scope cl N C s H ex) ifs tt) (he:∀C s H ex,PE (Lw X scope cl N C s H ex) elt te)
  (hs:∀v,foldedSetIterable iter X.env v=pure v:=by intro _;rfl) (hsw:swapsWith (.ListComp elt [⟨.Name x px,iter,ifs,0⟩] scope pos) (some (.Name y py)) spos.line X.env=pure true:=by rfl)
  (hf:X.fn y=true∨X.env.scope.names.lookup y=some .local:=by first|exact .inl rfl|exact .inr rfl|assumption):PS X (.Assign [.Name y py] (.ListComp elt [⟨.Name x px,iter,ifs,0⟩] scope pos) spos) (Y5 (Y4 caps wi g tt te) (Xd i)):=Bo hN hy hx hc O hi hg ht he hs hsw hf
end
end L2
namespace L2
open PySem PySem.W PyProof.Rows
def Asks {α:Type}(n:Nat)(P:α->Prop):KasT α->Prop
 | .ret a=>P a
 | .ask i j k=>i<n/\j<n/\∀b,Asks n P (k b)
theorem Asks.bind {P:α->Prop}{R:β->Prop}{f:α->KasT β}(hf:∀a,P a->Asks n R (f a)):∀{t:KasT α},Asks n P t->Asks n R (t.bind f)
 | .ret a,h=>hf a h
 | .ask _ _ k,⟨h1,h2,h3⟩=>⟨h1,h2,λb=>Asks.bind hf (h3 b)⟩
theorem Asks.wp {P}{cmp}(hc:∀i j C,i<n->j<n->(∀b,C b s)->cmp i j C s) :
  ∀{t:KasT α},Asks n P t->t.kasWp cmp (λa s'=>s'=s/\P a) s
 | .ret _,h=>⟨rfl,h⟩
 | .ask i j _,⟨h1,h2,h3⟩=>hc i j _ h1 h2 λb=>Asks.wp hc (h3 b)
def PermN (n:Nat)(p:Array Nat):Prop:=p.toList.Perm (List.range n)
theorem PermN.lt {p}(h:PermN n p)(hn:0<n)(i:Nat):p.getD i 0<n:=by
 by_cases hi:i<p.size
 ·have e:p.getD i 0=p[i]:=by simp[Array.getD,hi]
  rw[e];have m:p[i]∈p.toList:=by simp
  exact List.mem_range.mp (h.mem_iff.mp m)
 ·have e:p.getD i 0=0:=by simp[Array.getD,hi]
  rw[e];exact hn
theorem PermN.rev {p}(h:PermN n p):PermN n (kas_rev p i j):=List.Perm.trans (Array.Perm.toList (mirror_perm p i j _)) h
theorem PermN.bub {k d:Nat}{p}(h:PermN n p):PermN n (bubble p k d):=List.Perm.trans (Array.Perm.toList (bubble_perm p k d)) h
section
variable {n:Nat} (hn:0<n)
include hn
theorem Kg {p}(h:PermN n p):∀f m,Asks n (λ_:Nat=>True) (kas_asc p f m)
 | 0,_=>trivial
 | f+1,m=>⟨h.lt hn _,h.lt hn _,λb=>by cases b;exact Kg h f (m+1);exact trivial⟩
theorem YC:∀f p m q,PermN n p->Asks n (λr:Array Nat×Nat×Nat=>PermN n r.1) (kas_desc f p m q)
 | 0,_,_,_,h=>h
 | f+1,p,m,q,h=>⟨h.lt hn _,h.lt hn _,λb=>by
  cases b with
  | true=>
   simp only[if_true];split
   ·exact YC f _ _ _ h.rev
   ·exact YC f _ _ _ h
  | false=>exact⟨h.lt hn _,h.lt hn _,λc=>by cases c;exact YC f _ _ _ h;exact h⟩⟩
theorem Kf {p}{k:Nat}(h:PermN n p):Asks n (λr:Nat×Array Nat=>PermN n r.2) (kas_tail3 m k p):=
 by
 unfold kas_tail3;refine Asks.bind (P:=λ_=>True) ?_ (Kg hn h.rev _ _);intro _ _;exact h.rev
theorem YL {p}{k:Nat}(h:PermN n p):Asks n (λr:Nat×Array Nat=>PermN n r.2) (kas_descPart m k p):=
 Asks.bind (λr J=>by split;exact Kf hn (PermN.rev J);exact Kf hn J) (YC hn _ _ _ _ h)
theorem G2 {p}{k:Nat}(h:PermN n p):Asks n (λr:Nat×Array Nat=>PermN n r.2) (kas_count k p):=
 Asks.bind (λm _=>by
  split
  ·exact h
  ·split
   ·exact⟨h.lt hn _,h.lt hn _,λb=>by cases b;exact YL hn h.rev;exact h⟩
   ·exact YL hn h) (Kg hn h _ _)
theorem YY {p}{k:Nat}(h:PermN n p):∀f l r,Asks n (λ_:Nat=>True) (kas_place p k f l r)
 | 0,_,_=>trivial
 | f+1,l,r=>by
  unfold kas_place;split
  ·exact trivial
  ·exact⟨h.lt hn _,h.lt hn _,λb=>by cases b;exact YY h f _ _;exact YY h f _ _⟩
theorem U3:∀f p k,PermN n p->Asks n (PermN n) (kas_bin f p k)
 | 0,_,_,h=>h
 | f+1,p,k,h=>Asks.bind (λl _=>U3 f _ _ h.bub) (YY hn h _ _ _)
theorem Lh:Asks n (PermN n) (kas_sort n):=
 Asks.bind (λr J=>by split;exact U3 hn _ _ _ J;exact J) (G2 hn (show PermN n (List.toArray (List.range n)) from List.Perm.refl _))
end
def Wu (k:Bool)(v:Value):Prop:=if k=true then ∃x t,v=Value.str x t else ∃i t,v=Value.int i t
section
variable {prog:Program} {w:World} {A:Around} {E:Value->Shared->Prop} {s:Shared}
theorem P8 {b k}{p q}{Q}(hp:Wu k p)(hq:Wu k q)(h:∀c,Q c s):wpAny (model prog w) A (oneLt' b p q) Q E s:=by
 cases k with
 | true=>
  obtain⟨x,t,rfl⟩:=hp;obtain⟨y,u,rfl⟩:=hq;cases b
  ·exact kat_one _ _ (PyProof.Rows.lt_str (h _))
  ·exact oneLt_str (h _)
 | false=>
  obtain⟨x,t,rfl⟩:=hp;obtain⟨y,u,rfl⟩:=hq;cases b
  ·exact kat_one _ _ (PyProof.Rows.lt_int (h _))
  ·exact oneLt_int (h _)
theorem Tt {k}{p q}{Q}(hp:Wu k p)(hq:Wu k q)(h:∀c,Q c s):wpAny (model prog w) A (eqBool p q) Q E s:=by
 cases k with
 | true=>
  obtain⟨x,t,rfl⟩:=hp;obtain⟨y,u,rfl⟩:=hq;exact wpAny_eqBool_str (h _)
 | false=>
  obtain⟨x,t,rfl⟩:=hp;obtain⟨y,u,rfl⟩:=hq;exact wpAny_eqBool_int (h _)
theorem Uz {b fin}{Q}(h:∀c,Q c s):∀{ks}{xs ys},Paired Wu ks xs->Paired Wu ks ys->∀i,KatLex prog w A b fin Q (xs.zip ys) i s
 | _,_,_,.nil,_,_=>kat_nil (h _)
 | _,_,_,.cons hp rx,.cons hq ry,i=>kat_cons (Tt hp hq λe=>kat_go (λz=>by subst z;exact kat_yes (Uz h rx ry (i+1))) (λz=>by subst z;exact kat_no (P8 hp hq h)))
def Mn (h:Heap)(ks:List Bool)(v:Value):Prop:=∃a o xs n,v=.ref a/\h.get? a=some o/\o.cls=.type "tuple"/\o.data=.seq xs n/\Paired Wu ks xs.toList
theorem WX {h}{ks}:∀vs,(∀v∈vs,Mn h (true::ks) v)->∃fs,KatTups h vs fs/\fs.length=vs.length/\∀f∈fs,∃x t,f=Value.str x t
 | [],_=>⟨[],trivial,rfl,by simp⟩
 | v::vs,H=>by
  obtain⟨fs,h1,h2,h3⟩:=WX vs λu hu=>H u (AE _ hu)
  obtain⟨a,o,xs,n,rfl,ho,hc,hd,hp⟩:=H v AH;obtain⟨f,r,hx,J⟩:∃f r,xs.toList=f::r/\Wu true f:=by
   generalize xs.toList=l at hp;cases hp with
   | cons J _=>exact⟨_,_,rfl,J⟩
  ·refine⟨f::fs,⟨⟨a,o,xs,n,rfl,ho,hc,hd,?_⟩,h1⟩,by simp[h2],?_⟩
   ·have:xs.toList[0]?=some f:=by rw[hx];rfl
    simpa using this
   ·intro g U;rcases AF.mp U with rfl|U
    ·exact J
    ·exact h3 g U
def bare (h:Heap)(a:Addr)(vs:List Value):Heap:=((h.update a (Obj.mapSeq λ_=>#[])).push (seqObj "tuple" vs.toArray 0)).push (seqObj "list" #[] 0)
theorem Rr {h}{a b}{vs}{o}(hb:b≠a)(g:h.get? b=some o):(bare h a vs).get? b=some o:=
 AI _ (AI _ ((Heap.get?_update_other h (Obj.mapSeq λ_=>#[]) (Ir hb)).trans g))
theorem GA (vs):(List.range vs.length).map (λi=>vs.getD i Value.none)=vs:=by
 apply IX;intro i;by_cases h:i<vs.length
 ·rw[AS,List.getElem?_range h];simp[h]
 ·simp[Nat.le_of_not_lt h]
theorem GK {a}{vs}{ks}{P}(ho:s.heap.get? a=some (seqObj "list" vs.toArray n))(h64:vs.length<64)(ht:∀v∈vs,Mn s.heap (true::ks) v)
  (fin:∀out:Array Value,out.toList.Perm vs->P (.done (.ret .none)) { s with heap:=sortedHeap s.heap a vs out }):wpAny (model prog w) A (Builtin.«list.sort» ⟨[.ref a],[]⟩) P E s:=by
 have hv:vs.length<=sizeLine:=by rw[AB];omega
 obtain⟨e1,a5⟩:∃e1,(s.heap.update a (Obj.mapSeq λ_=>(#[]:Array Value))).get? a=some (seqObj "list" #[] e1):=⟨_,get?_update_seq ho λ_=>#[]⟩
 have U:(bare s.heap a vs).get? a=some (seqObj "list" #[] e1):=AI _ (AI _ a5);have a0:∀v∈vs,Mn (bare s.heap a vs) (true::ks) v:=λv m=>by
  obtain⟨b,o,xs,k,rfl,g,hc,hd,hp⟩:=ht v m;refine⟨b,o,xs,k,rfl,Rr (λz=>?_) g,hc,hd,hp⟩;subst z;rw[ho] at g;cases g;simp[seqObj] at hc
 rw[list_sort_plain];refine Aw (listItems_at ho rfl (Aw (listUpdate_at ho rfl (Aw (seqEpoch_at a5 rfl (Aw (wpAny_newTuple (Aw (wpAny_newList (wpAny_holding ?_) (AZ _))) ?_)))) ?_ (AZ _))))
 rotate_left
 ·exact hv
 ·rw[AR];exact hv
 show wpAny (model prog w) A _ P E { s with heap:=bare s.heap a vs };dsimp only;by_cases h2:vs.toArray.size<2
 ·rw[An h2,An h2];refine Aw (AM ?_);rw[StateT.run_pure];refine Aw (AM ?_);dsimp only;have e:(arrOf (SortSt.mk' general' (vs.toArray.zip vs.toArray) #[] 7 none)).map (·.2)=vs.toArray:=by
   apply Array.toList_inj.mp;show(Array.map _ (vs.toArray.zip vs.toArray)).toList=vs;rw[Array.toList_map,Array.toList_zip];exact List.map_snd_zip (Au _)
  refine Aw (seqEpoch_at U rfl (Aw (listUpdate_at U rfl ?_ (AZ _) ?_)))
  ·simp only[bne_self_eq_false,Bool.false_eq_true,if_false];exact AM (fin _ (by rw[e]))
  ·show(Array.map _ _).size<=_;rw[e,AR];omega
 ·rw[Am h2,Am h2];rw[AR] at h2;obtain⟨fs,k1,k2,k3⟩:=WX (h:=bare s.heap a vs) vs a0;refine Aw (kat_kind (T:=.type "str") k1 (by omega) (λv hv=>by obtain⟨x,t,rfl⟩:=k3 v hv;exact Looks.of_pure rfl) rfl ?_);have hc:∀i j (C:Bool->Shared->Prop),i<vs.length->j<vs.length->(∀b,C b { s with heap:=bare s.heap a vs }) ->
    kas_ask prog w A (tuples' (Value.type "str" != Value.type "tuple")) vs i j C { s with heap:=bare s.heap a vs }:=λi j C hi hj hC=>by
   unfold kas_ask;have gi:vs.getD i Value.none=vs[i]:=by simp[hi]
   have gj:vs.getD j Value.none=vs[j]:=by simp[hj]
   rw[gi,gj];obtain⟨b,o,xs,k,e,g,hc,hd,hp⟩:=a0 vs[i] (List.getElem_mem hi);obtain⟨b',o',a8,k',e',g',a9,a7,a6⟩:=a0 vs[j] (List.getElem_mem hj);rw[e,e'];exact kat_lt g hd g' a7 (Uz hC hp a6 0)
  refine Aw (A9 (kat_run (ks:=vs) (vs:=vs) (Q:=λJ s'=>s'={ s with heap:=bare s.heap a vs }/\∃p:Array Nat,p.size=vs.length/\arrOf J=p.map (kas_item (vs.toArray.zip vs.toArray))/\failedOf J=none/\PermN vs.length p) rfl (by omega) h64
   (λp J s' a1 a2 a3 a4=>⟨a4.1,p,a1,a2,a3,a4.2⟩) (Asks.wp hc (Lh (by omega)))) ?_ λ_ _ e=>e)
  rintro ⟨⟨⟩,J⟩ s' ⟨rfl,p,hp,har,hf,perm⟩;dsimp only;have e:=kat_snds (vs:=vs) (ks:=vs) rfl har;have pm:(p.toList.map λi=>vs.getD i Value.none).Perm vs:=by
   have:=perm.map λi=>vs.getD i Value.none
   rwa [GA] at this
  refine Aw (seqEpoch_at U rfl (Aw (listUpdate_at U rfl ?_ (AZ _) ?_)))
  ·rw[hf];simp only[bne_self_eq_false,Bool.false_eq_true,if_false];exact AM (fin _ (by rw[e];exact pm))
  ·show(Array.map _ _).size<=_;rw[e,AR,pm.length_eq];omega
theorem Uh {vs}{ks}{Q}(hl:s.heap.IsList l vs.toArray)(h64:vs.length<64)(ht:∀v∈vs,Mn s.heap (true::ks) v)
  (h:∀(out:List Value) (h':Heap) (e:Nat),out.Perm vs->(∀b o,s.heap.get? b=some o->h'.get? b=some o)->h'.get? (s.heap.objs.size+1)=some (seqObj "list" out.toArray e)->Q (.ref (s.heap.objs.size+1)) { s with heap:=h' }) :
  wpAny (model prog w) A (call (.builtin "sorted") [.ref l]) Q E s:=by
 have U:vs.length<=sizeLine:=by rw[AB];omega
 refine Calls.call_function_entry kind_sorted plain_sorted entry_sorted (args_sorted1 _) ?_;show wpAny _ _ (Builtin.«sorted» _) _ _ _;unfold Builtin.«sorted»;refine Aw (m:=checkCount "sorted" 1 1 _) (AM (Aw (collect_list hl (Aw (wpAny_newList ?_ ?_)) ?_)))
 rotate_left
 ·exact U
 ·exact U
 have fin:∀out:Array Value,out.toList.Perm vs->Q (.ref (s.heap.objs.size+1)) { s with heap:=sortedAll s.heap vs out }:=λout hp=>by
  obtain⟨e,he⟩:=sortedAll_at s.heap vs out;exact h out.toList _ e hp (λb o=>sortedAll_old) (by rw[he])
 unfold sortedAll at fin;generalize hG:(s.heap.push (seqObj "list" #[] 0)).update s.heap.objs.size (Obj.mapSeq (·++vs.toArray))=G at fin;have z:G.objs.size=s.heap.objs.size+1:=by
  rw [<-hG];simp [Heap.size_update,size_push']
 have J:∀b o,s.heap.get? b=some o->(G.push (seqObj "list" vs.toArray 0)).get? b=some o:=λb o q=>by
  refine AI _ ?_;rw [<-hG,Heap.get?_update_ne _ _ _ _ (AQ (AC q))];exact AI _ q
 have new:(G.push (seqObj "list" vs.toArray 0)).get? (s.heap.objs.size+1)=some (seqObj "list" vs.toArray 0):=z▸Ia _ rfl;show wpAny _ _ _ _ _ { s with heap:=G.push (seqObj "list" vs.toArray 0) };dsimp only;rw[z];refine Aw (wpAny_holding (wpAny_call_entry slot_list_sort ⟨_,new,rfl⟩ entry_list_sort (GK (ks:=ks) new h64 (λv m=>?_) λout hp=>⟨_,rfl,?_⟩) (args_list_sort _)))
 ·obtain⟨a,o,xs,n,e,g,r⟩:=ht v m;exact⟨a,o,xs,n,e,J _ _ g,r⟩
 ·exact AM ⟨_,rfl,fin out hp⟩
end
def SH (k:Bool)(x:V):Prop:=if k=true then ∃z,x=V.str z else ∃i,x=V.int i
theorem K1:∀{ks}{xs}{us},Paired SH ks xs->Vals xs us->Paired Wu ks us
 | _,_,_,.nil,.nil=>.nil
 | k::_,_,_,.cons hk r,.cons hv r'=>.cons (by
   cases k with
   | true=>obtain⟨z,rfl⟩:=hk;obtain⟨t,rfl⟩:=hv;exact⟨z,t,rfl⟩
   | false=>obtain⟨z,rfl⟩:=hk;obtain⟨t,rfl⟩:=hv;exact⟨z,t,rfl⟩) (K1 r r')
theorem V8:∀{xs}{us}{u},Vals xs us->u∈us->∃x∈xs,RelV x u
 | _,_,_,.nil,h=>by cases h
 | _,_,u,.cons hv r,h=>by
  rcases AF.mp h with rfl|h
  ·exact⟨_,AH,hv⟩
  ·obtain⟨x,m,q⟩:=V8 r h;exact⟨x,AE _ m,q⟩
theorem Mr {ws}(p:us.Perm ws):∀{xs},Vals xs ws->∃ys,ys.Perm xs/\Vals ys us:=by
 induction p with
 | nil=>intro xs r;exact⟨xs,.refl _,r⟩
 | cons x p ih=>
  intro xs r;cases r with
  | cons J r=>
   obtain⟨ys,h1,h2⟩:=ih r;exact⟨_::ys,h1.cons _,.cons J h2⟩
 | swap x y l=>
  intro xs r;cases r with
  | cons J r=>
   cases r with
   | cons hw r=>exact⟨_,.swap _ _ _,.cons hw (.cons J r)⟩
 | trans p q U a0=>
  intro xs r;obtain⟨ys,h1,h2⟩:=a0 r;obtain⟨zs,h3,h4⟩:=U h2;exact⟨zs,h3.trans h1,h4⟩
def HX (K:W.Frag):List V->Hp->VK->Prop:=λxs H Q=>∃p ys ks,xs=[.ref p]/\Kv K H p ys/\ys.length<64/\(∀y∈ys,∃a zs,y=.ref a/\Kt K H a zs/\Paired SH (true::ks) zs)/\∀l zs,H l=none->zs.Perm ys->Q (.ref l) (upd H l (.lst zs))
theorem VR (K){X}(hK:X.K=K):CallR X (.builtin "sorted") (HX K):=by
 subst hK;intro pins s σ H xs us Q I r h;obtain⟨p,ys,ks,rfl,hq,a0,ht,q⟩:=h;obtain⟨u,rfl,r1⟩:=Z1 r;obtain rfl:=r1.ref_of;obtain⟨its,J,pl,hz⟩:=I.list hq;have U:=J.length;refine Uh (ks:=ks) pl.isList (by omega) (λv m=>?_) λout h' e hp kp g=>?_
 ·obtain⟨y,my,ry⟩:=V8 J m;obtain⟨a,zs,rfl,hs,hf⟩:=ht y my;obtain rfl:=ry.ref_of;obtain⟨its',r',pt,_⟩:=I.tuple hs;obtain⟨o,ho,hc,n,hd⟩:=pt;exact⟨a,o,its'.toArray,n,rfl,ho,hc,hd,K1 hf r'⟩
 ·obtain⟨zs,pz,rz⟩:=Mr hp J;exact⟨.ref _,_,I.laid (t':=s.toks) kp (IH _) (show ObjOk X.prog X.w _ h' _ (.lst zs) from⟨by rw[pz.length_eq];exact hz,out,e,rz,g⟩),rfl,q _ _ (I.hok.fresh (IH _)) pz⟩
def DP (K:W.Frag):List V->Hp->VK->Prop:=λxs H Q=>∃(p:Addr) (ns:List Int),xs=[.ref p]/\Kv K H p (ns.map V.int)/\Q (.int ns.sum) H
theorem YB (K){X}(hK:X.K=K)(hc:X.calm=true):CallR X (.builtin "sum") (DP K):=by
 subst hK;intro pins s σ H xs us Q I r h;obtain⟨p,ns,rfl,U,q⟩:=h;obtain⟨u,rfl,r1⟩:=Z1 r;obtain rfl:=r1.ref_of;obtain⟨its,rv,pl,hz⟩:=I.list U;have hi:=GR rv;obtain⟨xs,ex⟩:=hi.allInts.items;have J:=pl.isList;rw[ex] at J;refine sum_intListG (I.ok.hd hc) J λh' tk t' kp=>?_
 have e:preSum (numAt xs) xs.size=ns.sum:=by
  rw[preSum_eq,AJ (by simp),<-nums_intItems,<-ex,<-hi.numsOf]
 rw[e];exact⟨.int ns.sum,H,I.kept (t':=tk) kp,⟨_,rfl⟩,q⟩
def C4 (neg:Bool):R2:=λx y H Q=>∃i j,x=.str i/\y=.str j/\Q (.bl (if neg then !(!(Builtin.Str.occurrences j i 0 j.length 1).isEmpty) else !(Builtin.Str.occurrences j i 0 j.length 1).isEmpty)) H
def MB (K:W.Frag)(neg:Bool):R2:=λx y H Q=>pY K neg x y H Q∨C4 neg x y H Q
theorem ph (K){X}(h:X.K=K):OpR X (compareOp .In) (MB K false):=by
 subst h;exact op_in_seq.or MH
theorem XB (K){X}(h:X.K=K):OpR X (compareOp .NotIn) (MB K true):=by
 subst h;exact op_notIn_seq.or Vt
theorem Jl {z}:∀{xs:List Str},oO (.str z) (xs.map V.str)=decide (z∈xs)
 | []=>by simp[oO]
 | x::xs=>by
  have J:=Jl (z:=z) (xs:=xs);unfold oO at *;rw[A3,List.any_cons,J];by_cases h:z=x
  ·subst h;simp[l9]
  ·have h':¬x=z:=λe=>h e.symm
   simp[l9,h,h']
theorem WM (xs:List Str):(xs.map V.str).all Wl=true:=by
 rw[List.all_map,Io];intro _ _;rfl
theorem Z0 {xs:List Str}(h:Kv K H p (xs.map V.str))(q:Q (.bl (!decide (z∈xs))) H):MB K true (.str z) (.ref p) H Q:=
 .inl ⟨p,_,rfl,.inl h,rfl,WM xs,by rw[Jl];exact q⟩
def Kj (mg:Str->Option Value)(n:Str)(v:V):Prop:=∃u,mg n=some u/\RelV v u
theorem XM {n}(k:Kj X.mg n v)(hg:Gl X n:=by rfl)(hd:(n==("__debug__":Str))=false:=by decide):PE X (.Name n pos) (tC v):=by
 obtain⟨u,m,r⟩:=k;exact Vs hg m r hd
end L2
namespace L2
open PySem PyProof.Rows
def asBl (x:V)(P:Bool->Prop):Prop:=match x with|.bl c=>P c|_=>False
theorem asBl.out {x}{P}(h:asBl x P):∃c,x=.bl c/\P c:=by
 cases x<;>first|exact⟨_,rfl,h⟩|exact h.elim
def asInt (x:V)(P:Int->Prop):Prop:=match x with|.int c=>P c|_=>False
theorem asInt.out {x}{P}(h:asInt x P):∃c,x=.int c/\P c:=by
 cases x<;>first|exact⟨_,rfl,h⟩|exact h.elim
def asVar (o:Option (Option V))(P:V->Prop):Prop:=match o with|some (some v)=>P v|_=>False
theorem asVar.out {o}{P}(h:asVar o P):∃v,o=some (some v)/\P v:=by
 cases o with
 | none=>exact h.elim
 | some o=>cases o with
  | none=>exact h.elim
  | some v=>exact⟨v,rfl,h⟩
section
variable {X:Cx}
theorem PE.imp {e}{t u}(p:PE X e t)(h:∀σ H Q,u σ H Q->t σ H Q):PE X e u:=λpins s σ H Q I q=>p pins s σ H Q I (h _ _ _ q)
theorem PGs.imp {t u}(p:PGs X es t)(h:∀vs σ H Q,u vs σ H Q->t vs σ H Q):PGs X es u:=λpins s σ H vs us Q I r q=>p pins s σ H vs us Q I r (h _ _ _ _ q)
theorem OpR.imp {f}{r r'}(p:OpR X f r)(h:∀x y H Q,r' x y H Q->r x y H Q):OpR X f r':=λpins s σ H x y v u Q I U J q=>p pins s σ H x y v u Q I U J (h _ _ _ _ q)
theorem UnR.imp {f}{r r'}(p:UnR X f r)(h:∀x H Q,r' x H Q->r x H Q):UnR X f r':=λpins s σ H x v Q I rx q=>p pins s σ H x v Q I rx (h _ _ _ q)
def Zp (i:Nat):TE:=λσ H Q=>asVar σ[i]? λv=>Q v H
theorem pu (i:Nat)(hN:X.N[i]?=some x:=by rfl)(hv:oS X.env.scope x:=by first|exact Or.inl rfl|exact Or.inr (Or.inl rfl)|exact Or.inr (Or.inr rfl))(hd:(x==("__debug__":Str))=false:=by decide)(hcd:(x==("__classdict__":Str))=false:=by decide):PE X (.Name x pos) (Zp i):=
 (pv i hN hv hd hcd).imp λ_ _ _ h=>h.out
def uB (t:TE):TT:=λσ H Q=>t σ H λx H1=>asBl x λc=>Q c H1
variable {a b:Expr} {ta tb:TE} {rest:List Expr} {pos:Pos}
theorem QN {e}{t}(h:PE X e t)(he:∀whole,isTrue e X.env whole=(do let v <-whole;standAt e.pos;holding [v] (truthy v)):=by intro _;rfl):PT X e (uB t):=by
 intro pins s σ H Q I U;refine isTrue_plain (Kw (h pins s σ H _ I U) λv s1 ⟨x,H1,I1,r1,J⟩=>?_) (he _);obtain⟨d,rfl,q⟩:=J.out;cases r1;exact ID ⟨H1,I1,q⟩
def T8 (ta tb:TE):TE:=λσ H Q=>ta σ H λx H1=>asBl x λc=>if c=true then tb σ H1 Q else Q (.bl false) H1
def T7 (ta:TE):TE:=λσ H Q=>ta σ H λx H1=>asBl x λc=>Q (.bl (!c)) H1
theorem Xg (ha:PE X a ta)(hb:PE X (.BoolOp .And (b::rest) pos) tb):PE X (.BoolOp .And (a::b::rest) pos) (T8 ta tb):=by
 intro pins s σ H Q I h;refine BoolOp_and (Kw (ha pins s σ H _ I h) λv s1 ⟨x,H1,U,r1,J⟩=>?_);obtain⟨c,rfl,J⟩:=J.out;cases r1;refine ID ?_;cases c with
 | true=>exact hb pins s1 σ H1 Q U J
 | false=>exact⟨.bl false,H1,U,rfl,J⟩
theorem PH (ha:PE X a ta):PE X (.UnaryOp .Not a pos) (T7 ta):=by
 intro pins s σ H Q I h;refine UnaryOp_ (Kw (ha pins s σ H _ I h) λv s1 ⟨x,H1,U,r1,J⟩=>?_);obtain⟨c,rfl,J⟩:=J.out;cases r1;exact not_of (ID ⟨.bl (!c),H1,U,rfl,J⟩)
theorem ZY {r}(ho:OpR X (compareOp op) r)(ha:PE X a ta)(hb:PE X b tb)(hm:behindInMarks op b=false):PT X (.Compare a [op] [b] pos) (uB (OK r ta tb)):=by
 intro pins s σ H Q I h;refine wpAny_isTrue_Compare1 (Kw (ha pins s σ H _ I h) λv s1 ⟨x,H1,I1,r1,q1⟩=>Kw (hb pins s1 σ H1 _ I1 q1) λu s2 ⟨y,H2,I2,r2,U⟩=>
  Kw (ho pins s2 σ H2 x y v u _ I2 r1 r2 U) λc s3 ⟨z,H3,I3,r3,J⟩=>?_) hm
 obtain⟨k,e,J⟩:=J.out;subst e;cases r3;exact ID ⟨H3,I3,J⟩
def sI (C:Int->Int->Prop)(g:Int->Int->V):R2:=λx y H Q=>asInt x λi=>asInt y λj=>C i j/\Q (g i j) H
def sI0 (g:Int->Int->V):R2:=λx y H Q=>asInt x λi=>asInt y λj=>Q (g i j) H
def sU (g:Int->V):V->Hp->VK->Prop:=λx H Q=>asInt x λi=>Q (g i) H
theorem sI.out {C}{g}(x y)(H)(Q)(h:sI C g x y H Q):rI C g x y H Q:=by
 obtain⟨i,rfl,h2⟩:=asInt.out h;obtain⟨j,rfl,J⟩:=asInt.out h2;exact⟨i,j,rfl,rfl,J⟩
theorem sI0.out {g}(x y)(H)(Q)(h:sI0 g x y H Q):lZ g x y H Q:=by
 obtain⟨i,rfl,h2⟩:=asInt.out h;obtain⟨j,rfl,h3⟩:=asInt.out h2;exact⟨i,j,rfl,rfl,h3⟩
theorem sU.out {g}(x)(H)(Q)(h:sU g x H Q):rU g x H Q:=by
 obtain⟨i,rfl,h⟩:=asInt.out h;exact⟨i,rfl,h⟩
theorem ZK:OpR X (binaryOp .Sub) (sI0 λi j=>.int (i-j)):=op_sub.imp sI0.out
theorem Qr:OpR X (binaryOp .Mult) (sI CMulB λi j=>.int (i*j)):=op_mulB.imp sI.out
theorem JE:OpR X (binaryOp .Mult) (sI CMulU λi j=>.int (i*j)):=op_mulU.imp sI.out
theorem QB:OpR X (binaryOp .FloorDiv) (sI (λ_ j=>CDivB j) λi j=>.int (i.fdiv j)):=op_fdivB.imp sI.out
theorem Qp:OpR X (binaryOp .Mod) (sI (λ_ j=>0<j) λi j=>.int (i % j)):=op_mod.imp sI.out
theorem Xh:OpR X (binaryOp .Pow) (sI Kz λi j=>.int (i ^ j.toNat)):=op_pow.imp sI.out
theorem Zi:OpR X (compareOp .Lt) (sI0 λi j=>.bl (decide (i<j))):=op_lt.imp sI0.out
theorem ZU:OpR X (compareOp .LtE) (sI0 λi j=>.bl (decide (i<=j))):=op_le.imp sI0.out
theorem XY:OpR X (compareOp .Gt) (sI0 λi j=>.bl (decide (i > j))):=op_gt.imp sI0.out
theorem GC:OpR X (compareOp .GtE) (sI0 λi j=>.bl (decide (i≥j))):=op_ge.imp sI0.out
theorem XW:UnR X (unaryOp .USub) (sU λi=>.int (-i)):=un_neg.imp sU.out
def sAdd:R2:=λx y H Q=>match x,y with
 | .int i,.int j=>Q (.int (i+j)) H
 | .str i,.str j=>i.length+j.length<=sizeLine/\Q (.str (i++j)) H
 | .ref _,.ref _=>Pp x y H Q
 | _,_=>False
theorem sAdd.out (x y)(H)(Q)(h:sAdd x y H Q):Sm x y H Q:=by
 unfold sAdd at h;split at h
 ·exact .inl ⟨_,_,rfl,rfl,h⟩
 ·exact .inr (.inl ⟨_,_,rfl,rfl,h⟩)
 ·exact .inr (.inr h)
 ·exact h.elim
theorem Qu:OpR X (binaryOp .Add) sAdd:=op_addA.imp sAdd.out
def sEq (K:W.Frag):R2:=λx y H Q=>match x,y with
 | .int i,.int j=>Q (.bl (decide (i=j))) H
 | .str i,.str j=>Q (.bl (decide (i=j))) H
 | .bl i,.bl j=>Q (.bl (decide (i=j))) H
 | _,_=>JA K x y H Q
def sNe (K:W.Frag):R2:=λx y H Q=>match x,y with
 | .int i,.int j=>Q (.bl (!decide (i=j))) H
 | .str i,.str j=>Q (.bl (!decide (i=j))) H
 | .bl i,.bl j=>Q (.bl (!decide (i=j))) H
 | _,_=>Jy K x y H Q
theorem sEq.out (x y)(H)(Q)(h:sEq K x y H Q):JA K x y H Q:=by
 unfold sEq at h;split at h
 ·rw[Hk];exact h
 ·rw[Hj];exact h
 ·rw[Hl];exact h
 ·exact h
theorem sNe.out (x y)(H)(Q)(h:sNe K x y H Q):Jy K x y H Q:=by
 unfold sNe at h;split at h
 ·rw[SX];exact h
 ·rw[SW];exact h
 ·rw[SY];exact h
 ·exact h
theorem qh (K)(h:X.K=K)(hu:X.A.units+64<cLine):OpR X (compareOp .Eq) (sEq K):=(rV K h hu).imp sEq.out
theorem rQ (K)(h:X.K=K)(hu:X.A.units+64<cLine):OpR X (compareOp .NotEq) (sNe K):=(rR K h hu).imp sNe.out
def Ce:nE:=λvs σ H Q=>match vs with|[]=>Q σ H|_=>False
def Su (t:TG)(u:nE):nE:=λvs σ H Q=>match vs with|v::r=>t v σ H λσ' H'=>u r σ' H' Q|[]=>False
theorem QV:PGs X [] Ce:=pgs_nil.imp λvs _ _ _ h=>by
 cases vs with
 | nil=>exact⟨rfl,h⟩
 | cons _ _=>exact h.elim
theorem Qm {e}{t}{u}(h:PG X e t)(hg:PGs X es u)(hs:(assignEach (e::es) X.env).map (·.2)=assign e X.env::(assignEach es X.env).map (·.2):=by rfl):PGs X (e::es) (Su t u):=(Bs h hg hs).imp λvs _ _ _ q=>by
 cases vs with
 | nil=>exact q.elim
 | cons v r=>exact⟨v,r,rfl,q⟩
end
def Sp1M (φ:V->Hp->VK->Prop):Sp:=λvs H Q _=>match vs with|[a]=>φ a H Q|_=>False
def Sp2M (φ:V->V->Hp->VK->Prop):Sp:=λvs H Q _=>match vs with|[a,b]=>φ a b H Q|_=>False
def Sp3M (φ:V->V->V->Hp->VK->Prop):Sp:=λvs H Q _=>match vs with|[a,b,c]=>φ a b c H Q|_=>False
def Sp4M (φ:V->V->V->V->Hp->VK->Prop):Sp:=λvs H Q _=>match vs with|[a,b,c,d]=>φ a b c d H Q|_=>False
def Sp5M (φ:V->V->V->V->V->Hp->VK->Prop):Sp:=λvs H Q _=>match vs with|[a,b,c,d,e]=>φ a b c d e H Q|_=>False
def Rp1M (φ:V->Hp->VK->XK->Prop):Sp:=λvs H Q E=>match vs with|[a]=>φ a H Q E|_=>False
def Rp2M (φ:V->V->Hp->VK->XK->Prop):Sp:=λvs H Q E=>match vs with|[a,b]=>φ a b H Q E|_=>False
theorem Sp1M.imp {φ}(vs)(H)(Q)(E:XK)(h:Sp1M φ vs H Q E):pA φ vs H Q E:=by
 unfold Sp1M at h;split at h
 ·exact⟨_,rfl,h⟩
 ·exact h.elim
theorem Sp2M.imp {φ}(vs)(H)(Q)(E:XK)(h:Sp2M φ vs H Q E):qN φ vs H Q E:=by
 unfold Sp2M at h;split at h
 ·exact⟨_,_,rfl,h⟩
 ·exact h.elim
theorem Sp3M.imp {φ}(vs)(H)(Q)(E:XK)(h:Sp3M φ vs H Q E):qM φ vs H Q E:=by
 unfold Sp3M at h;split at h
 ·exact⟨_,_,_,rfl,h⟩
 ·exact h.elim
theorem Sp4M.imp {φ}(vs)(H)(Q)(E:XK)(h:Sp4M φ vs H Q E):qL φ vs H Q E:=by
 unfold Sp4M at h;split at h
 ·exact⟨_,_,_,_,rfl,h⟩
 ·exact h.elim
theorem Sp5M.imp {φ}(vs)(H)(Q)(E:XK)(h:Sp5M φ vs H Q E):qK φ vs H Q E:=by
 unfold Sp5M at h;split at h
 ·exact⟨_,_,_,_,_,rfl,h⟩
 ·exact h.elim
theorem Rp1M.imp {φ}(vs)(H)(Q)(E:XK)(h:Rp1M φ vs H Q E):qQ φ vs H Q E:=by
 unfold Rp1M at h;split at h
 ·exact⟨_,rfl,h⟩
 ·exact h.elim
theorem Rp2M.imp {φ}(vs)(H)(Q)(E:XK)(h:Rp2M φ vs H Q E):qP φ vs H Q E:=by
 unfold Rp2M at h;split at h
 ·exact⟨_,_,rfl,h⟩
 ·exact h.elim
theorem Es:Zp i σ H Q=asVar σ[i]? λv=>Q v H:=rfl
theorem SL {P}:asVar (some (some v)) P=P v:=rfl
theorem CJ {c}{P}:asBl (.bl c) P=P c:=rfl
theorem CG {t}{Q}:uB t σ H Q=t σ H λx H1=>asBl x λc=>Q c H1:=rfl
theorem EL {tb}:T8 ta tb σ H Q=ta σ H λx H1=>asBl x λc=>if c=true then tb σ H1 Q else Q (.bl false) H1:=rfl
theorem EC:T7 ta σ H Q=ta σ H λx H1=>asBl x λc=>Q (.bl (!c)) H1:=rfl
theorem CI {C}{g}{i j:Int}:sI C g (.int i) (.int j) H Q=(C i j/\Q (g i j) H):=rfl
theorem Ez {g}{i j:Int}:sI0 g (.int i) (.int j) H Q=Q (g i j) H:=rfl
theorem CH {g}{i:Int}:sU g (.int i) H Q=Q (g i) H:=rfl
theorem SO {i j:Int}:sAdd (.int i) (.int j) H Q=Q (.int (i+j)) H:=rfl
theorem SN {i j}:sAdd (.str i) (.str j) H Q=(i.length+j.length<=sizeLine/\Q (.str (i++j)) H):=rfl
theorem EJ {i j:Int}:sEq K (.int i) (.int j) H Q=Q (.bl (decide (i=j))) H:=rfl
theorem EH {i j}:sEq K (.str i) (.str j) H Q=Q (.bl (decide (i=j))) H:=rfl
theorem EK {i j}:sEq K (.bl i) (.bl j) H Q=Q (.bl (decide (i=j))) H:=rfl
theorem EI {q}:sEq K (.ref p) (.ref q) H Q=JA K (.ref p) (.ref q) H Q:=rfl
theorem EF {i j:Int}:sNe K (.int i) (.int j) H Q=Q (.bl (!decide (i=j))) H:=rfl
theorem ED {i j}:sNe K (.str i) (.str j) H Q=Q (.bl (!decide (i=j))) H:=rfl
theorem EG {i j}:sNe K (.bl i) (.bl j) H Q=Q (.bl (!decide (i=j))) H:=rfl
theorem EE {q}:sNe K (.ref p) (.ref q) H Q=Jy K (.ref p) (.ref q) H Q:=rfl
theorem SM {Q}:Ce [] σ H Q=Q σ H:=rfl
theorem RK {t}{u}{r}{Q}:Su t u (v::r) σ H Q=t v σ H λσ' H'=>u r σ' H' Q:=rfl
theorem Ey {φ}{E}:Sp1M φ [a] H Q E=φ a H Q:=rfl
theorem Ex {φ}{E}:Sp2M φ [a,b] H Q E=φ a b H Q:=rfl
theorem Ew {φ}{E}:Sp3M φ [a,b,c] H Q E=φ a b c H Q:=rfl
theorem Eu {φ}{E}:Sp4M φ [a,b,c,d] H Q E=φ a b c d H Q:=rfl
theorem Et {φ}{E}:Sp5M φ [a,b,c,d,e] H Q E=φ a b c d e H Q:=rfl
theorem EB {φ}{E}:Rp1M φ [a] H Q E=φ a H Q E:=rfl
theorem EA {φ}{E}:Rp2M φ [a,b] H Q E=φ a b H Q E:=rfl
theorem sEq.ofR {x}(hx:∃p,x=.ref p)(h:JA K x y H Q):sEq K x y H Q:=by
 obtain⟨p,rfl⟩:=hx;cases y<;>exact h
theorem sNe.ofR {x}(hx:∃p,x=.ref p)(h:Jy K x y H Q):sNe K x y H Q:=by
 obtain⟨p,rfl⟩:=hx;cases y<;>exact h
theorem Ep {a b:Rat}{x}(h1:Fq K H a x)(h2:Fq K H b y)(q:Q (.bl (!decide (a=b))) H):sNe K x y H Q:=
 sNe.ofR ⟨h1.choose,h1.choose_spec.1⟩ (Dc h1 h2 q)
theorem Er {a b:Rat}{x}(h1:Fq K H a x)(h2:Fq K H b y)(q:Q (.bl (decide (a=b))) H):sEq K x y H Q:=
 sEq.ofR ⟨h1.choose,h1.choose_spec.1⟩ (Dr h1 h2 q)
theorem T2 {q}(h:Pp (.ref p) (.ref q) H Q):sAdd (.ref p) (.ref q) H Q:=h
end L2
namespace L2
open PySem PySem.Spec PyProof.Rows
section
variable {κ:Type} [DecidableEq κ]
def Xu (kvs:List (κ×V))(k:κ):Option V:=(kvs.find? λkv=>decide (kv.1=k)).map (·.2)
def ZT (kvs:List (κ×V))(k:κ)(v:V):List (κ×V):=
 if(kvs.any λJ=>decide (J.1=k))=true then kvs.map (λJ=>if J.1=k then(J.1,v) else J) else kvs++[(k,v)]
theorem Js {p:κ×V}{r:List (κ×V)}(e:p.1=k):Xu (p::r) k=some p.2:=by simp[Xu,IU,e]
theorem Jt {p:κ×V}{r:List (κ×V)}(e:¬p.1=k):Xu (p::r) k=Xu r k:=by simp[Xu,IU,e]
theorem Ju (k):∀kvs:List (κ×V),(kvs.any λJ=>decide (J.1=k))=(Xu kvs k).isSome
 | []=>rfl
 | p::r=>by
  rw[List.any_cons];by_cases e:p.1=k
  ·simp only[Js e,A5 e,Bool.true_or,Option.isSome_some]
  ·rw[Jt e,AV e,Bool.false_or];exact Ju k r
theorem Yl (kvs)(k:κ)(v):(ZT kvs k v).length<=kvs.length+1:=by
 unfold ZT;split
 ·rw[As];omega
 ·rw[Aq,AN,List.length_nil];omega
theorem Um {kvs:List (κ×V)}(v)(h:Xu kvs k=none):ZT kvs k v=kvs++[(k,v)]:=by
 unfold ZT;rw[Ju,h];exact Am (by decide)
theorem RelO.isSome_eq {o}{u}(r:RelO o u):o.isSome=u.isSome:=by
 cases o with
 | none=>cases u with
  | none=>rfl
  | some _=>exact(show False from r).elim
 | some _=>cases u with
  | none=>exact(show False from r).elim
  | some _=>rfl
theorem KV.val {kvs}{vs}(r:KV kvs vs)(k:κ):RelO (Xu kvs k) (valueAt vs k):=by
 unfold KV at r
 induction r with
 | nil=>exact True.intro
 | @cons p q ps qs h t U=>
  obtain⟨h1,h2⟩:=h;by_cases e:p.1=k
  ·have J:q.1=k:=h1.symm.trans e;have b:valueAt (q::qs) k=some q.2:=by simp[valueAt,IU,J]
   rw[Js e,b];exact h2
  ·have J:¬q.1=k:=λz=>e (h1.trans z)
   have b:valueAt (q::qs) k=valueAt qs k:=by simp[valueAt,IU,J]
   rw[Jt e,b];exact U
theorem KV.any {kvs}{vs}(r:KV kvs vs)(k:κ):(kvs.any λJ=>decide (J.1=k))=vs.any λJ=>decide (J.1=k):=by
 unfold KV at r
 induction r with
 | nil=>rfl
 | cons h t U=>rw[List.any_cons,List.any_cons,U,h.1]
theorem KV.repl {kvs}{vs}(r:KV kvs vs)(k:κ){y}{u}(ry:RelV y u) :
  KV (kvs.map λJ=>if J.1=k then(J.1,y) else J) (vs.map λJ=>if J.1=k then(J.1,u) else J):=by
 unfold KV at r ⊢
 induction r with
 | nil=>exact .nil
 | @cons p q ps qs h t U=>
  rw[A3,A3];refine .cons ?_ U;obtain⟨h1,h2⟩:=h;by_cases e:p.1=k
  ·rw[An e,An (h1.symm.trans e)];exact⟨h1,ry⟩
  ·rw[Am e,Am (λz=>e (h1.trans z))];exact⟨h1,h2⟩
theorem KV.put {kvs}{vs}(r:KV kvs vs)(k:κ){y}{u}(ry:RelV y u):KV (ZT kvs k y) (stored vs k u):=by
 unfold ZT stored;rw[r.any k];by_cases e:(vs.any λJ=>decide (J.1=k))=true
 ·rw[An e,An e];exact r.repl k ry
 ·rw[Am e,Am e];exact Paired.snoc r ⟨rfl,ry⟩
theorem KV.keys {kvs:List (κ×V)}{vs:List (κ×Value)}(r:KV kvs vs):kvs.map (·.1)=vs.map (·.1):=by
 unfold KV at r
 induction r with
 | nil=>rfl
 | cons h t J=>rw[A3,A3,J,h.1]
theorem KV.length {kvs:List (κ×V)}{vs:List (κ×Value)}(r:KV kvs vs):kvs.length=vs.length:=Paired.length r
end
theorem JL {k}(r:RelV (kV k) u):(QU P w).is k u=true:=by
 cases k with
 | inl i=>obtain⟨t,e⟩:=(show ∃t,u=Value.int i t from r);subst e;exact Uw P w i t
 | inr x=>obtain⟨t,e⟩:=(show ∃t,u=Value.str x t from r);subst e;exact Uv P w x t
theorem K0:∀{ks}{us},Vals (ks.map kV) us->ItemsAre (QU P w) ks us
 | [],_,r=>by rw[List.map_nil] at r;cases r;exact .nil
 | k::ks,_,r=>by
  rw[A3] at r;cases r with
  | cons h t=>exact .cons (JL h) (K0 t)
abbrev KT (H:Hp):List (List Key×V)->List (List Key×Addr×Value)->Prop:=Paired λp q=>p.1=q.1/\H q.2.1=some (.tup (p.1.map kV))/\RelV p.2 q.2.2
theorem KT.val {kvs}{xs}(r:KT H kvs xs)(k):RelO (Xu kvs k) ((atKey xs k).map (·.2)):=by
 induction r with
 | nil=>exact True.intro
 | @cons p q ps qs h t U=>
  obtain⟨h1,_,h2⟩:=h;by_cases e:p.1=k
  ·have J:q.1=k:=h1.symm.trans e;have b:atKey (q::qs) k=some q.2:=by simp[atKey,IU,J]
   rw[Js e,b];exact h2
  ·have J:¬q.1=k:=λz=>e (h1.trans z)
   have b:atKey (q::qs) k=atKey qs k:=by simp[atKey,IU,J]
   rw[Jt e,b];exact U
theorem KT.repl {kvs}{xs}(r:KT H kvs xs)(k){y}{u}(ry:RelV y u) :
  KT H (kvs.map λJ=>if J.1=k then(J.1,y) else J) (xs.map (putAt k u)):=by
 induction r with
 | nil=>exact .nil
 | @cons p q ps qs h t ih=>
  rw[A3,A3];refine .cons ?_ ih;obtain⟨h1,h2,U⟩:=h;unfold putAt;by_cases e:p.1=k
  ·rw[An e,An (h1.symm.trans e)];exact⟨h1,h2,ry⟩
  ·rw[Am e,Am (λz=>e (h1.trans z))];exact⟨h1,h2,U⟩
theorem KT.put {kvs}{xs}(r:KT H kvs xs)(k){b}{y}{u}(hb:H b=some (.tup (k.map kV)))(ry:RelV y u) :
  KT H (ZT kvs k y) (storedH xs k b u):=by
 have e:(kvs.any λJ=>decide (J.1=k))=(atKey xs k).isSome:=by
  rw[Ju,(r.val k).isSome_eq,Option.isSome_map]
 unfold ZT storedH;rw[e];by_cases q:(atKey xs k).isSome=true
 ·rw[An q,An q];exact r.repl k ry
 ·rw[Am q,Am q];exact Paired.snoc r ⟨rfl,hb,ry⟩
theorem KT.keeps {kvs}{xs}(r:KT H kvs xs)(ht:∀b ys,H b=some (.tup ys)->H' b=some (.tup ys)):KT H' kvs xs:=
 Paired.mapP r λ_ _ z=>⟨z.1,ht _ _ z.2.1,z.2.2⟩
section
variable {P:Program} {w:World} {H:Hp} {h:Heap} {a:Addr}
theorem Sh {u}(ok:HOk P w H h)(e:Rd H a u):ObjOk P w H h a u:=e.ok ok
theorem N9 (ok:HOk P w H h)(e:Rd H a (.dK kvs)):kvs.length<=sizeLine/\(a==sysModules)=false/\∃vs,KV kvs vs/\h.DictOf (QU P w) a vs:=
 show ObjOk P w H h a (.dK kvs) from Sh ok e
theorem Sz (ok:HOk P w H h)(e:H a=some (.dK kvs)):kvs.length<=sizeLine/\(a==sysModules)=false/\∃vs,KV kvs vs/\h.DictOf (QU P w) a vs:=N9 ok (.inl e)
theorem VB {ks}(ok:HOk P w H h)(e:H a=some (.tup (ks.map kV))):(tupleKind (QU P w)).is h ks a:=by
 obtain⟨_,its,r,o,h1,h2,n,J⟩:=(show ObjOk P w H h a (.tup (ks.map kV)) from ok a _ e)
 exact⟨o,its.toArray,n,h1,h2,J,by simpa using K0 r⟩
theorem N8 {kvs}(ok:HOk P w H h)(e:Rd H a (.dT kvs)):kvs.length<=sizeLine/\(a==sysModules)=false /\
  ∃xs,KT H kvs xs/\h.DictOfH (tupleKind (QU P w)) a xs:=by
 obtain⟨z,y,xs,r,o,es,ep,h1,h2,h3,h4,h5⟩:=(show ObjOk P w H h a (.dT kvs) from Sh ok e)
 refine⟨z,y,xs,r,o,es,ep,h1,h2,h3,h4,λx J=>?_,h5⟩;have all:∀{l:List (List Key×V)} {m:List (List Key×Addr×Value)},KT H l m->∀x∈m,(tupleKind (QU P w)).is h x.1 x.2.1:=by
  intro l m q
  induction q with
  | nil=>intro x J;exact nomatch J
  | @cons p q ps qs U t ih=>
   intro x J;rcases AF.mp J with e|J
   ·subst e;exact VB ok (by rw [<-U.1];exact U.2.1)
   ·exact ih x J
 exact all r x J
theorem Cv {kvs}(ok:HOk P w H h)(e:H a=some (.dT kvs)):kvs.length<=sizeLine/\(a==sysModules)=false /\
  ∃xs,KT H kvs xs/\h.DictOfH (tupleKind (QU P w)) a xs:=N8 ok (.inl e)
end
def DGet (H:Hp)(a:Addr)(y:V)(r:Option V):Prop:=
 (∃kvs k,Rd H a (.dK kvs)/\y=kV k/\r=Xu kvs k)∨∃kvs k b,Rd H a (.dT kvs)/\y=.ref b/\H b=some (.tup (k.map kV))/\r=Xu kvs k
def DPut (H:Hp)(a:Addr)(y v:V)(H':Hp):Prop:=
 (∃kvs k,H a=some (.dK kvs)/\y=kV k/\kvs.length<sizeLine/\H'=upd H a (.dK (ZT kvs k v))) ∨
 ∃kvs k b,H a=some (.dT kvs)/\y=.ref b/\H b=some (.tup (k.map kV))/\kvs.length<sizeLine/\H'=upd H a (.dT (ZT kvs k v))
theorem DGet.k {H}{a}{kvs}{k}(e:H a=some (.dK kvs)):DGet H a (kV k) (Xu kvs k):=.inl ⟨kvs,k,.inl e,rfl,rfl⟩
theorem DPut.k {H}{a}{kvs}{k}{v}(e:H a=some (.dK kvs))(hl:kvs.length<sizeLine):DPut H a (kV k) v (upd H a (.dK (ZT kvs k v))):=.inl ⟨kvs,k,e,rfl,hl,rfl⟩
section
variable {X:Cx} {pins:List (Addr×Obj)} {σ:St} {H:Hp} {s:Shared} {a:Addr} {y v:V} {u r:Value} {o:Option V} {A:Around} {E:Value->Shared->Prop}
theorem Inv.big (I:Inv X pins σ H s):sysModules<s.heap.objs.size:=by
 have h:mainGlobals<s.heap.objs.size:=(I.mod.glob.keeps I.bk).lt;exact Nat.lt_trans (by decide) h
theorem M1 {Q}(hu:A.units+1<cLine)(I:Inv X pins σ H s)(g:DGet H a y (some v))(ry:RelV y u)(h:∀w' s',Inv X pins σ H s'->RelV v w'->Q w' s') :
  wpAny (model X.prog X.w) A (getItem (.ref a) u) Q E s:=by
 rcases g with ⟨kvs,k,e,ey,l⟩|⟨kvs,k,b,e,ey,eb,l⟩
 ·subst ey;obtain⟨z,hd,vs,U,dd⟩:=N9 I.hok e;obtain⟨w',hw,J⟩:=RelO.some_of (v:=v) (o:=valueAt vs k) (by rw[l];exact U.val k);exact wpAny_getItem_of (JL ry) dd.mapOf hw (h w' _ (I.tok _) J)
 ·subst ey;cases(show u=Value.ref b from ry);obtain⟨z,hd,xs,U,dd⟩:=N8 I.hok e;obtain⟨w',hw,J⟩:=RelO.some_of (v:=v) (o:=(atKey xs k).map (·.2)) (by rw[l];exact U.val k);obtain⟨p,hp,a0⟩:=A8.mp hw;refine wpAny_getItem_heap (tupleKind_room_in1 hu) (VB I.hok eb) dd hp ?_;rw[a0];exact h w' _ (I.tok _) J
theorem Tw {Q}(hu:A.units+1<cLine)(I:Inv X pins σ H s)(g:DGet H a y o)(ry:RelV y u)(h:∀s',Inv X pins σ H s'->Q (.bool (!o.isSome)) s') :
  wpAny (model X.prog X.w) A (compareOp .NotIn u (.ref a)) Q E s:=by
 rcases g with ⟨kvs,k,e,U,l⟩|⟨kvs,k,b,e,U,eb,l⟩
 ·subst U;obtain ⟨z,hd,vs,J,dd⟩:=N9 I.hok e;refine wpAny_notIn_of (JL ry) hd dd.mapOf ?_;rw [<-(J.val k).isSome_eq,<-l];exact h _ (I.tok _)
 ·subst U;cases (show u=Value.ref b from ry);obtain ⟨z,hd,xs,J,dd⟩:=N8 I.hok e;refine wpAny_notIn_heap (tupleKind_room_in1 hu) (VB I.hok eb) hd dd ?_;have q:=(J.val k).isSome_eq;rw [Option.isSome_map] at q;rw [<-q,<-l];exact h _ (I.tok _)
theorem VL {h'}{ob}(I:Inv X pins σ H s)(mu:oX (H a))(hs:Heap.SameBut a s.heap h')(he:∃q,h'.get? a=some q)(new:ObjOk X.prog X.w (upd H a ob) h' a ob) :
  Inv X pins σ (upd H a ob) { s with heap:=h',toks:=t' }:=
 I.write (x:=a) (e:=a) mu (.inl rfl) (λb q J z=>(hs.2 b J).trans z) he new
theorem Rf {h'}{vs}(z:kvs.length<=sizeLine)(hd:(a==sysModules)=false)(rel:KV kvs vs)(dd:h'.DictOf (QU P w) a vs) :
  ObjOk P w H' h' a (.dK kvs):=⟨z,hd,vs,rel,dd⟩
theorem M0 {Q}(hu:A.units+1<cLine)(I:Inv X pins σ H s)(g:DPut H a y v H')(ry:RelV y u)(rv:RelV v r)(h:∀s',Inv X pins σ H' s'->Q () s') :
  wpAny (model X.prog X.w) A (setItem (.ref a) u r) Q E s:=by
 rcases g with ⟨kvs,k,e,ey,l,eH⟩|⟨kvs,k,b,e,ey,eb,l,eH⟩
 ·subst ey eH;obtain ⟨z,hd,vs,J,dd⟩:=Sz I.hok e;have hz:vs.length<=sizeLine:=by rw [<-J.length];exact z
  have hl:(ZT kvs k v).length<=sizeLine:=by have:=Yl kvs k v;omega
  refine wpAny_setItem_pairs (hsz:=hz) (JL ry) dd λh' U hs=>h _ ?_
  have he:∃q,h'.get? a=some q:=let ⟨q,_,_,hq,_⟩:=U;⟨q,hq⟩;exact VL I (by rw[e];exact True.intro) hs he (Rf hl hd (J.put k rv) U)
 ·subst ey eH;cases (show u=Value.ref b from ry);obtain ⟨z,hd,xs,J,dd⟩:=Cv I.hok e;have hz:xs.length<=sizeLine:=by rw [<-Paired.length J];exact z
  have hl:(ZT kvs k v).length<=sizeLine:=by have:=Yl kvs k v;omega
  refine wpAny_setItem_heap (hsz:=hz) (tupleKind_room_in1 hu) (VB I.hok eb) dd λh' U hs=>h _ ?_
  obtain⟨q,es,ep,hq,h2,h3,h4,_,h5⟩:=U;refine VL I (by rw[e];exact True.intro) hs ⟨q,hq⟩ ⟨hl,hd,_,(J.put k eb rv).keeps λc ys ec=>?_,q,es,ep,hq,h2,h3,h4,h5⟩;rw[Qk (YH ec e (λz=>nomatch z))];exact ec
end
def Em (i:Expr):Prop:=∀ov iv,subscripted i false ov iv=operate [ov,iv] (getItem ov iv)
theorem Nr {value slice}{id}{Q} 
  (hl:typeLookup (.type T) "__getitem__"=pure (some (.builtin id))) (hs:Em slice)
  (h:wpAny (model prog w) A (eval value env) (λo U=>wpAny (model prog w) A (eval slice env) (λi s₂=>s₂.TypeIs o T/\wpAny (model prog w) A (getItem o i) Q E s₂) E U) E s) :
  wpAny (model prog w) A (eval (.Subscript value slice pos) env) Q E s:=by
 refine Subscript_ (A9 h (λo U h₁=>A9 h₁ (λi s₂ J=>?_) λ_ _ x=>x) λ_ _ x=>x);obtain⟨hT,J⟩:=J;unfold subscriptTail;refine Aw ?_;rw[getitemInPython_of_ne hT.not_modules];refine Aw (wpAny_specialOf hT hl ?_);have fin:wpAny (model prog w) A (subscripted slice false o i) (λr s₃=>wpAny (model prog w) A (letTemporaryGo value o r >>= λ_=>pure r) Q E s₃) E s₂:=by
  rw[hs o i];exact wpAny_operating (A9 J (λr s₃ h₃=>Aw (wpAny_letTemporaryGo (AM h₃))) λ_ _ x=>x)
 first
  | exact AM (Aw fin)
  | exact Aw (AM (Aw fin))
  | exact Aw fin
theorem UU {a}{o}(I:Inv X pins σ H s)(g:DGet H a y o):s.TypeIs (.ref a) "dict":=by
 rcases g with ⟨kvs,k,e,_,_⟩|⟨kvs,k,b,e,_,_,_⟩
 ·obtain⟨_,_,vs,_,dd⟩:=N9 I.hok e;exact dd.typeIs
 ·obtain⟨_,_,xs,_,dd⟩:=N8 I.hok e;exact dd.typeIs
def Y3 (td ty:TE):TE:=λσ H Q=>td σ H λx H1=>ty σ H1 λy H2=>∃a v,x=.ref a/\DGet H2 a y (some v)/\Q v H2
def Np (ty td:TE):TE:=λσ H Q=>ty σ H λy H1=>td σ H1 λx H2=>∃a o,x=.ref a/\DGet H2 a y o/\Q (.bl (!o.isSome)) H2
def L7 (td ty tv:TE):TS:=λD σ H=>tv σ H λv H1=>td σ H1 λx H2=>ty σ H2 λy H3=>∃a H4,x=.ref a/\DPut H3 a y v H4/\D.nx σ H4
section
variable {X:Cx} {o i e value:Expr} {pos pos' tpos:Pos} {td ty tv:TE}
theorem Zb (hu:X.A.units+1<cLine)(ho:PE X o td)(hi:PE X i ty)(hs:Em i):PE X (.Subscript o i pos) (Y3 td ty):=by
 intro pins s σ H Q I h;refine Nr PySem.F.slot_dict_getitem.lookup hs (Kw (ho pins s σ H _ I h) λu s1 ⟨x,H1,I1,rx,q1⟩=>Kw (hi pins s1 σ H1 _ I1 q1) λiv s2 ⟨y,H2,U,ry,a,v,ex,g,q2⟩=>?_);subst ex;obtain rfl:u=Value.ref a:=rx;exact⟨UU U g,M1 hu U g ry λw' s3 I3 J=>⟨v,H2,I3,J,q2⟩⟩
theorem MG (hu:X.A.units+1<cLine)(hi:PE X i ty)(ho:PE X o td):PC X .NotIn i o (Np ty td):=by
 intro pins s σ H Q I h;refine Kw (hi pins s σ H _ I h) λiv U ⟨y,H1,I1,ry,q1⟩=>Kw (ho pins U σ H1 _ I1 q1) λu s2 ⟨x,H2,I2,rx,a,ov,ex,g,J⟩=>?_
 subst ex;obtain rfl:u=Value.ref a:=rx;exact Tw hu I2 g ry λs3 I3=>⟨.bl (!ov.isSome),H2,I3,rfl,J⟩
theorem NI (hu:X.A.units+1<cLine)(ho:PE X o td)(hi:PE X i ty)(hv:PE X value tv)(hs:swapsWith value (some (.Subscript o i pos')) pos.line X.env=pure false) :
  PS X (.Assign [.Subscript o i pos'] value pos) (L7 td ty tv):=by
 intro pins s σ H D I h;refine wpAny_Assign_Subscript (Kw (hv pins s σ H _ I h) λr s1 ⟨v,H1,I1,rv,q1⟩=>Kw (ho pins s1 σ H1 _ I1 q1) λu s2 ⟨x,H2,I2,rx,U⟩=>Kw (hi pins s2 σ H2 _ I2 U) λiv s3 ⟨y,H3,I3,ry,a,H4,ex,g,J⟩=>?_) hs;subst ex;obtain rfl:u=Value.ref a:=rx;exact M0 hu I3 g ry rv λs4 I4=>⟨σ,H4,I4,J⟩
end
theorem UT (h:Heap)(hb:sysModules<h.objs.size):ObjOk P w H (h.push { cls:=.type "dict",data:=.dict #[] }) h.objs.size (.dK []):=
 ⟨AZ _,beq_eq_false_iff_ne.mpr (Ir (AQ hb)),[],.nil,Heap.DictOf.new h⟩
def HJ:TE:=λ_ H Q=>∀p,H p=none->Q (.ref p) (upd H p (.dK []))
section
variable {X:Cx} {pos:Pos}
theorem Bx:PE X (.Dict [] [] pos) HJ:=λpins s σ H Q I h=>
 wpAny_Dict_empty ⟨.ref s.heap.objs.size,_,I.laid (a:=s.heap.objs.size) (o:=.dK []) (t':=s.toks) (λ_ _ q=>AI _ q) (Au _) (UT s.heap I.big),rfl,h _ (I.hok.fresh (Au _))⟩
end
def Vi:List (TE×TE)->St->Hp->(List (V×V)->Hp->Prop)->Prop
 | [],_,H,Q=>Q [] H
 | (tk,tv)::r,σ,H,Q=>tk σ H λx H1=>tv σ H1 λy H2=>Vi r σ H2 λps J=>Q ((x,y)::ps) J
abbrev VV:List (V×V)->List (Value×Value)->Prop:=Paired λp q=>RelV p.1 q.1/\RelV p.2 q.2
def pK (X:Cx)(pos:Pos)(keys:List (Option Expr))(values:List Expr)(trs:List (TE×TE)):Prop:=
 ∀(pins:List (Addr×Obj)) (s:Shared) (σ:St) (H:Hp) (Q:List (V×V)->Hp->Prop),Inv X pins σ H s->Vi trs σ H Q ->
  wpAny (model X.prog X.w) X.A (evalPairs (pairTrees keys values X.env pos)) (λvs s'=>∃ps H',Inv X pins σ H' s'/\VV ps vs/\Q ps H') X.xe s
theorem Pu:pK X pos [] [] []:=λpins s σ H Q I h=>pairTrees_nil_walk ⟨[],H,I,.nil,h⟩
theorem Uo {k v}{ks}{vs}{tk tv}{trs}(hk:PE X k tk)(hv:PE X v tv)(hr:pK X pos ks vs trs) :
  pK X pos (some k::ks) (v::vs) ((tk,tv)::trs):=λpins s σ H Q I h=>
 pairTrees_cons_walk (Kw (hk pins s σ H _ I h) λu s1 ⟨x,H1,I1,rx,q1⟩=>Kw (hv pins s1 σ H1 _ I1 q1) λw2 s2 ⟨y,H2,I2,ry,q2⟩=>
  Kw (hr pins s2 σ H2 _ I2 q2) λws s3 ⟨ps,H3,I3,J,U⟩=>⟨(x,y)::ps,H3,I3,.cons ⟨rx,ry⟩ J,U⟩)
def WG (kvs more:List (Key×V)):List (Key×V):=more.foldl (λacc kv=>ZT acc kv.1 kv.2) kvs
theorem KV.merge:∀{J}{rs}{kvs}{vs},KV J rs->KV kvs vs->KV (WG kvs J) (merged vs rs):=by
 intro J rs kvs vs r;unfold KV at r
 induction r generalizing kvs vs with
 | nil=>intro q;exact q
 | @cons p q ps qs h t ih=>
  intro U;have e:KV (ZT kvs p.1 p.2) (stored vs q.1 q.2):=by
   have:=U.put p.1 h.2;rw [<-h.1];exact this
  exact ih e
theorem YI:∀more kvs,(WG kvs more).length<=kvs.length+more.length
 | [],kvs=>by show kvs.length<=kvs.length+0;omega
 | p::r,kvs=>by
  have h1:=YI r (ZT kvs p.1 p.2);have h2:=Yl kvs p.1 p.2;show(WG (ZT kvs p.1 p.2) r).length<=_;rw[AN];omega
theorem JY {P:Program}{w:World}:∀{kvs:List (Key×V)}{ws:List (Value×Value)},VV (kvs.map λkv=>(kV kv.1,kv.2)) ws->∃rs,Carries (QU P w) ws rs/\KV kvs rs
 | [],_,r=>by rw[List.map_nil] at r;cases r;exact⟨[],True.intro,.nil⟩
 | p::kvs,_,r=>by
  rw[A3] at r;cases r with
  | @cons a b as bs h t=>
   obtain⟨rs,c,q⟩:=JY (P:=P) (w:=w) t;obtain⟨b1,b2⟩:=b;exact⟨(p.1,b2)::rs,⟨JL h.1,rfl,c⟩,.cons ⟨rfl,h.2⟩ q⟩
def DI (trs:List (TE×TE)):TE:=λσ H Q=>∀p,H p=none->Vi trs σ (upd H p (.dK [])) λps H2=>H2 p=some (.dK [])/\∃kvs:List (Key×V),ps=kvs.map (λJ=>(kV J.1,J.2))/\kvs.length<=15/\Q (.ref p) (upd H2 p (.dK (WG [] kvs)))
theorem PQ {keys}{values}{trs}(h:pK X pos keys values trs)(hall:keys.all (·.isSome)=true)(hl:keys.length=values.length)(h0:keys≠[])
  (h15:keys.length<=15):PE X (.Dict keys values pos) (DI trs):=by
 intro pins s σ H Q I q;have hn:=I.hok.fresh (Au s.heap.objs.size);have I1:=I.laid (a:=s.heap.objs.size) (o:=.dK []) (h':=s.heap.push { cls:=.type "dict",data:=.dict #[] }) (t':=s.toks) (λ_ _ q=>AI _ q) (Au _) (UT s.heap I.big);refine wpAny_Dict_walk (knd:=QU X.prog X.w) hall hl h0 h15 (Kw (h pins _ σ _ _ I1 (q _ hn)) λws s2 ⟨ps,H2,I2,U,e,kvs,ep,lk,q2⟩=>?_);subst ep;obtain⟨rs,c,rk⟩:=JY (P:=X.prog) (w:=X.w) U;obtain⟨z,hd,a0,r0,dd⟩:=Sz I2.hok e;cases r0;refine⟨rs,c,dd,λh' J hs=>⟨.ref s.heap.objs.size,_,?_,rfl,q2⟩⟩;have hz:(WG [] kvs).length<=sizeLine:=by
  have h1:=YI kvs [];rw[List.length_nil] at h1;rw[AB];omega
 have he:∃q,h'.get? s.heap.objs.size=some q:=let ⟨q,_,_,hq,_⟩:=J;⟨q,hq⟩;exact VL I2 (by rw[e];exact True.intro) hs he (Rf hz hd (rk.merge .nil) J)
end L2
namespace L2
open PySem PyProof.Rows
end L2
namespace L2
open PySem PyProof.Rows
section
variable {X:Cx} {e o value:Expr} {ta tv:TE} {f:Str} {pos pos':Pos}
theorem PP (K)(h:X.K=K)(he:PE X e ta)(hb:attributeBase e f X.env (eval e X.env)=eval e X.env:=by rfl):PE X (.Attribute e f pos) (Y2 K ta f):=by subst h;exact Fs he hb
theorem QF (K)(h:X.K=K)(ha:PE X o ta)(hv:PE X value tv)(hs:swapsWith value (some (.Attribute o f pos')) pos.line X.env=pure false:=by rfl):PS X (.Assign [.Attribute o f pos'] value pos) (Pe K ta tv f):=by subst h;exact Fg ha hv hs
end
def DV (K:W.Frag):V->List V->Hp->VK->Prop:=λx vs H Q=>∃(z:Str) (p:Addr) (ys:List Str),x=.str z/\vs=[.ref p]/\Kv K H p (ys.map V.str)/\(ys.map (·.length)).sum+ys.length*z.length<=16777216/\Q (.str (Txt.join z ys)) H
theorem Gq {ys}:∀{us},Vals (ys.map V.str) us->StrsAre us ys:=by
 induction ys with
 | nil=>intro us r;rw[List.map_nil] at r;cases r;exact .nil
 | cons y ys U=>
  intro us r;rw[A3] at r;cases r with
  | cons J r=>
   obtain⟨t,rfl⟩:=J;exact .cons _ _ (U r)
theorem Vx (K){X}(h:X.K=K):nI X "str.join" (DV K):=by
 subst h;intro pins s σ H x xs v us Q I rx rs q;obtain⟨z,p,ys,rfl,rfl,J,U,q⟩:=q;obtain⟨t,rfl⟩:=rx;obtain⟨u,rfl,r1⟩:=Z1 rs;obtain rfl:=r1.ref_of;obtain⟨its,rv,pl,_⟩:=I.list J;exact join_list pl.isList (by simpa using Gq rv) U λt' k=>⟨.str _,H,I.tok _,⟨_,rfl⟩,q⟩
def DQ:List V->Hp->VK->Prop:=λxs H Q=>(∃i,xs=[.int i]/\i.natAbs.log2<1920/\Q (.str (toString i)) H)∨(∃z,xs=[.str z]/\Q (.str z) H)
theorem M5:CallR X (.type "str") (λxs H Q=>∃z,xs=[.str z]/\Q (.str z) H):=by
 intro pins s σ H xs us Q I r h;obtain⟨z,rfl,q⟩:=h;obtain⟨u,rfl,t,rfl⟩:=Z1 r;exact PySem.P.str_of_str ⟨.str z,H,I,⟨_,rfl⟩,q⟩
theorem Zm:CallR X (.type "str") DQ:=call_str_int.or M5
structure Z7 (P:Program)(w:World)(K:W.Frag)(mg:Str->Option Value)(base:Heap)(k:Nat)(C:Addr)(m:Str)(ps:List Str)(sp:Sp):Prop where
 ex:∃(f:Addr) (fd:FuncData),FnOk P w K mg base OX k f fd ps sp/\Binds K fd ps []/\Ry K C m f
structure Kk (P:Program)(w:World)(K:W.Frag)(mg:Str->Option Value)(base:Heap)(k:Nat)(C:Addr)(ps:List Str)(sp:Sp):Prop where
 ex:∃(f:Addr) (fd:FuncData),FnOk P w K mg base OX k f fd ps sp/\Binds K fd ps []/\Mk K C f
structure mM (K:W.Frag)(C:Addr):Prop where
 ha:W.findIn K (.ref C) "__class__"=some (some (.builtin "object.__class__"))
 hn:W.specialIn K (.builtin "object.__class__") "__get__"=some (some (.builtin "getset_descriptor.__get__"))
 htk:W.takesIn K (.builtin "object.__class__")=some true
 hm:W.mroIn K C (.type "object")=some true
section
variable {X:Cx} {k:Nat} {C:Addr} {m x:Str} {ps:List Str} {sp:Sp} {p pos apos:Pos} {o e:Expr} {es:List Expr} {t:TA} {ta:TE}
theorem ZJ (G:Z7 X.prog X.w X.K X.mg X.base k C m ps sp)(hr:Room k X.A)(c:Cls X.K C)(he:PE X o ta)(ha:PA X (e::es) t)
  (hst:starEach (e::es) X.env=(false,eval e X.env)::starEach es X.env:=by rfl) (hpl:(backTo pos (starEach es X.env)).any (·.1)=false:=by rfl)
  (ht:eval (.Call (.Attribute o m apos) (e::es) [] pos) X.env=(do
   let ov <-eval o X.env
   standAt apos.atName
   let (f,first) <-holding [ov] (getMethod ov m pl)
   callWith pos f first (backTo pos (starEach (e::es) X.env)) (backToKw pos (keywordEach [] X.env))):=by rfl) :
  PE X (.Call (.Attribute o m apos) (e::es) [] pos) (X7 C m sp [] E0 ta t):=by
 obtain⟨f,fd,F,b,M⟩:=G.ex;exact PK he c M F hr b .nil KW ha hst hpl ht
theorem Zh (G:Z7 X.prog X.w X.K X.mg X.base k C m ps sp)(hr:Room k X.A)(c:Cls X.K C)(he:PE X o ta)
  (ht:eval (.Call (.Attribute o m apos) [] [] pos) X.env=(do
   let ov <-eval o X.env
   standAt apos.atName
   let (f,first) <-holding [ov] (getMethod ov m pl)
   callWith pos f first (backTo pos (starEach [] X.env)) (backToKw pos (keywordEach [] X.env))):=by rfl) :
  PE X (.Call (.Attribute o m apos) [] [] pos) (X7 C m sp [] E0 ta W0):=by
 obtain⟨f,fd,F,b,M⟩:=G.ex;exact Bt he c M F hr b .nil KW ht
theorem YR (G:Kk X.prog X.w X.K X.mg X.base k C ps sp)(hr:Room (k+1) X.A)(hg:Gl X x)(hm:X.mg x=some (.ref C))(ha:PA X (e::es) t)(hdb:(x==("__debug__":Str))=false:=by decide)
  (he:starEach (e::es) X.env=(false,eval e X.env)::starEach es X.env:=by rfl) (hpl:(backTo pos (starEach es X.env)).any (·.1)=false:=by rfl):PE X (.Call (.Name x p) (e::es) [] pos) (YG C sp [] E0 t):=by
 obtain⟨f,fd,F,b,M⟩:=G.ex;exact NJ M F hr hg hm b .nil KW ha hdb he hpl
end
theorem QH {f}{fs}(hp:H p=some (.ins C dx fs))(c:Cls K C)(n:NoAttr K C f)(l:fs.lookup f=some v)(q:Q v H)(e:σ[i]?=some (some (.ref p)):=by rfl):Y2 K (Zp i) f σ H Q:=by
 show asVar σ[i]? _;rw[e];exact⟨p,C,dx,fs,v,rfl,hp,c,n,l,q⟩
theorem X3 {f}{fs}{D}(hp:H p=some (.ins C dx fs))(c:Cls K C)(n:NoAttr K C f)(l:fs.length<1000)(q:D.nx σ (upd H p (.ins C dx (QM f v fs))))(e:σ[i]?=some (some (.ref p)):=by rfl)(e':σ[j]?=some (some v):=by rfl):Pe K (Zp i) (Zp j) f D σ H:=by
 show asVar σ[j]? _;rw[e'];show asVar σ[i]? _;rw[e];exact⟨p,C,dx,fs,rfl,hp,c,n,l,q⟩
def Si:R2:=λx y H Q=>∃z n,x=.str z/\y=.int n/\PySem.MulOk z n/\Q (.str (Txt.mul z n)) H
theorem PY:OpR X (binaryOp .Mult) Si:=by
 intro pins s σ H x y v u Q I U J h;obtain⟨z,n,rfl,rfl,hz,q⟩:=h;obtain⟨t,rfl⟩:=U;obtain⟨t',rfl⟩:=J;exact SB.mul hz λt' tk=>⟨.str (Txt.mul z n),H,I.tok _,⟨_,rfl⟩,q⟩
def sMul:R2:=λx y H Q=>match x,y with
 | .int i,.int j=>CMulB i j/\Q (.int (i*j)) H
 | .str z,.int n=>PySem.MulOk z n/\Q (.str (Txt.mul z n)) H
 | _,_=>False
theorem sMul.out (x y)(H)(Q)(h:sMul x y H Q):rI CMulB (λi j=>.int (i*j)) x y H Q∨Si x y H Q:=by
 unfold sMul at h;split at h
 ·exact .inl ⟨_,_,rfl,rfl,h⟩
 ·exact .inr ⟨_,_,rfl,rfl,h⟩
 ·exact h.elim
theorem Wf:OpR X (binaryOp .Mult) sMul:=(op_mulB.or PY).imp sMul.out
theorem Xm {m}{sp}{ta}{fs}(hp:H p=some (.ins C dx fs))(l:fs.lookup m=none)(q:ta σ H λvs H2=>sp (.ref p::(vs++[])) H2 Q E0)(e:σ[i]?=some (some (.ref p)):=by rfl):X7 C m sp [] E0 (Zp i) ta σ H Q:=by
 show asVar σ[i]? _;rw[e];exact⟨p,dx,fs,rfl,hp,l,q⟩
theorem Du {d}{Q}(kd:H d=some (.dK kvs))(q:Q (!(Xu kvs (Sum.inr z:Key)).isSome) H)(e:σ[i]?=some (some (.str z)):=by rfl)(e':σ[j]?=some (some (.ref d)):=by rfl):tB (Np (Zp i) (Zp j)) σ H Q:=by
 show asVar σ[i]? _;rw[e];show asVar σ[j]? _;rw[e'];exact⟨d,_,rfl,DGet.k (k:=Sum.inr z) kd,_,rfl,q⟩
theorem Dt {d}{D}(kd:H d=some (.dK kvs))(hl:kvs.length<sizeLine)(q:D.nx σ (upd H d (.dK (ZT kvs (Sum.inr z) v))))(e:σ[i]?=some (some (.str z)):=by rfl)(e':σ[j]?=some (some (.ref d)):=by rfl):L7 (Zp j) (Zp i) (tC v) D σ H:=by
 show asVar σ[j]? _;rw[e'];show asVar σ[i]? _;rw[e];exact⟨d,_,rfl,DPut.k (k:=Sum.inr z) kd hl,q⟩
theorem Y6 {a}{o'}(h:Kt K H a xs)(hk:H p=some o)(h1:∀ys,o≠.tup ys)(h2:∀ob u,o≠.frz ob u):Kt K (upd H p o') a xs:=by
 rcases h with (h|⟨ob,h⟩)|h
 ·exact .inl (.inl (by rw[Qk (YH h hk (λz=>h1 _ z.symm))];exact h))
 ·exact .inl (.inr ⟨ob,by rw[Qk (YH h hk (λz=>h2 _ _ z.symm))];exact h⟩)
 ·exact .inr h
theorem FR {k}(h:JK k u=true):RelV (kV k) u:=by
 rcases Q0 h with ⟨i,t,rfl,rfl⟩|⟨x,t,rfl,rfl⟩
 ·exact⟨t,rfl⟩
 ·exact⟨t,rfl⟩
def pO (P:Program)(w:World)(o:Obj)(vs:List (Key×Value))(ep:Nat):Prop:=∃es,o.ExactDict/\o.data=.dict es ep/\KeysOf (QU P w) es/\Pairs (QU P w) es.toList vs/\(vs.map (·.1)).Nodup
section
variable {P:Program} {w:World} {A:Around} {R:Result->Shared->Prop} {I:Addr} {fp wr:List Addr} {G:Array GenState->Array GenState->Prop} {n:Nat} {T:Nat->Value->Prop} {St:Nat->Shared->Prop}
def met (zs:List Str)(i:Nat)(k:Str):Bool:=decide (k∈zs.take i)
theorem JO (z)(t):Value.isStrOf z (.str z t)=true:=by simp[Value.isStrOf]
theorem FJ (nd:zs.Nodup){i:Nat}{z}(h:zs[i]?=some z):met zs i z=false:=by
 unfold met;refine AV λU=>?_
 obtain⟨j,J,e⟩:=List.mem_iff_getElem.mp U;rw[Ig] at J;rw[List.getElem_take] at e;have e1:zs[j]?=some z:=by rw[Ax (by omega),e]
 have:=(List.getElem?_inj (by omega) nd).mp (e1.trans h.symm);omega
theorem BL (h:zs[i]?=some z)(k):(met zs i k||decide (k=z))=met zs (i+1) k:=by
 unfold met;rw[AX,h];simp only[Option.toList_some,AK,AA,Bool.decide_or]
theorem LP (W:WalksS P w A.in1 I fp wr G n T St)(S)(hS:S∉fp)(zs:List Str)(nd:zs.Nodup)(hn:zs.length=n)(hT:∀i v,T i v->∃z t,zs[i]?=some z/\v=.str z t)(hb:n+1<scanBound):∀(k i:Nat) (s:Shared),n-i=k->i<=n->St i s->s.heap.SetOf (strKind P w) S (met zs i) i ->
  (∀s',Moved (S::wr) G s s'->s'.heap.SetOf (strKind P w) S (met zs n) n->R (.ok (.ret .none)) s')->codeAny (model P w) A (.builtin "set.update.loop" ⟨[.ref S,.ref I],[]⟩) R s:=by
 have U:S∉wr:=λz=>hS (W.sub _ z)
 have sub:∀b∈wr,b∈S::wr:=λb z=>AE _ z
 intro k
 induction k with
 | zero=>
  intro i s hk hi st hs hR;obtain rfl:i=n:=by omega
  refine codeAny_builtin F.entry_set_update_loop ?_;rw[Around.under_plainId F.plain_set_update_loop _];refine Aw (m:=pyNext (.ref I)) (W.done s _ _ st λs' mv=>?_);refine(show wpAny _ A.in1 (ret Value.none) _ _ s' from AM (hR s' (mv.mono sub) ?_));obtain⟨o,es,ep,t,ho,r⟩:=hs;exact⟨o,es,ep,t,mv.heap S _ U ho,r⟩
 | succ k ih=>
  intro i s hk hi st hs hR;have lt:i<n:=by omega
  refine codeAny_builtin F.entry_set_update_loop ?_;rw[Around.under_plainId F.plain_set_update_loop _];refine Aw (m:=pyNext (.ref I)) (W.item i s _ _ lt st λv s' hv a7 mv=>?_);obtain⟨z,t,hz,rfl⟩:=hT i v hv;have a4:s'.heap.SetOf (strKind P w) S (met zs i) i:=by
   obtain⟨o,es,ep,tb,ho,r⟩:=hs;exact⟨o,es,ep,tb,mv.heap S _ U ho,r⟩
  show wpAny _ A.in1 (holding [Value.str z t] (setAdd S (.str z t)) >>= _) _ _ s';refine Aw (wpAny_holding ?_);unfold setAdd;refine wpAny_holding ?_;refine Aw ((strKind P w).pyHash (k:=z) (JO z t) ?_);have ab:met zs i z=false:=FJ nd hz;refine wpAny_setAddHashed_of (knd:=strKind P w) (s:={ s' with toks:=s'.toks+1 }) (k:=z) (JO z t) rfl a4 (by omega) λh' sb s2=>?_
  have si:h'.SetOf (strKind P w) S (met zs (i+1)) (i+1):=by
   rw[ab] at s2;refine SetOf_congr s2 (λk'=>BL hz k') rfl
  refine AM ⟨plainId_quiet F.plain_set_update_loop _,ih (i+1) _ (by omega) lt (W.frame _ s' _ _ a7 (IH _) λb J o e=>?_) si λa6 a5 a0=>?_⟩
  ·rw [sb.2 b (fun z:b=S=>hS (by rw [<-z];exact J))];exact e
  ·refine hR a6 (Moved.trans W.gtrans ((mv.mono sub).then_heap (IH _) λb o J e=>?_) a5) a0;rw[sb.2 b (λz:b=S=>J (by rw[z];exact AH))];exact e
end
section
variable {P:Program} {w:World} {A:Around} {E:Value->Shared->Prop} {s:Shared}
def KB (led:Bool):Obj:={ cls:=.type "set",dict:=none,data:=.set #[] 0 (.fresh 0 0 led) }
theorem M7 {its}{Q}(hh:A.handled=none)(hl:s.heap.IsList l its)(nd:zs.Nodup)(hn:zs.length=its.size)(hi:∀(i:Nat) v,its[i]?=some v->∃z t,zs[i]?=some z/\v=.str z t)(hb:its.size+1<scanBound)
  (h:∀(h':Heap) (tk:Nat),h'.SetOf (strKind P w) s.heap.objs.size (met zs its.size) its.size->(∀b o,b<s.heap.objs.size->s.heap.get? b=some o->h'.get? b=some o)->Q (.ref s.heap.objs.size) { s with heap:=h',toks:=tk }) :
  wpAny (model P w) A (call (.type "set") [.ref l]) Q E s:=by
 obtain⟨c,tl,af⟩:=F.called_set.mro;have a9:=F.called_set.made;have ag:=F.called_set.sub;refine wpAny_call (codeAny_of_tree (show wpAny _ _ (callAny (.type "set") _) _ _ _ from ?_));refine AM ⟨Code.quiet_builtin _ (by decide +kernel),codeAny_builtin F.entry_type_call ?_⟩;rw[Around.under_plain (weight_type_call_type "set" [.ref l] []) rfl];have h1:=F.called_set.notType;have h2:=F.called_set.canCreate;have aj:=F.typeCall_set_1 (.ref l)
 repeat (any_goals (first|assumption|wp_step))
 refine IG (code_set_new_1 (.ref l) (E:=E) (Q₁:=λa8 s1=>∃J:Bool,a8=.ref s.heap.objs.size/\s1={ s with heap:=s.heap.push (KB J) }) λJ=>⟨J,rfl,rfl⟩) λr s1 hr=>?_
 match r,hr with
 | .error e,hr=>exact hr
 | .ok .next,hr|.ok .brk,hr|.ok .cont,hr=>exact hr.elim
 | .ok (.ret a8),hr=>
  obtain⟨J,rfl,rfl⟩:=hr;have hS:(s.heap.push (KB J)).get? s.heap.objs.size=some (KB J):=Ia _ rfl;have hT:Shared.TypeIs { s with heap:=s.heap.push (KB J) } (.ref s.heap.objs.size) "set":=⟨_,hS,rfl⟩
  have ai:=F.called_set.init.lookup;have ah:=F.called_set.init.bind (.ref s.heap.objs.size)
  repeat (any_goals (first|assumption|wp_step))
  refine IG (codeAny_call_builtin (R:=wants (λr s2=>r=.none/\∃h' tk,s2={ s with heap:=h',toks:=tk }/\h'.SetOf (strKind P w) s.heap.objs.size (met zs its.size) its.size/\∀b o,b<s.heap.objs.size->s.heap.get? b=some o->h'.get? b=some o) E) F.called_set.init.plain F.entry_set_init (check_set_init_1 hT ?_)) λr2 s2 U=>?_
  ·obtain⟨⟨oc,od,ot,os⟩,a6,rfl,nl,rfl⟩:=hl;have a7:(s.heap.push (KB J)).get? l=some { cls:=.type "list",dict:=od,data:=.seq its nl,slots:=os }:=AI _ a6;have e1:=F.sub_list_set;have e2:=F.sub_list_frozenset;have e3:(Value.type "list" == Value.type "dict")=false:=by decide
   have a4:(s.heap.push (KB J)).IsList l its:=⟨_,a7,rfl,nl,rfl⟩
   unfold Builtin.«set.__init__» noKeywords Builtin.Frozenset.updateFrom;generalize hp:pyIter=pI
   wp_walk
   subst hp;refine wpAny_pyIter_list a4 (Aw (wpAny_runValue ?_));have ls:l<s.heap.objs.size:=AC a6;have ne:l≠(s.heap.push (KB J)).objs.size:=by rw[Heap.size_push];exact AQ (Nat.lt_succ_of_lt ls)
   have nf:s.heap.objs.size∉[(s.heap.push (KB J)).objs.size,l]:=by rw[Heap.size_push];simp only[AF,List.not_mem_nil,or_false,not_or];exact⟨AQ (IF _),qV ls⟩
   refine LP ((Walks.list (show A.in1.in1.in1.handled=none by simp[hh]) _ l ne its).toS) s.heap.objs.size nf zs nd hn hi hb (its.size-0) 0 _ (by omega) (AZ _) ⟨⟨_,Ia _ rfl,rfl,rfl⟩,(a4.push _)⟩ ?_ ?_
   ·have g:((s.heap.push (KB J)).push { cls:=.type "list_iterator",data:=.fields #[.ref l,.int 0 0] }).get? s.heap.objs.size=some (KB J):=AI _ hS;exact SetOf_congr ((setObjOf_fresh (knd:=strKind P w) J).setOf g (by unfold scanBound;omega)) (λ_=>by unfold met;simp) rfl
   ·rintro ⟨h',g',d',ab,ae⟩ mv a0;have eg:g'=s.gens:=mv.gens;have ed:d'=s.drawn:=mv.drawn;have eo:ae=s.os:=mv.os;subst eg;subst ed;subst eo;refine(show wpAny _ _ _ _ _ _ from AM (show wpAny _ _ (ret Value.none) _ _ _ from AM ⟨rfl,h',ab,rfl,a0,λb o a5 e=>?_⟩));refine mv.heap b o ?_ (AI _ (AI _ e));rw[Heap.size_push];simp only[AF,List.not_mem_nil,or_false,not_or];exact⟨AQ a5,AQ (Nat.lt_succ_of_lt a5)⟩
  ·match r2,U with
   | .error e,U=>exact U
   | .ok .next,U|.ok .brk,U|.ok .cont,U=>exact U.elim
   | .ok (.ret r),U=>
    obtain⟨rfl,h',tk,rfl,a0,aa⟩:=U
    repeat (any_goals (first|assumption|wp_step))
    exact h _ _ a0 aa
end
def El (a:Addr)(n:Nat):HO:=.ext λh=>∃o es ep t,h.get? a=some o/\o.ExactSet/\o.data=.set es ep t/\t.fits es.size=true/\es.size=n
def DS (K:W.Frag):List V->Hp->VK->Prop:=λxs H Q=>∃(a:Addr) (zs:List Str),xs=[.ref a]/\Kv K H a (zs.map V.str)/\zs.Nodup/\zs.length<=100/\∀p,H p=none->Q (.ref p) (upd H p (El p zs.length))
theorem M6 (K){X}(h:X.K=K)(hc:X.calm=true):CallR X (.type "set") (DS K):=by
 subst h;intro pins s σ H xs us Q I rs q;obtain⟨a,zs,rfl,hL,nd,hl,q⟩:=q;obtain⟨u,rfl,r1⟩:=Z1 rs;obtain rfl:=r1.ref_of;obtain⟨its,rv,pl,hz⟩:=I.list hL;have ln:=rv.length;rw[As] at ln;refine M7 (its:=its.toArray) (zs:=zs) (I.ok.hd hc) pl.isList nd (by simp[ln]) (λi v hv=>?_) (by simp only[AR];unfold scanBound;omega) λh' tk hS hk=>?_
 ·have U:its[i]?=some v:=by simpa using hv
  have hi:=(AU.mp U).1;obtain⟨z,J⟩:∃z,zs[i]?=some z:=⟨_,Ax (by omega)⟩
  obtain⟨w',hw,⟨t,e⟩⟩:=rv.get (x:=.str z) (by rw[AS,J];rfl);rw[U] at hw;cases hw;exact⟨z,t,J,e⟩
 ·have fr:H s.heap.objs.size=none:=I.hok.fresh (Au _);obtain⟨o,es,ep,t,h1,h2,h3,h4,h5,h6,h7,h8⟩:=hS;refine⟨.ref s.heap.objs.size,_,I.laid (a:=s.heap.objs.size) (λb u e=>hk b u (AC e) e) (Au _) ?_,rfl,q _ fr⟩;refine⟨⟨o,es,ep,t,h1,h2,h3,h7,by rw[h8];simp[ln]⟩,⟨o,h1⟩,?_⟩;rintro g1 g2 ⟨o',es',ep',t',k1,k2⟩ k;exact⟨o',es',ep',t',k _ k1,k2⟩
def DU:List V->Hp->VK->Prop:=λxs H Q=>∃(p:Addr) (n:Nat),xs=[.ref p]/\H p=some (El p n)/\n<=100/\Q (.int n) H
theorem La:CallR X (.builtin "len") DU:=by
 intro pins s σ H xs us Q I rs q;obtain⟨p,n,rfl,hp,hn,q⟩:=q;obtain⟨u,rfl,U⟩:=Z1 rs;obtain rfl:=U.ref_of;obtain⟨⟨o,es,ep,t,h1,h2,J,h4,rfl⟩,_⟩:=(show ObjOk X.prog X.w H s.heap p (El p n) from I.hok p _ hp)
 exact call_len_set h1 h2 J h4 (by omega) ⟨.int es.size,H,I.tok _,⟨_,rfl⟩,q⟩
end L2
namespace L2
open PySem PySem.Spec PyProof.Rows
end L2
namespace L2
open PySem PySem.W PyProof.Rows
structure Al (n:Nat)(lt:Nat->Nat->Bool):Prop where
 tot:∀i j,i<n->j<n->i≠j->lt i j=!lt j i
 tr:∀i j k,i<n->j<n->k<n->lt i j=true->lt j k=true->lt i k=true
section
variable {n:Nat} {lt:Nat->Nat->Bool} {p:Array Nat}
variable (L:Al n lt)
include L
end
def rS (a b:Str):Prop:=a.cps.toList<b.cps.toList
instance (a b:Str):Decidable (rS a b):=inferInstanceAs (Decidable (a.cps.toList<b.cps.toList))
end L2
namespace L2
open PySem PyProof.Rows
def HQ:V->Hp->VK->Prop:=λv H Q=>match v with
 | .int i=>i.natAbs.log2<1920/\Q (.str (Str.ofString (toString i))) H
 | .str z=>z.length<=sizeLine/\Q (.str z) H
 | _=>False
def DH (ta:TE):TE:=λσ H Q=>ta σ H λv H1=>HQ v H1 Q
abbrev TJ:=Str->St->Hp->VK->Prop
def PJ (X:Cx)(es:List Expr)(t:TJ):Prop:=∀(acc:Str) (pins:List (Addr×Obj)) (s:Shared) (σ:St) (H:Hp) (Q:VK),Inv X pins σ H s->t acc σ H Q->Joins (model X.prog X.w) X.A X.xe (evalEach es X.env) acc (λout J=>out.length<=sizeLine/\EP X pins σ Q (.str out J.toks) { heap:=J.heap,gens:=J.gens,drawn:=J.drawn,toks:=J.toks+1,os:=J.os }) s
def Sb:TJ:=λacc σ H Q=>acc.length<=sizeLine/\Q (.str acc) H
def sJ (acc:Str)(v:V)(P:Str->Prop):Prop:=match v with
 | .str z=>(acc++z).length<=sizeLine/\P (acc++z)
 | _=>False
def LY (ta:TE)(t:TJ):TJ:=λacc σ H Q=>ta σ H λv H1=>sJ acc v λz=>t z σ H1 Q
def Nn (t:TJ):TE:=λσ H Q=>t Str.empty σ H Q
section
variable {X:Cx} {e e2:Expr} {es:List Expr} {ta:TE} {t:TJ} {pos:Pos}
theorem Bw (ha:PE X e ta):PE X (.FormattedValue e (-1) none pos) (DH ta):=by
 intro pins s σ H Q I h;refine wpAny_FormattedValue_plain (Kw (ha pins s σ H _ I h) λv s1 ⟨x,H1,U,r1,J⟩=>?_);cases x with
 | int i=>
  obtain⟨tk,rfl⟩:=r1;exact wpAny_formatField_int J.1 ⟨.str _,H1,(U.tok _).tok _,⟨_,rfl⟩,J.2⟩
 | str z=>
  obtain⟨tk,rfl⟩:=r1;exact wpAny_formatField_str ⟨.str _,H1,U,⟨_,rfl⟩,J.2⟩ ⟨.str _,H1,U.tok _,⟨_,rfl⟩,J.2⟩ J.1
 | _=>exact J.elim
theorem Fh:PJ X [] Sb:=λacc pins s σ H Q I h=>by
 show Joins _ _ _ [] _ _ _;unfold Joins;exact⟨h.1,.str _,H,I.tok _,⟨_,rfl⟩,h.2⟩
theorem Vr (ha:PE X e ta)(ht:PJ X es t)(hv:evalEach (e::es) X.env=eval e X.env::evalEach es X.env:=by rfl):PJ X (e::es) (LY ta t):=λacc pins s σ H Q I h=>by
 rw[hv];unfold Joins;refine Kw (ha pins s σ H _ I h) λv s1 ⟨x,H1,I1,r1,J⟩=>?_
 cases x with
 | str z=>
  obtain⟨U,rfl⟩:=r1;exact⟨z,U,rfl,J.1,ht _ pins s1 σ H1 Q I1 J.2⟩
 | _=>exact J.elim
theorem ME (ht:PJ X (e::e2::es) t):PE X (.JoinedStr (e::e2::es) pos) (Nn t):=λpins s σ H Q I h=>wpAny_JoinedStr (ht _ pins s σ H Q I h)
end
theorem LJ:Nn t σ H Q=t Str.empty σ H Q:=rfl
theorem RO:LY ta t acc σ H Q=ta σ H λv H1=>sJ acc v λz=>t z σ H1 Q:=rfl
theorem He:Sb acc σ H Q=(acc.length<=sizeLine/\Q (.str acc) H):=rfl
theorem CO {P}:sJ acc (.str z) P=((acc++z).length<=sizeLine/\P (acc++z)):=rfl
theorem Do:DH ta σ H Q=ta σ H λv H1=>HQ v H1 Q:=rfl
theorem Hi {i:Int}:HQ (.int i) H Q=(i.natAbs.log2<1920/\Q (.str (Str.ofString (toString i))) H):=rfl
end L2
namespace L2
open PySem PySem.Spec PyProof.Rows
end L2
namespace L2
open PySem PySem.Spec PyProof.Rows
structure Cj {α:Type}(t:Sem α):Prop where
 out:∀(M:Model) (Γ:PySem.Ctx) (Q1 Q2:α->Pos->Shared->Prop) (E1 E2:Value->Pos->Shared->Prop) (p:Pos) (s:Shared),Sem.wp M Γ t Q1 E1 p s->Sem.wp M Γ t Q2 E2 p s ->
  Sem.wp M Γ t (λa p s=>Q1 a p s/\Q2 a p s) (λe p s=>E1 e p s/\E2 e p s) p s
section
variable {α β:Type}
theorem QW {a}:Cj (pure a:Sem α):=⟨λ_ _ _ _ _ _ _ _ h1 h2=>⟨h1,h2⟩⟩
theorem XC {x}:Cj (unsupported x:Sem α):=⟨λ_ _ _ _ _ _ _ _ h1 _=>h1.elim⟩
theorem QK {m:Sem α}{f:α->Sem β}(h:Cj m)(hf:∀a,Cj (f a)):Cj (m >>= f):=⟨λM Γ Q1 Q2 E1 E2 p s h1 h2=>by
 have e:=λQ E=>Sem.wp_bind M Γ m f Q E p s
 have J:=(e Q1 E1).mp h1;have U:=(e Q2 E2).mp h2;exact(e _ _).mpr (Sem.wp_mono M Γ m (λa p' s' ⟨z1,z2⟩=>(hf a).out M Γ Q1 Q2 E1 E2 p' s' z1 z2) (λ_ _ _ z=>z) p s (h.out M Γ _ _ _ _ p s J U))⟩
theorem VQ {a}:Cj (load a):=⟨λ_ _ _ _ _ _ _ _ ⟨o,e,h1⟩ ⟨o',e',h2⟩=>by
 rw[e] at e';cases e';exact⟨o,e,h1,h2⟩⟩
theorem K3 {a}{f}:Cj (update a f):=⟨λ_ _ _ _ _ _ _ _ ⟨e,h1⟩ ⟨_,h2⟩=>⟨e,h1,h2⟩⟩
theorem UY {o}:Cj (alloc o):=⟨λ_ _ _ _ _ _ _ _ h1 h2=>⟨h1,h2⟩⟩
theorem JW:Cj stack:=⟨λ_ _ _ _ _ _ _ _ h1 h2=>⟨h1,h2⟩⟩
end
theorem Cj.any (h:Cj t){A:Around}{Q1 Q2:α->Shared->Prop}{E1 E2:Value->Shared->Prop}{s:Shared}(h1:wpAny M A t Q1 E1 s)(h2:wpAny M A t Q2 E2 s):wpAny M A t (λa s=>Q1 a s/\Q2 a s) (λe s=>E1 e s/\E2 e s) s:=
 λΓ p hΓ=>h.out M Γ _ _ _ _ p s (h1 Γ p hΓ) (h2 Γ p hΓ)
theorem UX {v}:Cj (fieldsOf v):=by
 unfold fieldsOf;split
 ·refine QK VQ λo=>?_
  split
  ·exact QW
  ·exact XC
 ·exact XC
theorem Wn {v}:Cj (field v i):=by
 unfold field;refine QK UX λvs=>?_
 split
 ·exact QW
 ·exact XC
theorem JV {a}{v}:Cj (updateField a i v):=by
 unfold updateField;refine QK VQ λo=>?_
 split
 ·split
  ·exact K3
  ·exact XC
 ·exact XC
theorem Yq {v x}:Cj (setField v i x):=by
 unfold setField;split
 ·exact JV
 ·exact XC
theorem cj_setFlight {e}{f}:Cj (setFlight e f):=by
 unfold setFlight;refine QK Wn λtb=>?_
 split
 ·exact Yq
 ·exact QW
theorem M4 {l}:Cj (behindIsImport env l):=by
 unfold behindIsImport;split
 ·exact QW
 ·split
  ·exact QW
  ·exact QK Wn λ_=>QW
theorem Rl:Cj underTheClaimsCaller:=by
 unfold underTheClaimsCaller;exact QK JW λ_=>QW
theorem TB {b}{l}:Cj (keptBack env b l):=by
 unfold keptBack;split
 ·split
  ·exact QW
  ·exact QK Rl λ_=>QW
 ·exact QW
theorem UW:∀{l},Cj (readyFrames l)
 | []=>QW
 | env::outer=>by
  have J:=UW (l:=outer);unfold readyFrames;split
  ·refine QK VQ λo=>?_
   split
   ·exact QW
   ·exact QK M4 λ_=>QK TB λ_=>QK K3 λ_=>J
  ·exact XC
theorem GY:Cj (PySem.frameOf env):=by
 unfold PySem.frameOf frameEnvs;refine QK (QK JW λ_=>QW) λl=>?_
 refine QK ?_ λr=>?_
 ·unfold frameObject;split
  ·exact QW
  ·exact QK UW λ_=>QW
 ·split
  ·exact QW
  ·exact XC
theorem Rm {f}{b}:Cj (entryPlaceOf f b):=by
 unfold entryPlaceOf;refine QK JW λacts=>?_
 split<;>exact QW
theorem VP {ty}{l}:Cj (newFields ty l):=by
 unfold newFields newObj newObjAsIs;dsimp only;split
 ·exact QK XC λ_=>QK UY λ_=>QW
 ·exact QK UY λ_=>QW
theorem Rn {a b c d e}{l}:Cj (EntryCells.newEntry a b c d e l):=VP
theorem cj_noteFrame {e}:Cj (noteFrame e env):=by
 unfold noteFrame;split
 ·refine QK Wn λJ=>?_
  have rest:∀{b:Bool} {f:Addr},Cj (do
    let a <-PySem.frameOf env
    let pl <-entryPlaceOf f b
    let x <-EntryCells.newEntry J a Value.none (rawInt ↑f) Value.none pl
    setField e 1 x):=λ{b f}=>QK GY λ_=>QK Rm λ_=>QK Rn λ_=>Yq
  dsimp only;split
  ·refine QK Wn λU=>?_
   split
   ·exact QW
   ·exact QK Yq λ_=>rest
  ·exact rest
 ·exact XC
theorem cj_leaving {e}:Cj (leaving env e):=QK cj_noteFrame λ_=>cj_setFlight
def F3 (e:Addr)(h:Heap):Prop:=∃o vs T oT ts,h.get? e=some o/\o.data=.fields vs/\vs[2]?=some .none/\vs[1]?=some (.ref T)/\T≠e/\h.get? T=some oT/\oT.data=.fields ts/\3<ts.size
theorem D9 {o}{vs}{f}(h:o.data=.fields vs):(Obj.mapFields f o).data=.fields (f vs)/\(Obj.mapFields f o).isFreed=false:=by
 obtain⟨c,d,J,sl⟩:=o;cases h;exact⟨rfl,rfl⟩
section
variable {M:Model} {A:Around} {E:Value->Shared->Prop} {s:Shared} {e:Addr} {Q:Unit->Shared->Prop}
theorem YA {fr}(x:F3 e s.heap)(q:∀h',F3 e h'->Q () { s with heap:=h' }):wpAny M A (setFlight (.ref e) fr) Q E s:=by
 obtain⟨o,vs,T,oT,ts,h1,h2,h3,h4,h5,h6,U,h8⟩:=x;unfold setFlight;refine Aw (wpAny_field h1 h2 h4 ?_);rw[An (by rfl)];refine wpAny_setField h6 U h8 (q _ ?_);obtain⟨m1,m2⟩:=D9 (f:=λJ=>J.setIfInBounds 3 (fr.elim Value.none λf=>rawInt ↑f)) U;refine⟨o,vs,T,_,_,?_,h2,h3,h4,h5,qy _ h6 m2,m1,by simpa using h8⟩;exact pE _ h5 h1
theorem N6 {hd}{b}(hf:A.frames=some (env::outer))(ff:s.heap.FunFrames base (env::outer))(hL:env.frame=some L){o}{vs}(h1:s.heap.get? e=some o)(h2:o.data=.fields vs)(h3:vs[2]?=some .none)
  (q:∀h',F3 e h'->Q () { s with heap:=h' }):wpAny M A (do
    let a <-PySem.frameOf env
    let pl <-entryPlaceOf L b
    let x <-EntryCells.newEntry hd a Value.none (rawInt ↑L) Value.none pl
    setField (.ref e) 1 x) Q E s:=by
 refine Aw (wpAny_frameOf_fun hf ff hL λh' so=>?_);obtain⟨sl,k1⟩:=so.2.2 e o h1;refine Aw (wpAny_entryPlaceOf λpl hp=>Aw ?_);unfold EntryCells.newEntry newFields;refine wpAny_newObj_type ?_ ?_
 ·have k2:∀ob:Obj,(h'.push ob).get? e=some { cls:=o.cls,dict:=o.dict,data:=o.data,slots:=sl }:=λob=>AI _ k1
  have J:1<vs.size:=by
   have:=(Array.getElem?_eq_some_iff.mp h3).1;omega
  refine wpAny_setField (k2 _) h2 J (q _ ?_);obtain⟨m1,m2⟩:=D9 (o:={ cls:=o.cls,dict:=o.dict,data:=o.data,slots:=sl }) (f:=λU=>U.setIfInBounds 1 (Value.ref h'.objs.size)) h2;have ne:h'.objs.size≠e:=λz=>absurd (AC k1) (by rw[z];exact Ij _)
  refine⟨_,_,h'.objs.size,_,_,qy _ (k2 _) m2,m1,?_,?_,ne,pE _ ne.symm (Ia _ rfl),rfl,?_⟩
  ·rw[Array.getElem?_setIfInBounds_ne (by decide)];exact h3
  ·rw[Array.getElem?_setIfInBounds_self_of_lt J]
  ·rw[AR,Aq];show 3<5+_;omega
 ·show([hd,Value.ref L,Value.none,rawInt ↑L,Value.none]++_).toArray.size<=sizeLine+2;rcases hp with rfl|⟨_,_,_,_,_,_,_,rfl⟩
  ·show 11<=sizeLine+2
   decide
  ·show 11<=sizeLine+2
   decide
theorem Rc (hf:A.frames=some (env::outer))(ff:s.heap.FunFrames base (env::outer))(hL:env.frame=some L){o}{vs}(h1:s.heap.get? e=some o)(h2:o.data=.fields vs)(h3:vs[2]?=some .none)(h4:vs[1]?=some .none)
  (q:∀h',F3 e h'->Q () { s with heap:=h' }):wpAny M A (noteFrame (.ref e) env) Q E s:=by
 unfold noteFrame;rw[hL];refine Aw (wpAny_field h1 h2 h4 ?_);exact N6 hf ff hL h1 h2 h3 q
theorem N7 (hf:A.frames=some (env::outer))(ff:s.heap.FunFrames base (env::outer))(hL:env.frame=some L)(x:F3 e s.heap)
  (q:∀h',F3 e h'->Q () { s with heap:=h' }):wpAny M A (noteFrame (.ref e) env) Q E s:=by
 obtain⟨o,vs,T,oT,ts,h1,h2,h3,h4,h5,h6,U,h8⟩:=id x;unfold noteFrame;rw[hL];refine Aw (wpAny_field h1 h2 h4 ?_);dsimp only;rw[An (by rfl)];refine Aw (wpAny_field h6 U (Array.getElem?_eq_getElem h8) ?_);split
 ·exact AM (q _ x)
 ·refine Aw (wpAny_setField h6 U h8 ?_);have k1:(s.heap.update T (Obj.mapFields λJ=>J.setIfInBounds 3 Value.none)).get? e=some o:=pE _ h5 h1;refine N6 (s:={ s with heap:=s.heap.update T (Obj.mapFields λJ=>J.setIfInBounds 3 Value.none) }) hf (Heap.FunFrames.of_keeps (λb ob hb nf=>?_) ff) hL k1 h2 h3 q;have ne:T≠b:=λz=>by
   subst z;rw[h6] at hb;cases hb;exact nf _ U
  exact⟨ob,pE _ ne hb,rfl⟩
end
section
variable {X:Cx} {pins:List (Addr×Obj)} {σ:St} {H:Hp} {s:Shared} {h':Heap}
theorem GO {e}{vs}{Q}(I:Inv X pins σ H s)(ow:ZO X)(hx:Heap.MadeExcOf s.heap h' e cls vs)
  (q:∀U,Inv X pins σ H { s with heap:=U }->Air X pins H U cls e->F3 e U->Q () { s with heap:=U }):wpAny M X.A (leaving X.env (.ref e)) Q E { s with heap:=h' }:=by
 have I1:Inv X pins σ H { s with heap:=h' }:=I.kept (t':=s.toks) hx.keeps;obtain⟨t,he,_,_⟩:=hx.there;have fs:=ZV (ex:=[e]) I1;have fr:=I1.ok.frames;rw[ow.2.1] at fs fr;have w1:=MM (M:=M) (E:=λ_ _=>False) (Q:=λ_ s'=>∃U,s'={ s with heap:=U }/\Inv X pins σ H { s with heap:=U }/\Air X pins H U cls e) I ow hx λU J a=>⟨U,rfl,J,a⟩
 have w2:wpAny M X.A (leaving X.env (.ref e)) (λ_ s'=>F3 e s'.heap) (λ_ _=>False) { s with heap:=h' }:=
  Aw (Rc fr fs ow.2.2 he rfl rfl rfl λh2 x=>YA (s:={ s with heap:=h2 }) x λh3 y=>y)
 refine A9 (cj_leaving.any w1 w2) (λ_ s' ⟨⟨U,e1,J,a⟩,f⟩=>?_) λ_ _ z=>z.1.elim
 subst e1;exact q U J a f
theorem ML {e}{Q}(I:Inv X pins σ H s)(ow:ZO X)(a:Air X pins H s.heap cls e)(x:F3 e s.heap)
  (q:∀U,Inv X pins σ H { s with heap:=U }->Air X pins H U cls e->F3 e U->Q () { s with heap:=U }):wpAny M X.A (leaving X.env (.ref e)) Q E s:=by
 have fs:=ZV (ex:=[]) I;have fr:=I.ok.frames;rw[ow.2.1] at fs fr;have w1:=BQ (M:=M) (E:=λ_ _=>False) (Q:=λ_ s'=>∃U,s'={ s with heap:=U }/\Inv X pins σ H { s with heap:=U }/\Air X pins H U cls e) I ow a λU J a=>⟨U,rfl,J,a⟩
 have w2:wpAny M X.A (leaving X.env (.ref e)) (λ_ s'=>F3 e s'.heap) (λ_ _=>False) s:=
  Aw (N7 fr fs ow.2.2 x λh2 x=>YA (s:={ s with heap:=h2 }) x λh3 y=>y)
 refine A9 (cj_leaving.any w1 w2) (λ_ s' ⟨⟨U,e1,J,a⟩,f⟩=>?_) λ_ _ z=>z.1.elim
 subst e1;exact q U J a f
end
def CXn (P:Program)(w:World):CXT:=λouter H s E e s'=>
 ∃ea cls H',e=.ref ea/\s'.os=s.os/\AllBare s'.gens/\Un (Nb outer) [] H H' s.heap s'.heap/\HOk P w H' s'.heap/\SG H' s'.heap s.heap cls ea/\F3 ea s'.heap/\E cls none H'
section
variable {X:Cx} {pins:List (Addr×Obj)} {σ:St} {H:Hp} {s s':Shared} {E:XK} {e:Value}
theorem CXn.here (I:Inv X pins σ H s)(hx:X.ex=[])(c:CXn X.prog X.w X.stack H s E e s'):∃ea cls H',e=.ref ea/\Inv X pins σ H' s'/\Air X pins H' s'.heap cls ea/\F3 ea s'.heap/\E cls none H':=by
 obtain⟨ea,cls,H',h1,h2,h3,h4,h5,h6,f,q⟩:=c;have J:CXr X.prog X.w X.stack H s (λJ n' H2=>J=cls/\H2=H'/\e=.ref ea) e s':=⟨ea,cls,H',h1,h2,h3,h4,h5,h6,rfl,rfl,h1⟩
 obtain⟨a0,U,H2,e1,I2,a,rfl,rfl,e2⟩:=CXr.here I hx J;rw[e1] at e2;cases e2;exact⟨_,_,_,e1,I2,a,f,q⟩
end
section
variable {P:Program} {w:World} {K:W.Frag} {mg:Str->Option Value} {base:Heap} {N:List Str} {qual:Str} {sc:Scope} {f:Addr} {cd:Value} {A:Around} {outer:List Env} {s0:Shared} {H0:Hp} {E:XK}
theorem Ri {e}(I:Inv (YE (CXn P w) P w K mg base N qual sc f cd A outer s0 H0 E) pins σ H s)(a:Air (YE (CXn P w) P w K mg base N qual sc f cd A outer s0 H0 E) pins H s.heap cls e)(x:F3 e s.heap)(q:E cls none H):CXn P w outer H0 s0 E (.ref e) s:=by
 obtain⟨oe,vs,T,oT,ts,a0,h1,h2,h3,h4,h6,h7,h8,h9,U,J⟩:=a;exact⟨e,cls,H,rfl,I.os,I.bare,I.base,I.hok,⟨oe,vs,T,oT,ts,a0,h1,h2,h3,h4,h6,h7,h8,h9,⟨U.1,U.2.1⟩,⟨J.1,J.2.1⟩⟩,x,q⟩
theorem Yd {E'}(hE:∀cls H,E' cls none H->E cls none H):Xr (CXn P w) (YE (CXn P w) P w K mg base N qual sc f cd A outer s0 H0 E) E':=by
 intro pins σ H s e s' I c;obtain⟨ea,cls,H',rfl,I',a,x,q⟩:=CXn.here I rfl c;exact ML I' BA a x λU I2 a2 J=>Ri I2 a2 J (hE _ _ q)
theorem XX:Rx (YE (CXn P w) P w K mg base N qual sc f cd A outer s0 H0 E) E:=λ_ _ _ _ _ _ _ _ I hx q=>GO I BA hx λ_ I2 a2 x2=>Ri I2 a2 x2 q
end
theorem Fv:Xr (CXn X.prog X.w) X E0:=λ_ _ _ _ _ _ _ h=>by
 obtain⟨_,_,_,_,_,_,_,_,_,_,q⟩:=h;exact Gh q
structure W5 (P:Program)(w:World)(K:W.Frag)(mg:Str->Option Value)(base:Heap)(k:Nat)(name:Str)(ps:List Str)(sp:Sp):Prop where
 ex:∃(f:Addr) (fd:FuncData),FnOk P w K mg base (CXn P w) k f fd ps sp/\Binds K fd ps []/\W.keepIn K (.ref f)=true/\mg name=some (.ref f)
def qp (X:Cx)(pins:List (Addr×Obj))(σ:St)(E:XK)(ev:Value)(s':Shared):Prop:=∃ea cls H',ev=.ref ea/\Inv X pins σ H' s'/\Air X pins H' s'.heap cls ea/\F3 ea s'.heap/\E cls none H'
def PN (X:Cx)(e:Expr)(t:TX):Prop:=
 ∀(pins:List (Addr×Obj)) (s:Shared) (σ:St) (H:Hp) (Q:VK) (E:XK),Inv X pins σ H s->t σ H Q E->wpAny (model X.prog X.w) X.A (eval e X.env) (EP X pins σ Q) (qp X pins σ E) s
def rA (X:Cx)(sts:List Stmt)(t:QY->XK->St->Hp->Prop):Prop:=
 ∀(pins:List (Addr×Obj)) (s:Shared) (σ:St) (H:Hp) (D:QY) (E:XK),Inv X pins σ H s->t D E σ H->wpAny (model X.prog X.w) X.A (execs sts X.env) (SP X pins D) (qp X pins σ E) s
section
variable {X:Cx} {k:Nat} {f:Addr} {fd:FuncData} {ps:List Str} {sp:Sp} {x name:Str} {p pos:Pos} {e:Expr} {es:List Expr} {t:TA} {E:XK}
theorem ZC (C:W5 X.prog X.w X.K X.mg X.base k name ps sp)(hr:Room k X.A)(hg:Gl X name)(hx:Xr (CXn X.prog X.w) X E)(ha:PA X (e::es) t)(hdb:(name==("__debug__":Str))=false:=by decide)
  (he:starEach (e::es) X.env=(false,eval e X.env)::starEach es X.env:=by rfl) (hpl:(backTo pos (starEach es X.env)).any (·.1)=false:=by rfl) :
  PE X (.Call (.Name name p) (e::es) [] pos) (Nq sp [] E t):=by
 obtain⟨f,fd,F,b,kp,m⟩:=C.ex;exact NK F hr hg m kp b .nil hx ha hdb he hpl
theorem Pq (C:W5 X.prog X.w X.K X.mg X.base k name ps sp)(hr:Room k X.A)(hx0:X.ex=[])(hg:Gl X name)(ha:PA X.nox (e::es) t)
  (hdb:(name==("__debug__":Str))=false:=by decide) (he:starEach (e::es) X.env=(false,eval e X.env)::starEach es X.env:=by rfl) (hpl:(backTo pos (starEach es X.env)).any (·.1)=false:=by rfl) :
  PN X (.Call (.Name name p) (e::es) [] pos) (Gk sp t):=by
 obtain⟨f,fd,F,hb,hk,hm⟩:=C.ex;intro pins s σ H Q E I h;refine IR (X0 I hg hm ?_ hdb);refine W.callWith_K (h₀:=X.base) I.ok.mod.kin hk (A9 (ha pos pins s σ H _ (I.wish _) h) (λus s1 ⟨vs,H1,J,r,q⟩=>⟨J.kIn,?_⟩) λ_ _ z=>Gh z) he hpl;have J:=J.unwish;have hl:(us++[]).length=ps.length:=by rw[Ie,<-r.length];exact F.len _ _ _ _ q
 have a0:=hb s1 us J.kIn hl;rw[Ie] at a0;refine wpAny_call (IG (F.run X.A X.stack s1 H1 ⟨us,[]⟩ us vs Q E hr J.env0 a0 r q) λr s' U=>?_);cases r with
 | error e=>exact CXn.here J hx0 U
 | ok fl=>
  cases fl with
  | ret u=>exact J.after U
  | next=>exact Gh U
  | brk=>exact Gh U
  | cont=>exact Gh U
variable {tx:TX}
theorem Pt {y}{pos'}(hN:X.N.Nodup)(hi:X.N[i]?=some y)(hx:mL X.env.scope y)(he:PN X e tx)(hs:swapsWith e (some (.Name y pos')) pos.line X.env=pure false:=by rfl)(hf:X.fn y=true∨X.env.scope.names.lookup y=some .local:=by first|exact .inl rfl|exact .inr rfl|assumption) :
  rA X [.Assign [.Name y pos'] e pos] (pW i tx):=by
 intro pins s σ H D E I h;refine wpAny_execs_cons (wpAny_Assign_Name (Kw (he pins s σ H _ E I h) λv s1 ⟨x,H1,U,r1,J⟩=>?_) hs);exact X8 U hN hi hx r1 (λs2 I2=>IQ ⟨_,H1,I2,J⟩) hf
end
section
variable {P:Program} {w:World} {K:W.Frag} {mg:Str->Option Value} {base:Heap}
theorem Fun.okN {f}{N}{k:Nat}{sp}(F:Fun K x qual st f fd)(S:ZP N ps (Qx st))(len:∀vs H Q E,sp vs H Q E->vs.length=ps.length)
  (hbody:∀(cdv:Value) (A:Around) (outer:List Env) (s:Shared) (H:Hp) (vs:List V) (Q:VK) (E:XK),Room k (A.deeper (envOfC qual (Qx st) s.heap.objs.size f cdv))->sp vs H Q E ->
   ∃t,PSs (YE (CXn P w) P w K mg base N qual (Qx st) f cdv A outer s H E) (Q9 st) t/\t { nx:=λ_ H'=>Q .non H',rt:=Q } (start N vs) H):FnOk P w K mg base (CXn P w) (k+1) f fd ps sp:=by
 obtain⟨oc,od,kV,doc,pm,an,cdv,ct,a0,rfl,lk,J⟩:=F.ex;exact B5 lk J S len λA outer s H vs Q E hr U=>hbody cdv A outer s H vs Q E hr U
end
end L2
namespace L2
open PySem PySem.Spec PyProof.Rows PySem.W Builtin Builtin.ObjectAttr Builtin.Getset_descriptor
def LU (K:W.Frag)(C:Addr)(tb:QY->XK->St->Hp->Prop)(ts:Addr->TS):TS:=λD σ H=>tb D (λcls _ H1=>W.exmOne K cls (.ref C)=some true/\∀e,H1 e=none->ts e D σ H1) σ H
section
variable {X:Cx} {body suite:List Stmt} {b₀:Stmt} {x n:Str} {C:Addr} {np hp pos:Pos} {tb:QY->XK->St->Hp->Prop} {ts:Addr->TS}
theorem TC {name}{Q}(I:Inv X pins σ H s)(ow:ZO X)(hg:Gl X x)(hm:X.mg x=some (.ref C))(a:Air X pins H s.heap cls ea)(f3:F3 ea s.heap)(hmatch:W.exmOne X.K cls (.ref C)=some true)
  (h:∀h6,Inv X pins σ H { s with heap:=h6 }->Air X pins H h6 cls ea->F3 ea h6->codeAny (model X.prog X.w) (X.A.mark (some (.ref ea))) (.handlers (.ref ea) [.ExceptHandler none name (b₀::suite) hp] X.env) (λr s₂=>match r with
     | .ok f=>(match name with
      | none=>Q f s₂
      | some n=>wpAny (model X.prog X.w) X.A (do bindName X.env n .none;unbindBehindTheSuite X.env n hp) (λ_ s₃=>Q f s₃) X.xe s₂)
     | .error x=>cameBackBy (model X.prog X.w) X.A X.env X.xe x s₂) { s with heap:=h6 }) (hd:(x==("__debug__":Str))=false:=by decide) :
  wpAny (model X.prog X.w) X.A (noteFrame (.ref ea) X.env) (λ_ s₂=>wpAny (model X.prog X.w) X.A (setFlight (.ref ea) none) (λ_ s₃=>wpAny (model X.prog X.w) X.A (handleBy (.ref ea) X.env [.ExceptHandler (some (.Name x np)) name (b₀::suite) hp]) Q X.xe s₃) X.xe s₂) X.xe s:=by
 obtain⟨T,a0,a8,a9,tr⟩:=a.two;have fs:=ZV (ex:=[ea,T]) I;have fr:=I.ok.frames;rw[ow.2.1] at fs fr;have w1:=wpAny_looks_onW (M:=model X.prog X.w) (A:=X.A) (E:=λ_ _=>False) (s:=s) (base:=YT X s.heap [ea,T]) (Q:=λ_ s'=>∃h4,s'={ s with heap:=h4 }/\(YT X s.heap [ea,T]).HeldW (X.env::X.outer) ea cls a0 X.env.locals h4/\s.heap.UpToSlots h4) fr ow.2.2 ⟨Yz,Wk (by simp),fs,tr⟩ λh4 a7 a6=>⟨h4,rfl,a7,a6⟩
 have w2:wpAny (model X.prog X.w) X.A (noteFrame (.ref ea) X.env) (λ_ s'=>F3 ea s'.heap) (λ_ _=>False) s:=N7 fr fs ow.2.2 f3 λh2 x=>x
 refine A9 (cj_noteFrame.any w1 w2) (λ_ s' ⟨⟨h4,e4,a7,a6⟩,f4⟩=>?_) λ_ _ z=>z.1.elim
 subst e4;have v1:=wpAny_landsW (M:=model X.prog X.w) (A:=X.A) (E:=λ_ _=>False) (s:={ s with heap:=h4 }) (base:=YT X s.heap [ea,T]) (Q:=λ_ s'=>∃U,s'={ s with heap:=U }/\(YT X s.heap [ea,T]).FlyingW (X.env::X.outer) ea cls a0 U/\h4.UpToSlots U) a7 λU J a4=>⟨U,rfl,J,a4⟩
 have v2:wpAny (model X.prog X.w) X.A (setFlight (.ref ea) none) (λ_ s'=>F3 ea s'.heap) (λ_ _=>False) { s with heap:=h4 }:=YA (s:={ s with heap:=h4 }) f4 λh2 x=>x
 refine A9 (cj_setFlight.any v1 v2) (λ_ s' ⟨⟨U,e5,J,a4⟩,f5⟩=>?_) λ_ _ z=>z.1.elim
 subst e5;have I5:Inv X pins σ H { s with heap:=U }:=Ws I a8 a9 J.1 (a6.trans a4);have l5:=J.2.2.1;rw [<-ow.2.1] at l5;have a5:Air X pins H U cls ea:=Jq I ow.1 a8 (by simp) l5 J.2.2.2;refine wpAny_handleBy_cons (codeAny_handlers_test (X0 (X:=X.hand ea) (I5.hand ea) hg hm ?_ hd)) (by intro q;cases q);obtain ⟨oe,vs,T5,oT,ab,aa,e1,e2,_⟩:=id a5;have LT:W.Looks (model X.prog X.w) U (typeOf (.ref ea)) cls:=e2.1 ▸ (W.Looks.ld e1).andThen .now;exact W.exm_one I5.kIn LT hmatch _ _ _ _ (fun _ _ z=>z) (h U I5 a5 f5)
theorem VA {Q}(I:Inv X pins σ H s)(ow:ZO X)(a:Air X pins H s.heap cls ea)(f3:F3 ea s.heap)
  (q:∀h',Inv X pins σ H { s with heap:=h' }->Air X pins H h' cls ea->F3 ea h'->Q () { s with heap:=h' }):wpAny M A (setFlight (.ref ea) none) Q E s:=by
 have U:=UA (M:=M) (A:=A) (E:=λ_ _=>False) (Q:=λ_ s'=>∃h',s'={ s with heap:=h' }/\Inv X pins σ H { s with heap:=h' }/\Air X pins H h' cls ea) I ow a λh' J b=>⟨h',rfl,J,b⟩
 have w2:wpAny M A (setFlight (.ref ea) none) (λ_ s'=>F3 ea s'.heap) (λ_ _=>False) s:=YA f3 λh2 x=>x
 refine A9 (cj_setFlight.any U w2) (λ_ s' ⟨⟨h5,e5,J,b⟩,f5⟩=>?_) λ_ _ z=>z.1.elim
 subst e5;exact q h5 J b f5
theorem Bm (ow:ZO X)(hg:Gl X x)(hm:X.mg x=some (.ref C))(hb:rA X body tb)(hs:∀e,PSs (X.hand e) (b₀::suite) (ts e))(hd:(x==("__debug__":Str))=false:=by decide) :
  PS X (.Try body [.ExceptHandler (some (.Name x np)) none (b₀::suite) hp] [] [] pos) (LU X.K C tb ts):=by
 intro pins s σ H D I h;refine wpAny_Try_except (A9 (hb pins s σ H D _ I h) (λf s1 q=>?_) λev s1 ⟨ea,cls,H1,U,I1,a1,f1,J,q⟩=>?_)
 ·cases f with
  | next=>exact IQ q
  | ret v=>exact q
  | brk=>exact q
  | cont=>exact q
 ·subst U;refine TC I1 ow hg hm a1 f1 J (λh5 I5 a5 f5=>codeAny_handlers_suite (VA I5 ow a5 f5 λh6 I6 a6 f6=>?_)) hd;obtain⟨oe,vs,T6,oT,a0,a4,e1,e2,e3,_,_,_,_,_,l1,_⟩:=id a6;exact A9 (hs ea pins _ σ H1 D (I6.hand ea) (q ea l1.1)) (λf s' z=>z.unhand I6.ok) λ_ _ z=>Gh z
end
end L2
namespace L2
open PySem PySem.Spec PyProof.Rows PySem.W Builtin
end L2
namespace L2
open PySem PySem.Spec PyProof.Rows
def Zk (z:Str):Prop:=(z.cps.all λx=>decide (x<128))=true
def pM (z:Str):It:=⟨λi _=>i<z.cps.size,λi H x H'=>H'=H/\∃c,z.cps[i]?=some c/\x=.str ⟨#[c]⟩,λi _=>z.cps.size<=i⟩
theorem LS (it):U6 P w K tg (pM z) [it] it (λi h=>h.IsStrIter it "str_ascii_iterator" z t i) where
 mem:=by simp
 obj:=λi h st b U=>by
  have e:b=it:=by simpa using U
  subst e;obtain⟨o,e,c,d⟩:=st;exact⟨o,e,λv z=>by rw[d] at z;cases z⟩
 keep:=λi h h' ⟨o,e,c,d⟩ k=>⟨o,k it (by simp) o e,c,d⟩
 item:=by
  intro X hP hw hK hc i pins s σ H E I hf st J;subst hP hw hK;have J:i<z.cps.size:=J;obtain⟨f0,f1,f2,f3,f4,f5⟩:=hf it (by simp);refine wpAny_pyNext_ascii_item (c:=z.cps[i]) st (by simp[J]) λh' a0 sb=>?_
  have I1:Inv X pins σ H { s with heap:=h',toks:=s.toks+1 }:=I.turned (t':=s.toks+1) (λb o U e=>(sb.2 b U).trans e) f0 f1 f3 f4 f5;obtain⟨o,e,c,d⟩:=id a0;exact⟨_,rfl,UK (s:={ s with heap:=h',toks:=s.toks+1 }) e c d (by decide) ⟨.str ⟨#[z.cps[i]]⟩,H,I1,⟨_,rfl⟩,⟨rfl,z.cps[i],by simp[J],rfl⟩,a0,λb U=>(hf b U).1⟩⟩
 done:=by
  intro X hP hw hK hc i pins s σ H E I hf st J;subst hP hw hK;have J:z.cps.size<=i:=J;obtain⟨f0,f1,f2,f3,f4,f5⟩:=hf it (by simp);exact wpAny_pyNext_ascii_end (I.ok.hd hc) st (by simp[J]) λh' eb=>⟨rfl,I.turned (t':=s.toks) (λb o U e=>eb b o U e) f0 f1 f3 f4 f5⟩
 self:=λA i s Q E st h=>wpAny_pyIter_striter_ascii st h
def FX (tl:TE):TI:=λσ H R=>tl σ H λx H1=>∃z,x=.str z/\Zk z/\R (pM z) H1
theorem Br {l}{tl}(hl:PE X l tl):PI X tg l (FX tl):=by
 intro pins s σ H R I h;refine Kw (hl pins s σ H _ I h) λv J ⟨x,H1,U,r1,q1⟩=>?_
 obtain⟨z,e,ha,q⟩:=q1;subst e;obtain⟨t,rfl⟩:=r1;refine wpAny_pyIter_ascii ha ?_;refine⟨J.heap.objs.size,[J.heap.objs.size],_,_,H1,rfl,U.kept (t':=J.toks) λb o e=>AI _ e,LS (z:=z) (t:=t) _,⟨_,Ia _ rfl,rfl,rfl⟩,λb hb=>?_,q⟩;have e:b=J.heap.objs.size:=by simpa using hb
 subst e;exact U.fpOk (Au _) (U.hok.fresh (Au _))
theorem LL:FX tl σ H R=tl σ H λx H1=>∃z,x=.str z/\Zk z/\R (pM z) H1:=rfl
theorem SF (Pv)(h0:Pv 0 [] σ0 H)(hn:z.cps.size<=1000)
  (hs:∀i c acc σ H,z.cps[i]?=some c->acc.length<=i->Pv i acc σ H->g (.str ⟨#[c]⟩) σ H λJ H2=>tt J H2 λb H3=>if b=true then te J H3 λv H4=>CN Pv z.cps.size i (acc++[v]) J H4 else CN Pv z.cps.size i acc J H3)
  (hd:∀acc σ H,Pv z.cps.size acc σ H->∀p,H p=none->Q (.ref p) (upd H p (.lst acc))):U7 (pM z) g tt te σ0 H Q:=by
 refine⟨λi m acc σ H=>m=z.cps.size-i/\i<=z.cps.size/\acc.length<=i/\Pv i acc σ H,⟨z.cps.size,by simp,AZ _,Au _,h0⟩,?_⟩;rintro i m acc σ H ⟨rfl,hi,ha,p⟩;by_cases U:i<z.cps.size
 ·refine .inr ⟨U,Zl (by omega),λx H' y=>?_⟩;obtain⟨rfl,c,hc,rfl⟩:=y;exact hs i c acc σ _ hc ha p
 ·have e:i=z.cps.size:=by omega
  subst e;exact .inl ⟨Au _,hd acc σ H p⟩
theorem FW:∀c<128,Txt.contains "abcdefghijklmnopqrstuvwxyz" ⟨#[c]⟩=(decide (97<=c)&&decide (c<=122)):=by decide +kernel
def D1:List V->Hp->VK->Prop:=λxs H Q=>∃x n,xs=[.str x]/\intText? x=some n/\x.length<=640/\Q (.int n) H
theorem Ld:CallR X (.type "int") D1:=by
 intro pins s σ H xs us Q I r h;obtain⟨x,n,rfl,hn,J,q⟩:=h;obtain⟨u,rfl,t,rfl⟩:=Z1 r;exact W.KIN.call_text hn J ⟨.int n,H,I.tok _,⟨_,rfl⟩,q⟩
def DT:V->List V->Hp->VK->Prop:=λx xs H Q=>∃z y,x=.str z/\xs=[.str y]/\(y.length==0)=false/\z.length<=sizeLine/\∀p,H p=none->Q (.ref p) (upd H p (.tup [.str (Txt.partition z y).1,.str (Txt.partition z y).2.1,.str (Txt.partition z y).2.2]))
theorem Vw:nI X "str.partition" DT:=by
 intro pins s σ H x xs v us Q I rx rs q;obtain⟨z,y,rfl,rfl,hy,U,q⟩:=q;obtain⟨t,rfl⟩:=rx;obtain⟨_,rfl,u,rfl⟩:=Z1 rs;refine call_meets PySem.F.slot_str_partition (typeIs_str _ _ _) PySem.F.entry_str_partition (PySem.F.args_str_partition_2 _ _) (meets_str_partition z y t u hy U) ?_;have J:=q;unfold Txt.partition at J;revert J;cases Builtin.Str.occurrences z y 0 z.length 1 with
 | nil=>
  intro J;refine⟨.ref s.heap.objs.size,_,I.laid (t':=s.toks+1) (o:=.tup [.str z,.str Str.empty,.str Str.empty]) (λb o e=>AI _ e) (Au _) ?_,rfl,J _ (I.hok.fresh (Au _))⟩;exact⟨by rw[AB];exact(by decide:3<=16777216),_,.cons ⟨_,rfl⟩ (.cons ⟨_,rfl⟩ (.cons ⟨_,rfl⟩ .nil)),_,Ia s.heap rfl,rfl,0,rfl⟩
 | cons i r=>
  intro J;refine⟨.ref s.heap.objs.size,_,I.laid (t':=s.toks+1+1) (o:=.tup [.str (Builtin.Str.strSub z 0 i),.str y,.str (Builtin.Str.strSub z (i+y.length) z.length)]) (λb o e=>AI _ e) (Au _) ?_,rfl,J _ (I.hok.fresh (Au _))⟩;exact⟨by rw[AB];exact(by decide:3<=16777216),_,.cons ⟨_,rfl⟩ (.cons ⟨_,rfl⟩ (.cons ⟨_,rfl⟩ .nil)),_,Ia s.heap rfl,rfl,0,rfl⟩
def HW:V->List V->Hp->VK->Prop:=λx xs H Q=>∃z y,x=.str z/\xs=[.str y]/\(y.length==0)=false/\z.length<=sizeLine/\(Txt.split z y).length<=sizeLine/\∀p,H p=none->Q (.ref p) (upd H p (.lst ((Txt.split z y).map V.str)))
theorem KO:∀(ys) (k:Nat),Vals (ys.map V.str) (strsFrom k ys)
 | [],_=>.nil
 | _::ys,k=>.cons ⟨_,rfl⟩ (KO ys (k+1))
theorem JF:nI X "str.split" HW:=by
 intro pins s σ H x xs v us Q I rx rs q;obtain⟨z,y,rfl,rfl,U,hz,hn,q⟩:=q;obtain⟨t,rfl⟩:=rx;obtain⟨_,rfl,u,rfl⟩:=Z1 rs;have one:Txt.split z y=[z]->EP X pins σ Q (.ref s.heap.objs.size) { s with heap:=s.heap.push { cls:=.type "list",data:=.seq [Value.str z t].toArray } }:=λe=>by
  rw[e] at q;refine⟨.ref s.heap.objs.size,_,I.laid (t':=s.toks) (o:=.lst [.str z]) (λb o e=>AI _ e) (Au _) ?_,rfl,q _ (I.hok.fresh (Au _))⟩;exact⟨by rw[AB];exact(by decide:1<=16777216),_,_,.cons ⟨_,rfl⟩ .nil,Ia s.heap rfl⟩
 cases h1:(decide (z.length<y.length)||decide (Builtin.Str.strKind z<Builtin.Str.strKind y))
 ·cases J:(Builtin.Str.occurrences z y 0 z.length (z.length+1)).isEmpty
  ·have e:Txt.split z y=Builtin.Str.partsBetween z (Builtin.Str.occurrences z y 0 z.length (z.length+1)) y.length:=(Am (ne_true_of_eq_false h1)).trans (Am (ne_true_of_eq_false J));refine call_meets F.slot_str_split (typeIs_str _ _ _) F.entry_str_split (F.args_str_split_2 _ _) (meets_str_split_sep z y t u h1 U J hz (by rw [<-e];exact hn)) ?_;rw [<-e];refine ⟨.ref s.heap.objs.size,_,I.laid (t':=s.toks+(Txt.split z y).length) (o:=.lst ((Txt.split z y).map V.str)) (fun b o e=>AI _ e) (Au _) ?_,rfl,q _ (I.hok.fresh (Au _))⟩;exact ⟨by rw [As];exact hn,_,_,KO _ _,Ia s.heap rfl⟩
  ·exact call_meets F.slot_str_split (typeIs_str _ _ _) F.entry_str_split (F.args_str_split_2 _ _) (meets_str_split_not_found z y t u h1 U J) (one ((Am (ne_true_of_eq_false h1)).trans (An J)))
 ·exact call_meets F.slot_str_split (typeIs_str _ _ _) F.entry_str_split (F.args_str_split_2 _ _) (meets_str_split_cannot_occur z y t u h1) (one (An h1))
def D2:V->List V->Hp->VK->Prop:=λx xs H Q=>∃z y,x=.str z/\xs=[.str y]/\Q (.bl (Txt.endswith z y)) H
theorem Uu:nI X "str.endswith" D2:=by
 intro pins s σ H x xs v us Q I J rs q;obtain⟨z,y,rfl,rfl,q⟩:=q;obtain⟨t,rfl⟩:=J;obtain⟨_,rfl,u,rfl⟩:=Z1 rs;exact SC.endswith ⟨.bl _,H,I,rfl,q⟩
def rC (w:World)(K:W.Frag)(a:Addr)(kvs:List (Key×V)):Prop:=∃o vs ep,K.lookup a=some o/\(∀P,pO P w o vs ep)/\KV kvs vs/\(a==sysModules)=false
structure KDic (w:World)(K:W.Frag)(mg:Str->Option Value)(n:Str)(a:Addr)(kvs:List (Key×V)):Prop where
 m:mg n=some (.ref a)
 s:rC w K a kvs
def sL (K:W.Frag)(a:Addr)(xs:List V):Prop:=∀H,Kt K H a xs
theorem kts_of {a}{its}{k:Nat}{sl}(l:K.lookup a=some ⟨.type "tuple",od,.seq its k,sl⟩)(hz:its.size<=sizeLine)(r:Vals xs its.toList):sL K a xs:=
 λH=>.inr ⟨_,_,_,l,rfl,rfl,hz,r⟩
theorem Bv {n}{a}(k:KDic X.w X.K X.mg n a kvs)(hg:Gl X n:=by rfl)(hd:(n==("__debug__":Str))=false:=by decide):PE X (.Name n pos) (tC (.ref a)):=Vs (v:=.ref a) hg k.m rfl hd
theorem KDic.at {n}{a}(k:KDic X.w X.K X.mg n a kvs)(I:Inv X pins σ H s):(a==sysModules)=false/\∃o vs ep,s.heap.get? a=some o/\pO X.prog X.w o vs ep/\KV kvs vs/\s.heap.DictAt (QU X.prog X.w) a vs ep:=by
 obtain⟨_,o,vs,ep,hk,hd,r,hs⟩:=k;have g:=I.kIn a o hk;obtain⟨es,o1,J,o3,U,o5⟩:=hd X.prog;exact⟨hs,o,vs,ep,g,⟨es,o1,J,o3,U,o5⟩,r,o,es,g,o1,J,o3,U,o5⟩
def Nm (kvs:List (Key×V))(ty:TE):TE:=λσ H Q=>ty σ H λy H1=>∃k v,y=kV k/\Xu kvs k=some v/\Q v H1
def Nl (kvs:List (Key×V))(ty:TE):TE:=λσ H Q=>ty σ H λy H1=>∃k,y=kV k/\Q (.bl (!(Xu kvs k).isSome)) H1
section
variable {X:Cx} {i:Expr} {pos npos:Pos} {ty:TE} {n:Str} {a:Addr} {kvs:List (Key×V)}
theorem Wc (k:KDic X.w X.K X.mg n a kvs)(hi:PE X i ty)(hs:Em i)(hg:Gl X n:=by rfl)(hd:(n==("__debug__":Str))=false:=by decide):PE X (.Subscript (.Name n npos) i pos) (Nm kvs ty):=by
 intro pins s σ H Q I h;refine Nr PySem.F.slot_dict_getitem.lookup hs (Kw (Bv (pos:=npos) k hg hd pins s σ H (λx H1=>x=.ref a/\H1=H) I ⟨rfl,rfl⟩) λu s1 ⟨x,H1,I1,rx,ex,eH⟩=>?_);subst ex;subst eH;obtain rfl:u=Value.ref a:=rx;refine Kw (hi pins s1 σ H1 _ I1 h) λiv s2 ⟨y,H2,I2,ry,kk,v,ey,l,q2⟩=>?_
 subst ey;obtain ⟨a0,o,vs,ep,g,_,U,dd⟩:=k.at I2;have dd:=dd.dictOf;obtain ⟨w',hw,J⟩:=RelO.some_of (v:=v) (o:=valueAt vs kk) (by rw [<-l];exact U.val kk);exact ⟨dd.typeIs,wpAny_getItem_of (JL ry) dd.mapOf hw ⟨v,H2,I2.tok _,J,q2⟩⟩
theorem MF (k:KDic X.w X.K X.mg n a kvs)(hi:PE X i ty)(hg:Gl X n:=by rfl)(hd:(n==("__debug__":Str))=false:=by decide):PC X .NotIn i (.Name n npos) (Nl kvs ty):=by
 intro pins s σ H Q I h;refine Kw (hi pins s σ H _ I h) λiv s1 ⟨y,H1,I1,ry,kk,ey,q1⟩=>Kw (Bv (pos:=npos) k hg hd pins s1 σ H1 (λx H2=>x=.ref a/\H2=H1) I1 ⟨rfl,rfl⟩) λu s2 ⟨x,H2,I2,rx,ex,eH⟩=>?_
 subst ex;subst eH;subst ey;obtain rfl:u=Value.ref a:=rx;obtain ⟨J,o,vs,ep,g,_,U,dd⟩:=k.at I2;refine wpAny_notIn_of (JL ry) J dd.dictOf.mapOf ?_;rw [<-(U.val kk).isSome_eq];exact ⟨.bl _,H2,I2.tok _,rfl,q1⟩
end
def pN (kvs:List (Key×V)):It:=⟨λi _=>i<kvs.length,λi H x H'=>H'=H/\∃kv,kvs[i]?=some kv/\x=kV kv.1,λi _=>kvs.length<=i⟩
theorem Mt {d}{o}{vs}{ep:Nat}(hob:pO P w o vs ep)(rel:KV kvs vs)(hk:K.lookup d=some o) :
  U6 P w K tg (pN kvs) [it] it (λi h=>h.IsKeyIter it d i vs.length ep) where
 mem:=by simp
 obj:=λi h st b J=>by
  have e:b=it:=by simpa using J
  subst e;obtain⟨q,e,c,dd⟩:=st;exact⟨q,e,λv z=>by rw[dd] at z;cases z⟩
 keep:=λi h h' ⟨q,e,r⟩ k=>⟨q,k it (by simp) q e,r⟩
 item:=by
  intro X hP hw hK hc i pins s σ H E I hf st hi;subst hP hw hK;have hi:i<kvs.length:=hi;obtain⟨es,o1,o2,o3,o4,o5⟩:=hob;obtain⟨f0,f1,f2,f3,f4,f5⟩:=hf it (by simp);have gd:s.heap.get? d=some o:=I.kIn d o hk;have hm:s.heap.DictAt (QU X.prog X.w) d vs ep:=⟨o,es,gd,o1,o2,o3,o4,o5⟩
  have hl:=rel.length;obtain⟨⟨k,u⟩,hx⟩:∃kv,vs[i]?=some kv:=⟨_,Ax (by omega)⟩
  have a0:(kvs.map (·.1))[i]?=some k:=by rw[rel.keys,AS,hx];rfl
  rw[AS] at a0;obtain⟨kv,a4,rfl⟩:=A8.mp a0;refine wpAny_pyNext_dict_item st hm hx λa5 h' hk U sb=>?_
  have I1:Inv X pins σ H { s with heap:=h' }:=I.turned (t':=s.toks) (λb o J e=>(sb.2 b J).trans e) f0 f1 f3 f4 f5;obtain⟨q,e,c,dd⟩:=id U;exact⟨a5,rfl,UK (s:={ s with heap:=h' }) e c dd (by decide) ⟨kV kv.1,H,I1,FR hk,⟨rfl,kv,a4,rfl⟩,U,λb J=>(hf b J).1⟩⟩
 done:=by
  intro X hP hw hK hc i pins s σ H E I hf st hi;subst hP hw hK;have hi:kvs.length<=i:=hi;obtain⟨es,o1,o2,o3,o4,o5⟩:=hob;obtain⟨f0,f1,f2,f3,f4,f5⟩:=hf it (by simp);have gd:s.heap.get? d=some o:=I.kIn d o hk;have hm:s.heap.DictAt (QU X.prog X.w) d vs ep:=⟨o,es,gd,o1,o2,o3,o4,o5⟩
  have hl:=rel.length;exact wpAny_pyNext_dict_end (I.ok.hd hc) st hm (Il (by omega)) λh' eb=>⟨rfl,I.turned (t':=s.toks) (λb o J e=>eb b o J e) f0 f1 f3 f4 f5⟩
 self:=λ_ _ _ _ _ st h=>wpAny_pyIter_keyiter st h
def Cd (kvs:List (Key×V)):TI:=λ_ H R=>R (pN kvs) H
theorem PD {n}{a}(k:KDic X.w X.K X.mg n a kvs)(hg:Gl X n:=by rfl)(hd:(n==("__debug__":Str))=false:=by decide):PI X tg (.Name n pos) (Cd kvs):=by
 intro pins s σ H R I h;refine Kw (Bv (pos:=pos) k hg hd pins s σ H (λx H2=>x=.ref a/\H2=H) I ⟨rfl,rfl⟩) λv J ⟨x,H1,U,r1,ex,eH⟩=>?_
 subst ex;subst eH;cases r1;obtain⟨hs,o,vs,ep,gd,a0,a4,hm⟩:=k.at U;obtain⟨_,o',a6,a8,hk,a7,a5,_⟩:=k;have e:=U.kIn a o' hk;rw[gd] at e;cases e;refine wpAny_pyIter_dict hs hm ?_;have hn:H1 J.heap.objs.size=none:=U.hok.fresh (Au _);refine⟨J.heap.objs.size,[J.heap.objs.size],_,_,_,rfl,U.kept (t':=J.toks) λb o e=>AI _ e,Mt a0 a4 hk,⟨_,Ia _ rfl,rfl,rfl⟩,λb hb=>?_,h⟩;have e:b=J.heap.objs.size:=by simpa using hb
 subst e;exact U.fpOk (Au _) hn
theorem Ab {D}(Pv:Nat->St->Hp->Prop)(h0:Pv 0 σ H)
  (hs:∀i kv σ H,kvs[i]?=some kv->Pv i σ H->g (kV kv.1) σ H λJ H2=>tb { D with nx:=Pv (i+1),ct:=Pv (i+1),bk:=D.nx } J H2) (hd:∀σ H,Pv kvs.length σ H->D.nx σ H):Va (pN kvs) g tb D σ H:=by
 refine⟨λi m σ H=>m=kvs.length-i/\i<=kvs.length/\Pv i σ H,⟨kvs.length,by simp,AZ _,h0⟩,?_⟩;rintro i m σ H ⟨rfl,hi,p⟩;rcases Nat.lt_or_ge i kvs.length with hlt|hge
 ·refine .inr ⟨hlt,Pv (i+1),λU H' p'=>⟨kvs.length-(i+1),by omega,rfl,hlt,p'⟩,?_⟩;rintro x H' ⟨rfl,kv,hk,rfl⟩;exact hs i kv σ _ hk p
 ·have e:i=kvs.length:=by omega
  subst e;exact .inl ⟨hge,hd σ H p⟩
theorem Eb {o}(l:List (Str×Tok×Value)){ep:Nat}(ho:o.ExactDict)(hd:o.data=.dict (l.map λe=>(⟨hashStr w e.1,.str e.1 e.2.1,e.2.2⟩:DictEntry)).toArray ep)(nd:(l.map (·.1)).Nodup)(P:Program) :
  pO P w o (l.map λe=>(Sum.inr e.1,e.2.2)) ep:=by
 refine⟨_,ho,hd,?_,?_,?_⟩
 ·intro e he;have he:e∈l.map λe=>(⟨hashStr w e.1,.str e.1 e.2.1,e.2.2⟩:DictEntry):=by simpa using he
  obtain⟨x,_,rfl⟩:=Ii.mp he;exact⟨.inr x.1,WJ x.1 x.2.1,rfl⟩
 ·clear hd nd;simp only[]
  induction l with
  | nil=>exact .nil
  | cons x l J=>exact .cons (WJ x.1 x.2.1) rfl J
 ·rw[IV];have:((λkv:Key×Value=>kv.1) ∘ λe:Str×Tok×Value=>((Sum.inr e.1:Key),e.2.2))=(λx:Str=>(Sum.inr x:Key)) ∘ λe:Str×Tok×Value=>e.1:=rfl
  rw[show(Prod.fst ∘ λe:Str×Tok×Value=>((Sum.inr e.1:Key),e.2.2))=(λx:Str=>(Sum.inr x:Key)) ∘ λe:Str×Tok×Value=>e.1 from rfl,<-IV];exact List.Pairwise.map _ (λa b h e=>h (Sum.inr.inj e)) nd
theorem kds_of {a:Addr}{l:List (Str×Tok×Value)}{es:Array DictEntry}{ep:Nat}(h:K.lookup a=some ⟨.type "dict",none,.dict es ep,#[]⟩)
  (e:es=(l.map λe=>(⟨hashStr w e.1,.str e.1 e.2.1,e.2.2⟩:DictEntry)).toArray) (nd:(l.map (·.1)).Nodup) (r:KV kvs (l.map λe=>(Sum.inr e.1,e.2.2))) (hs:(a==sysModules)=false):rC w K a kvs:=
 ⟨_,_,_,h,λP=>Eb l ⟨rfl,rfl,rfl⟩ (by rw[e]) nd P,r,hs⟩
theorem SE {a b}(Pv)(hz:xs.length=ys.length)(h0:Pv 0 [] σ0 H)(hl:∀i acc σ H,Pv i acc σ H->Kv K H a xs/\Kv K H b ys)(hn:xs.length<=1000)
  (hs:∀i x y acc σ H p,xs[i]?=some x->ys[i]?=some y->acc.length<=i->Pv i acc σ H->H p=none->g (.ref p) σ (upd H p (.tup [x,y])) λJ H2=>tt J H2 λb H3=>if b=true then te J H3 λv H4=>CN Pv xs.length i (acc++[v]) J H4 else CN Pv xs.length i acc J H3)
  (hd:∀acc σ H,Pv xs.length acc σ H->∀p,H p=none->Q (.ref p) (upd H p (.lst acc))):U7 (pL K a b) g tt te σ0 H Q:=by
 refine⟨λi m acc σ H=>m=xs.length-i/\i<=xs.length/\acc.length<=i/\Pv i acc σ H,⟨xs.length,by simp,AZ _,Au _,h0⟩,?_⟩;rintro i m acc σ H ⟨rfl,hi,ha,p⟩;obtain⟨q1,U⟩:=hl i acc σ H p;by_cases a0:i<xs.length
 ·refine .inr ⟨⟨xs,ys,xs[i],ys[i]'(by omega),q1,U,by simp[a0],Ax _⟩,Zl (by omega),λx H' y=>?_⟩;obtain⟨p',x',y',rfl,hp,rfl,hx,hy⟩:=y;exact hs i x' y' acc σ _ p' (hx xs q1) (hy ys U) ha p hp
 ·have e:i=xs.length:=by omega
  subst e;exact .inl ⟨⟨xs,ys,q1,U,.inl (Au _)⟩,hd acc σ H p⟩
theorem DJ (x y):Txt.split x y≠[]:=by
 unfold Txt.split;split
 ·simp
 ·split
  ·simp
  ·rw[StrLaws.partsBetween_eq];obtain⟨p,r,e⟩:=StrLaws.partsFrom_ne x y.length 0 (Builtin.Str.occurrences x y 0 x.length (x.length+1));rw[e];simp
theorem Rj {c:Nat}:∀{x y a b},c∉x->c∉y->x++c::a=y++c::b->x=y/\a=b
 | [],[],_,_,_,_,h=>⟨rfl,(List.cons.inj h).2⟩
 | [],d::y,_,_,_,hy,h=>absurd (AF.mpr (.inl (List.cons.inj h).1)) hy
 | d::x,[],_,_,hx,_,h=>absurd (AF.mpr (.inl (List.cons.inj h).1.symm)) hx
 | d::x,e::y,a,b,hx,hy,h=>by
  obtain⟨h1,h2⟩:=List.cons.inj h;obtain⟨J,U⟩:=Rj (λm=>hx (AE _ m)) (λm=>hy (AE _ m)) h2;exact⟨by rw[h1,J],U⟩
theorem Vl {y}(h:x.cps.toList=y.cps.toList):x=y:=by
 obtain⟨xs⟩:=x;obtain⟨ys⟩:=y
 congr 1
 exact Array.toList_inj.mp h
theorem Wq (a b:Str):(a++b).cps.toList=a.cps.toList++b.cps.toList:=by
 show(a.cps++b.cps).toList=_;rw[Gg]
theorem BB (x z:Str)(c:Nat):(x++⟨#[c]⟩++z).cps.toList=x.cps.toList++c::z.cps.toList:=by
 rw[Wq,Wq,List.append_assoc];rfl
theorem UH {c:Nat}:∀{a b},a≠[]->b≠[]->(∀z∈a,c∉z.cps.toList)->(∀z∈b,c∉z.cps.toList)->Str.join ⟨#[c]⟩ a=Str.join ⟨#[c]⟩ b->a=b
 | [],_,h,_,_,_,_=>absurd rfl h
 | _,[],_,h,_,_,_=>absurd rfl h
 | [x],[y],_,_,_,_,e=>by have e:x=y:=e;rw[e]
 | [x],y::y2::r,_,_,hx,_,e=>by
  have e:x=y++⟨#[c]⟩++Str.join ⟨#[c]⟩ (y2::r):=e;exact absurd (by rw[e,BB];exact Ic _ AH) (hx x AH)
 | x::x2::r,[y],_,_,_,hy,e=>by
  have e:x++⟨#[c]⟩++Str.join ⟨#[c]⟩ (x2 :: r)=y:=e;exact absurd (by rw [<-e,BB];exact Ic _ AH) (hy y AH)
 | x::x2::r,y::y2::r2,_,_,hx,hy,e=>by
  have e:x++⟨#[c]⟩++Str.join ⟨#[c]⟩ (x2::r)=y++⟨#[c]⟩++Str.join ⟨#[c]⟩ (y2::r2):=e;have e:=congrArg (λs:Str=>s.cps.toList) e;simp only[BB] at e;obtain⟨h1,h2⟩:=Rj (hx x AH) (hy y AH) e;have U:=UH (a:=x2::r) (b:=y2::r2) (by simp) (by simp) (λz J=>hx z (AE _ J)) (λz J=>hy z (AE _ J)) (Vl h2);rw[Vl h1,U]
theorem Gr {c:Nat}{ws}(h0:ws≠[])(h:∀z∈ws,c∉z.cps.toList):Txt.split (Txt.join ⟨#[c]⟩ ws) ⟨#[c]⟩=ws:=by
 refine UH (DJ _ _) h0 (StrLaws.split_free _ c) h ?_;rw[StrLaws.join_split];exact StrLaws.glued_eq_join _ _
theorem BW (sep)(ws):(Txt.join sep ws).length<=(ws.map (·.length)).sum+ws.length*sep.length:=by
 show(Builtin.Str.glued sep ws).length<=_;rw[StrLaws.glued_eq_join];exact StrLaws.join_length_le sep ws
theorem PL {k:Nat}{sp}{p}(G:Kk X.prog X.w X.K X.mg X.base k C ps sp)(hr:Room (k+1) X.A)(hg:Gl X x)(hm:X.mg x=some (.ref C))(hdb:(x==("__debug__":Str))=false:=by decide):PE X (.Call (.Name x p) [] [] pos) (YG C sp [] E0 W0):=by
 obtain⟨f,fd,F,b,M⟩:=G.ex;exact Bu M F hr hg hm b .nil KW hdb
end L2
namespace L2
open PySem PyProof.Rows
theorem Kc {a s:Nat}{ps}(h:Zf (-1) ps=true)(hs:∀p∈ps,Bd a p.1/\RB s p.2):∀(i:Nat) p,ps[i]?=some p->RX (a+s+6+(s+2)*i) ((s+1)*i+1) (QT ps p.1)
 | 0,p,hp=>by
  have e:QT ps p.1=0:=by
   cases ps with
   | nil=>cases hp
   | cons q r=>cases hp;exact ZW (p:=p) (r:=r) rfl h _ (by grind)
  rw[e];refine⟨?_,?_⟩
  ·exact(show Bd 1 (0:Int) by unfold Bd;decide).mono (by omega)
  ·exact(show Bd 1 ((1:Nat):Int) by unfold Bd;decide).mono (by omega)
 | i+1,p,hp=>by
  obtain⟨q,U⟩:∃q,ps[i]?=some q:=⟨_,Ax (by have:=Qt hp;omega)⟩
  have ih:=Kc h hs i q U;have lt:=(XQ (p':=p) h U).2 hp;have e:=Ke h i q p.1 U (by have:=ZZ lt;grind) (λp' J=>by rw[hp] at J;cases J;grind);rw[e];have c:(p.1:Rat)-(q.1:Rat)=((p.1-q.1:Int):Rat):=by rw[Rat.intCast_sub]
  rw[c];have s1:=(hs p (AG hp)).1;have s2:=hs q (AG U);have d1:RX (a+1) 1 ((p.1-q.1:Int):Rat):=RX.int ((s1.sub s2.1).mono (by omega));have d2:RX s s q.2:=s2.2;have m1:(s+2)*(i+1)=(s+2)*i+(s+2):=Nat.mul_succ _ _;have m2:(s+1)*(i+1)=(s+1)*i+(s+1):=Nat.mul_succ _ _;have m3:(s+1)*i<=(s+2)*i:=Nat.mul_le_mul_right _ (by omega);exact(ih.add (d2.mul d1)).mono (by omega) (by omega)
end L2
namespace L2
open PySem PySem.W PyProof.Rows
end L2
namespace L2
open PySem PyProof.Rows PySem.Calls PySem.W
structure FunD (K:W.Frag)(x qual:Str)(st:Stmt)(f:Addr)(fd:FuncData):Prop where
 ex:∃(oc:Value) (od:Option Addr) (dV kV doc pm:Value) (an:Option Addr) (cdv ct:Value) (osl:Array (Option Value)),
  fd=W.fnOf x qual (ZD st) (Q9 st) (Qx st) dV kV doc pm an cdv ct/\K.lookup f=some ⟨oc,od,.func fd,osl⟩/\W.codeIn K cdv qual=true
 kp:W.keepIn K (.ref f)=true
section
variable {P:Program} {w:World} {K:W.Frag} {mg:Str->Option Value} {base:Heap}
theorem FunD.ok {f}{N}{k:Nat}{sp}(F:FunD K x qual st f fd)(S:ZP N ps (Qx st))(len:∀vs H Q E,sp vs H Q E->vs.length=ps.length)
  (hbody:∀(cdv:Value) (A:Around) (outer:List Env) (s:Shared) (H:Hp) (vs:List V) (Q:VK) (E:XK),Room k (A.deeper (envOfC qual (Qx st) s.heap.objs.size f cdv))->sp vs H Q E ->
   ∃t,PSs (YE OX P w K mg base N qual (Qx st) f cdv A outer s H E).nox (Q9 st) t/\t { nx:=λ_ H'=>Q .non H',rt:=Q } (start N vs) H):FnOk P w K mg base OX (k+1) f fd ps sp:=by
 obtain⟨oc,od,dV,kV,doc,pm,an,cdv,ct,a0,rfl,lk,J⟩:=F.ex;refine B5 lk J S len λA outer s H vs Q E hr U=>?_
 obtain⟨t,h,q⟩:=hbody cdv A outer s H vs Q E hr U;exact⟨t,h.nox,q⟩
theorem Tn {f}{osl}{dV kV ct}(l:K.lookup f=some ⟨oc,od,.func (W.fnOf x qual (ZD st) (Q9 st) (Qx st) dV kV doc pm an cdv ct),osl⟩)
  (c:W.codeIn K cdv qual=true) (k:W.keepIn K (.ref f)=true):FunD K x qual st f (W.fnOf x qual (ZD st) (Q9 st) (Qx st) dV kV doc pm an cdv ct):=⟨⟨oc,od,dV,kV,doc,pm,an,cdv,ct,osl,rfl,l,c⟩,k⟩
end
abbrev qr:=V->V->V->V->V->V->V->V->V->V->Hp->VK->Prop
def Ej (φ:qr):Sp:=λvs H Q _=>∃a b c d e f g h i j,vs=[a,b,c,d,e,f,g,h,i,j]/\φ a b c d e f g h i j H Q
def Sp10M (φ:qr):Sp:=λvs H Q _=>match vs with|[a,b,c,d,e,f,g,h,i,j]=>φ a b c d e f g h i j H Q|_=>False
theorem Sp10M.imp {φ}(vs)(H)(Q)(E:XK)(h:Sp10M φ vs H Q E):Ej φ vs H Q E:=by
 unfold Sp10M at h;split at h
 ·exact⟨_,_,_,_,_,_,_,_,_,_,rfl,h⟩
 ·exact h.elim
theorem SK {φ}{g i j}{E}:Sp10M φ [a,b,c,d,e,f,g,h,i,j] H Q E=φ a b c d e f g h i j H Q:=rfl
theorem SR {N}{g i j}:start N [a,b,c,d,e,f,g,h,i,j]=some a::some b::some c::some d::some e::some f::some g::some h::some i::some j::List.replicate (N.length-10) none:=rfl
end L2
namespace L2
open PySem PySem.Spec PyProof.Rows
def L3 (t t':TE):TE:=λσ H Q=>t σ H Q∨t' σ H Q
theorem Xp {e}{t t'}(h:PE X e t)(h':PE X e t'):PE X e (L3 t t'):=λpins s σ H Q I z=>z.elim (h pins s σ H Q I) (h' pins s σ H Q I)
def Sk (K:W.Frag):R2:=λx y H Q=>∃p r xs ys,x=.ref p/\y=.ref r/\Kv K H p xs/\Kv K H r ys/\xs.length≠ys.length/\Q (.bl false) H
theorem PZ (hu:X.A.units+64<cLine):OpR X (compareOp .Eq) (Sk X.K):=by
 intro pins s σ H x y v u Q I rx ry h;obtain⟨p,r,xs,ys,rfl,rfl,h1,h2,hl,q⟩:=h;obtain rfl:=rx.ref_of;obtain rfl:=ry.ref_of;obtain⟨its,rI,pt,_⟩:=I.list h1;obtain⟨its',J,U,_⟩:=I.list h2;have z1:its.length=xs.length:=rI.length.symm;have z2:its'.length=ys.length:=J.length.symm;exact SeqAt.eq_list_lengthsAt pt.isList U.isList (by simp;omega) (by omega) ⟨.bl _,H,I,rfl,q⟩
def DM (K:W.Frag):R2:=λx y H Q=>sEq K x y H Q∨Sk K x y H Q
theorem Ad (K){X}(h:X.K=K)(hu:X.A.units+64<cLine):OpR X (compareOp .Eq) (DM K):=(qh K h hu).or (by subst h;exact PZ hu)
end L2
namespace L2
open PySem PySem.Spec PyProof.Rows PySem.W Builtin Builtin.ObjectAttr Builtin.Getset_descriptor
end L2
namespace L2
open PySem PySem.Spec PyProof.Rows
structure SI (P:Program)(w:World)(K:W.Frag)(mg:Str->Option Value)(base:Heap)(k:Nat)(C:Addr)(ps:List Str)(dvs:List V)(sp:Sp):Prop where
 ex:∃(f:Addr) (fd:FuncData) (ds:List Value),FnOk P w K mg base OX k f fd ps sp/\Binds K fd ps ds/\Vals dvs ds/\Mk K C f
theorem PM {k:Nat}{sp}{p}{e}{t}{dvs}(G:SI X.prog X.w X.K X.mg X.base k C ps dvs sp)(hr:Room (k+1) X.A)(hg:Gl X x)(hm:X.mg x=some (.ref C))(ha:PA X (e::es) t)(hdb:(x==("__debug__":Str))=false:=by decide)
  (he:starEach (e::es) X.env=(false,eval e X.env)::starEach es X.env:=by rfl) (hpl:(backTo pos (starEach es X.env)).any (·.1)=false:=by rfl):PE X (.Call (.Name x p) (e::es) [] pos) (YG C sp dvs E0 t):=by
 obtain⟨f,fd,ds,F,b,J,M⟩:=G.ex;exact NJ M F hr hg hm b J KW ha hdb he hpl
theorem MD {S}{a}{o}(l:K.lookup a=some o){e k}:W.peek K S (Sem.load a e k:Sem α)=W.peek K S (k o):=by
 simp only[W.peek];rw[l]
theorem U2 {ds}{da}{o}(l:K.lookup da=some o)(n:Nat)(hn:ps.length=n+ds.length)(h:∀us:List Value,us.length=n->∃e k,bindArgs fd ⟨us,[]⟩=Sem.load da e k/\∀S,W.peek K S (k o)=some (ps.zip (us++ds))):Binds K fd ps ds:=λs us kIn J=>by
 rw[Aq] at J;obtain⟨e,k,e1,e2⟩:=h us (by omega);exact W.kp_binds kIn λS=>by rw[e1,MD l];exact e2 S
end L2
namespace My
open PySem PyProof.Rows L2
local macro_rules | `(tactic| walk_at "r1") => `(tactic| first | dsimp only [EY, EX, EW, EV, EU, SR, List.length_cons, List.length_nil, List.replicate, Nat.reduceSub, Nat.reduceAdd, Es, SL, CJ, CG, EL, EC, CI, Ez, CH, SO, SN, EJ, EH, EK, EI, EF, ED, EG, EE, SM, RK, Ey, Ex, Ew, Eu, Et, SK, EB, EA, rH, CQ, CK, Dv, CM, E7, SU, RP, ES, SQ, Hh, RQ, Dx, CP, E6, Dn, SV, EZ, T3, Hn, Dm, RN, Dw, SZ, E5, E8, Ho, Hq, CT, ER, Df, RM, ET, EN, List.getElem?_cons_zero, List.getElem?_cons_succ, List.set_cons_zero, List.set_cons_succ, List.nil_append, List.cons_append, List.append_nil, if_true, if_false, reduceCtorEq, Int.reduceEq, Int.cast_ofNat_Int, Int.reduceLT, Int.reduceLE, not_true, Bool.not_true, Bool.not_false, Bool.not_eq_true'] | simp only [CS, RL, CU, SS, EO, Dj, Hg, Bool.false_eq_true, Bool.true_eq_false, not_false_eq_true, decide_eq_true_eq, decide_eq_false_iff_not, Bool.not_eq_true', if_true, if_false, not_true, reduceCtorEq, Int.reduceEq, Int.reduceLT, Int.reduceLE, Bool.not_true, Bool.not_false])
local macro_rules | `(tactic| walk_at "rd") => `(tactic| (walk_at "r1"; repeat walk_at "r1"))
local macro_rules | `(tactic| walk_at "go") => `(tactic| repeat (first | refine YM (by assumption) rfl ?_ | refine Zg (by assumption) rfl ?_ | refine QO (by assumption) rfl ?_ | refine S9 (by assumption) ?_ | refine Q7 (by assumption) ?_ | refine Jr (TyOf.int _) (by rfl) ?_ | refine Dh (by assumption) ?_ | refine Jr (TyOf.bl _) (by rfl) ?_ | walk_at "rd"))
local macro_rules | `(tactic| left) => `(tactic| walk_at "go")
structure OP where
 (zA zB zC zD zE zF zG zH zI zJ zK zL zM zN zO zP zQ zR zS zT zU:Addr)
def t:OP:=⟨31,75,87,106,398,426,461,494,529,562,595,621,656,689,782,136,261,262,692,693,694⟩
def UC:List (Key×V):=[(Sum.inr "kind",.str "NAME"),(Sum.inr "base",.str "AMOUNT"),(Sum.inr "each",.str "AMOUNT LOW HIGH"),(Sum.inr "rent",.str "RATE MOST"),(Sum.inr "from",.str "MANY LOW HIGH"),(Sum.inr "upto",.str "MANY LOW HIGH"),(Sum.inr "pay",.str "RATE LOW HIGH"),(Sum.inr "counts",.str "NAME RATE"),(Sum.inr "off",.str "LIMIT RATE"),(Sum.inr "until",.str "LIMIT"),(Sum.inr "round",.str "UNIT WAY"),(Sum.inr "cap",.str "LIMIT EACH NAME")]
def UB:List (Key×V):=[(Sum.inr "base",.str "parts"),(Sum.inr "each",.str "parts"),(Sum.inr "rent",.str "parts"),(Sum.inr "from",.str "terms"),(Sum.inr "upto",.str "terms"),(Sum.inr "pay",.str "pays"),(Sum.inr "counts",.str "counts"),(Sum.inr "off",.str "offs"),(Sum.inr "until",.str "untils"),(Sum.inr "round",.str "rounds")]
def kd_LONGEST:List (Key×V):=[(Sum.inr "parts",.int 6),(Sum.inr "terms",.int 6),(Sum.inr "pays",.int 4),(Sum.inr "offs",.int 6),(Sum.inr "untils",.int 1),(Sum.inr "rounds",.int 1)]
def ixG:List (Nat×Str):=List.flatten [[(13,"is_name"),(14,"of_ages"),(15,"heads"),(16,"pay_of"),(17,"rent_of"),(20,"common_divisor"),(21,"fraction"),(22,"plus"),(23,"total_of"),(24,"minus"),(25,"times"),(26,"divided"),(27,"below"),(28,"lesser"),(29,"greater"),(30,"floor_of"),(31,"ceil_of"),(32,"rounded"),(37,"is_written_whole"),(38,"whole_read"),(39,"rate_read"),(40,"rate_shown"),(41,"name_read"),(46,"most_of"),(47,"unit_read"),(48,"way_read"),(49,"word_read"),(50,"words_read"),(52,"come_to"),(53,"merged")],[(54,"index_at"),(55,"straight"),(56,"check_limits"),(57,"bands"),(58,"bend_at"),(64,"row_of"),(78,"form_of"),(79,"values_of"),(80,"thing_of"),(81,"new_draft"),(82,"fits_in"),(83,"kind_of"),(85,"read"),(86,"rows_of_kind"),(87,"rows_of"),(89,"_law_cell"),(90,"_law_whole"),(91,"_law_mixed"),(92,"_law_common"),(93,"_law_made"),(94,"_law_is"),(95,"_law_name"),(96,"_law_home"),(97,"_law_rate"),(98,"_law_shown"),(99,"_law_ages"),(100,"_law_amount"),(101,"_law_pool"),(102,"_law_part"),(103,"_law_term")],[(104,"_law_words"),(105,"_law_limit"),(106,"_law_put"),(107,"_law_cap"),(108,"_law_kind"),(109,"_law_rows"),(110,"_law_lacking"),(111,"_law_heads"),(112,"_law_sum"),(113,"_law_taken"),(114,"_law_rounds"),(115,"_law_worth"),(116,"_law_met"),(117,"_law_own"),(118,"_law_answers"),(119,"_law_office"),(120,"law")]]
def ixM:List (Nat×Addr×Str):=List.flatten [[(6001,t.zE,"full_of"),(6002,t.zE,"may_have"),(6003,t.zE,"owns"),(6004,t.zE,"taken_off"),(6005,t.zE,"greatest_rate"),(6006,t.zE,"amount_from"),(6100,t.zF,"__init__"),(6101,t.zF,"room_for"),(6200,t.zG,"__init__"),(6201,t.zG,"kind"),(6600,t.zI,"__init__"),(6601,t.zI,"worth"),(6602,t.zI,"row"),(6700,t.zJ,"__init__"),(6701,t.zJ,"worth"),(6702,t.zJ,"row"),(6800,t.zK,"__init__"),(6801,t.zK,"worth"),(6802,t.zK,"row"),(7000,t.zM,"__init__"),(7001,t.zM,"met"),(7002,t.zM,"row"),(7100,t.zN,"__init__"),(7101,t.zN,"met"),(7102,t.zN,"row"),(8400,t.zO,"__init__"),(8401,t.zO,"titles_told"),(8402,t.zO,"fits"),(8403,t.zO,"caps_none_twice"),(8404,t.zO,"take")],[(8405,t.zO,"office_told")]]
def sQ (K:W.Frag)(mg:Str->Option Value)(n:Str)(st:Stmt):Prop:=∃x q f fd,mg n=some (.ref f)/\Fun K x q st f fd
def sP (K:W.Frag)(C:Addr)(n:Str)(st:Stmt):Prop:=∃x q f fd,W.findIn K (.ref C) n=some (some (.ref f))/\W.isFn K (.ref f)=true/\Fun K x q st f fd/\W.makesIn K C=true/\W.keepIn K (.ref C)=true
structure Tx (w:World)(K:W.Frag)(mg:Str->Option Value):Prop where
 fG:∀p∈ixG,sQ K mg p.2 (top p.1)
 fM:∀p∈ixM,sP K p.2.1 p.2.2 (mS p.1)
 kI:∃(f dA:Addr) (oc:Value) (od an:Option Addr) (sl:Array (Option Value)) (kV dc pm cd ct:Value) (td:Tok) (dn:Nat),W.findIn K (.ref t.zE) "__init__"=some (some (.ref f))/\W.isFn K (.ref f)=true/\K.lookup f=some ⟨oc,od,.func (W.fnOf "__init__" "Kind.__init__" (ZD (mS 6000)) (Q9 (mS 6000)) (Qx (mS 6000)) (.ref dA) kV dc pm an cd ct),sl⟩/\W.codeIn K cd "Kind.__init__"=true/\W.keepIn K (.ref f)=true/\K.lookup dA=some ⟨.type "tuple",none,.seq #[.none,.none,.str "down" td] dn,#[]⟩/\W.makesIn K t.zE=true/\W.keepIn K (.ref t.zE)=true
 bB:mg "abs"=none
 aX:mg "all"=none
 cM:mg "bool"=none
 dU:mg "enumerate"=none
 cN:mg "int"=none
 aP:mg "isinstance"=none
 aA:mg "len"=none
 aJ:mg "list"=none
 dW:mg "max"=none
 dX:mg "min"=none
 aY:mg "range"=none
 dY:mg "set"=none
 dZ:mg "sorted"=none
 aI:mg "str"=none
 bC:mg "sum"=none
 bD:mg "tuple"=none
 cP:mg "zip"=none
 jO:mg "HelpError"=some (.ref t.zA)
 jP:mg "Unknown"=some (.ref t.zB)
 aK:mg "NoWord"=some (.ref t.zC)
 jQ:mg "NoRow"=some (.ref t.zD)
 eA:mg "Kind"=some (.ref t.zE)
 eB:mg "Cap"=some (.ref t.zF)
 eD:mg "Office"=some (.ref t.zG)
 jR:mg "Part"=some (.ref t.zH)
 eE:mg "Base"=some (.ref t.zI)
 eF:mg "Each"=some (.ref t.zJ)
 eG:mg "Rent"=some (.ref t.zK)
 jS:mg "Term"=some (.ref t.zL)
 eI:mg "From"=some (.ref t.zM)
 eJ:mg "Upto"=some (.ref t.zN)
 eK:mg "Reader"=some (.ref t.zO)
 aN:W.excIn K t.zC Af "ValueError.__new__"=true
 eM:Kj mg "LETTERS" (.str "abcdefghijklmnopqrstuvwxyz")
 eN:Kj mg "LONGEST_NAME" (.int 8)
 eO:Kj mg "OLDEST" (.int 150)
 cQ:Kj mg "MOST_COINS" (.int 1000000000)
 aL:KTup K mg "NOUGHT" t.zP [.int 0,.int 1]
 eQ:Kj mg "FIGURES" (.str "0123456789")
 eR:Kj mg "MOST_FIGURES" (.int 10)
 bK:Kj mg "MOST_OF_RATES" (.int 9999)
 cR:KTup K mg "AGES" t.zQ [.str "LOW",.str "HIGH"]
 eT:Kj mg "MOST_HEADS" (.int 60)
 cT:KTup K mg "WAYS" t.zR [.str "down",.str "up",.str "near"]
 cU:KDic w K mg "FORMS" t.zS UC
 bL:KDic w K mg "LISTS" t.zT UB
 cV:KDic w K mg "LONGEST" t.zU kd_LONGEST
 eU:Kj mg "MOST_KINDS" (.int 8)
 eW:Kj mg "MOST_CAPS" (.int 4)
 aB:Cls K t.zE
 jT:mM K t.zE
 bM:NoAttr K t.zE "title"
 bN:NoAttr K t.zE "parts"
 bO:NoAttr K t.zE "terms"
 bP:NoAttr K t.zE "pays"
 cW:NoAttr K t.zE "counts"
 aT:NoAttr K t.zE "offs"
 cX:NoAttr K t.zE "limit"
 bE:NoAttr K t.zE "unit"
 bQ:NoAttr K t.zE "way"
 aM:Cls K t.zF
 jU:mM K t.zF
 bR:NoAttr K t.zF "limit"
 bS:NoAttr K t.zF "each"
 bT:NoAttr K t.zF "titles"
 aR:Cls K t.zG
 jV:mM K t.zG
 bU:NoAttr K t.zG "kinds"
 bV:NoAttr K t.zG "caps"
 aU:Cls K t.zI
 jW:mM K t.zI
 bW:NoAttr K t.zI "amount"
 aE:Cls K t.zJ
 jX:mM K t.zJ
 bX:NoAttr K t.zJ "amount"
 bY:NoAttr K t.zJ "low"
 bZ:NoAttr K t.zJ "high"
 aO:Cls K t.zK
 jY:mM K t.zK
 c7:NoAttr K t.zK "rate"
 c8:NoAttr K t.zK "most"
 aF:Cls K t.zM
 jZ:mM K t.zM
 c9:NoAttr K t.zM "many"
 cA:NoAttr K t.zM "low"
 cB:NoAttr K t.zM "high"
 aG:Cls K t.zN
 kJ:mM K t.zN
 cD:NoAttr K t.zN "many"
 cE:NoAttr K t.zN "low"
 cG:NoAttr K t.zN "high"
 aD:Cls K t.zO
 kK:mM K t.zO
 aQ:NoAttr K t.zO "drafts"
 aZ:NoAttr K t.zO "caps"
 bF:NoAttr K t.zO "asked_for"
section
variable {X:Cx} {x:Str} {p pos pos':Pos} {e a b:Expr} {es:List Expr} {te ta tb:TE} {tl:TA}
def Km (he0:PE X e0 te0)(se0:starEach [e0] X.env=(false,eval e0 X.env)::starEach [] X.env:=by rfl):=QJ he0 QE se0
def Kq (he0:PE X e0 te0)(he1:PE X e1 te1)(se0:starEach [e0,e1] X.env=(false,eval e0 X.env)::starEach [e1] X.env:=by rfl)(se1:starEach [e1] X.env=(false,eval e1 X.env)::starEach [] X.env:=by rfl):=QJ he0 (QJ he1 QE se1) se0
def Lu (he0:PE X e0 te0)(he1:PE X e1 te1)(he2:PE X e2 te2)(se0:starEach [e0,e1,e2] X.env=(false,eval e0 X.env)::starEach [e1,e2] X.env:=by rfl)(se1:starEach [e1,e2] X.env=(false,eval e1 X.env)::starEach [e2] X.env:=by rfl)(se2:starEach [e2] X.env=(false,eval e2 X.env)::starEach [] X.env:=by rfl):=QJ he0 (QJ he1 (QJ he2 QE se2) se1) se0
def lU {e3:Expr}{te3:TE}(he0:PE X e0 te0)(he1:PE X e1 te1)(he2:PE X e2 te2)(he3:PE X e3 te3)(se0:starEach [e0,e1,e2,e3] X.env=(false,eval e0 X.env)::starEach [e1,e2,e3] X.env:=by rfl)(se1:starEach [e1,e2,e3] X.env=(false,eval e1 X.env)::starEach [e2,e3] X.env:=by rfl)(se2:starEach [e2,e3] X.env=(false,eval e2 X.env)::starEach [e3] X.env:=by rfl)(se3:starEach [e3] X.env=(false,eval e3 X.env)::starEach [] X.env:=by rfl):=QJ he0 (QJ he1 (QJ he2 (QJ he3 QE se3) se2) se1) se0
def oR {e3:Expr}{te3:TE}{e4:Expr}{te4:TE}(he0:PE X e0 te0)(he1:PE X e1 te1)(he2:PE X e2 te2)(he3:PE X e3 te3)(he4:PE X e4 te4)(se0:starEach [e0,e1,e2,e3,e4] X.env=(false,eval e0 X.env)::starEach [e1,e2,e3,e4] X.env:=by rfl)(se1:starEach [e1,e2,e3,e4] X.env=(false,eval e1 X.env)::starEach [e2,e3,e4] X.env:=by rfl)(se2:starEach [e2,e3,e4] X.env=(false,eval e2 X.env)::starEach [e3,e4] X.env:=by rfl)(se3:starEach [e3,e4] X.env=(false,eval e3 X.env)::starEach [e4] X.env:=by rfl)(se4:starEach [e4] X.env=(false,eval e4 X.env)::starEach [] X.env:=by rfl):=QJ he0 (QJ he1 (QJ he2 (QJ he3 (QJ he4 QE se4) se3) se2) se1) se0
def LD (K:W.Frag)(ha:PE X a ta)(hb:PE X b tb)(h:X.K=K:=by rfl)(hs:Mm b:=by exact λ_ _=>rfl):PE X (.Subscript a b pos) (OK (lF K) ta tb):=D3 (rT K h) ha hb hs
def Ko (K:W.Frag)(i:Nat){c:Int}{j}(h:X.K=K:=by rfl)(hN:X.N[i]?=some x:=by rfl)(hv:oS X.env.scope x:=by first|exact Or.inl rfl|exact Or.inr (Or.inl rfl)|exact Or.inr (Or.inr rfl))(hd:(x==("__debug__":Str))=false:=by decide)(hcd:(x==("__classdict__":Str))=false:=by decide):PE X (.Subscript (.Name x p) (.Constant (.int c) j pos') pos) (OK (lF K) (Zp i) (tC (.int c))):=LD K (pu i hN hv hd hcd) Qe h
def Ks (i:Nat)(he:PE X e te)(hN:X.N.Nodup:=by first|assumption|exact of_decide_eq_true (by kernel_rfl))(hi:X.N[i]?=some x:=by rfl)(hx:mL X.env.scope x:=by first|exact Or.inl rfl|exact Or.inr rfl)(hs:swapsWith e (some (.Name x pos')) pos.line X.env=pure false:=by rfl)(hf:X.fn x=true∨X.env.scope.names.lookup x=some .local:=by first|exact .inl rfl|exact .inr rfl|assumption):PS X (.Assign [.Name x pos'] e pos) (Y5 te (Xd i)):=Fd hN hi hx he hs hf
def Ky (i:Nat)(hN:X.N.Nodup:=by first|assumption|exact of_decide_eq_true (by kernel_rfl))(hi:X.N[i]?=some x:=by rfl)(hx:mL X.env.scope x:=by first|exact Or.inl rfl|exact Or.inr rfl)(hf:X.fn x=true∨X.env.scope.names.lookup x=some .local:=by first|exact .inl rfl|exact .inr rfl|assumption):PG X (.Name x pos) (Xd i):=Wb hN hi hx hf
def Kn {k:Nat}{sp:Sp}(C:LB X.prog X.w X.K X.mg X.base k x ps sp)(ha:PA X (e::es) tl)(hr:Room j X.A:=by assumption)(hj:k<=j:=by decide)(hg:Gl X x:=by rfl)(hd:(x==("__debug__":Str))=false:=by decide)(he:starEach (e::es) X.env=(false,eval e X.env)::starEach es X.env:=by rfl)(hpl:(backTo pos (starEach es X.env)).any (·.1)=false:=by rfl):=Ft (p:=p) (pos:=pos) C (LG hr hj) hg ha hd he hpl
def Ku {r:R2}(ho:OpR X (compareOp op) r)(ha:PE X a ta)(hb:PE X b tb)(h:op≠.In:=by decide)(h2:op≠.NotIn:=by decide):PT X (.Compare a [op] [b] pos) (uB (OK r ta tb)):=ZY ho ha hb (BF _ h h2)
def OJ {r:R2}(ho:OpR X (compareOp op) r)(ha:PE X a ta)(hb:PE X b tb)(h:op≠.In:=by decide)(h2:op≠.NotIn:=by decide):PE X (.Compare a [op] [b] pos) (OK r ta tb):=We ho ha hb (BF _ h h2)
def QR (K:W.Frag){j:Nat}(h:X.K=K:=by rfl)(hr:Room j X.A:=by assumption):=qh K h hr.units
def WZ (K:W.Frag){j:Nat}(h:X.K=K:=by rfl)(hr:Room j X.A:=by assumption):=rQ K h hr.units
def WT (K:W.Frag){j:Nat}(h:X.K=K:=by rfl)(hr:Room j X.A:=by assumption):=Ad K h hr.units
def LA (K:W.Frag){f:Str}(he:PE X e te)(h:X.K=K:=by rfl)(hb:attributeBase e f X.env (eval e X.env)=eval e X.env:=by rfl):PE X (.Attribute e f pos) (Y2 K te f):=PP K h he hb
def Ln (K:W.Frag)(hm:X.mg "len"=none)(ha:PE X e te)(h:X.K=K:=by rfl)(hg:Gl X "len":=by rfl)(hs:starEach [e] X.env=(false,eval e X.env)::starEach [] X.env:=by rfl):=QC (p:=p) (pos:=pos) (C8 K h) hg hm boot_len (QJ ha QE hs) (he:=hs)
def Lx {tb:TS}(hi:PI X tg iter wi)(hg:PG X tg g)(hb:PSs X body tb)(hp:PassesOwn (model X.prog X.w) X.A X.env X.xe:=by exact Q0g)(hc:X.calm=true:=by rfl)(hs:∀x,foldedSetIterable iter X.env x=pure x:=by intro _;rfl):PS X (.For tg iter body [] pos) (RY wi g tb):=Ff hp hc hi hg hb hs
def OC {i:Int}{j}:PE X (.UnaryOp .USub (.Constant (.int i) j pos') pos) (pT (sU λi=>.int (-i)) (tC (.int i))):=JC XW Qe
def Lz (N:List Str)(caps:List (Option Nat)){tg elt iter:Expr}{ifs:List Expr}{scope:Scope}{cl:List (Str×Addr)}{wi:TI}{g:TG}{tt:TT}{te:TE}(hi:PI X tg iter wi)(hg:∀{C s H ex},PG (Lw X scope cl N C s H ex) tg g)(ht:∀{C s H ex},nH (Lw X scope cl N C s H ex) ifs tt)(he:∀{C s H ex},PE (Lw X scope cl N C s H ex) elt te)(hc:X.calm=true:=by rfl)(O:XE X scope cl N caps:=by exact Rk)(hs:∀v,foldedSetIterable iter X.env v=pure v:=by intro _;rfl):PE X (.ListComp elt [⟨tg,iter,ifs,0⟩] scope pos) (Y4 caps wi g tt te):=Uq hc O hi (λ_ _ _ _=>hg) (λ_ _ _ _=>ht) (λ_ _ _ _=>he) hs
end
local macro_rules | `(tactic| walk_at "sc") => `(tactic| exact ⟨rfl, rfl, rfl, by decide +kernel, rfl, by decide +kernel, by decide +kernel⟩)
theorem C2 {φ}(vs)(H)(Q)(E:XK)(h:qQ φ vs H Q E):vs.length=1:=by
 obtain⟨_,rfl,_⟩:=h;rfl
theorem C1 {φ}(vs)(H)(Q)(E:XK)(h:qP φ vs H Q E):vs.length=2:=by
 obtain⟨_,_,rfl,_⟩:=h;rfl
theorem C0 {φ}(vs)(H)(Q)(E:XK)(h:pA φ vs H Q E):vs.length=1:=by
 obtain⟨_,rfl,_⟩:=h;rfl
theorem DK {φ}(vs)(H)(Q)(E:XK)(h:Ej φ vs H Q E):vs.length=10:=by
 obtain⟨_,_,_,_,_,_,_,_,_,_,rfl,_⟩:=h;rfl
theorem CZ {φ}(vs)(H)(Q)(E:XK)(h:qN φ vs H Q E):vs.length=2:=by
 obtain⟨_,_,rfl,_⟩:=h;rfl
theorem CY {φ}(vs)(H)(Q)(E:XK)(h:qM φ vs H Q E):vs.length=3:=by
 obtain⟨_,_,_,rfl,_⟩:=h;rfl
theorem CW {φ}(vs)(H)(Q)(E:XK)(h:qL φ vs H Q E):vs.length=4:=by
 obtain⟨_,_,_,_,rfl,_⟩:=h;rfl
theorem CV {φ}(vs)(H)(Q)(E:XK)(h:qK φ vs H Q E):vs.length=5:=by
 obtain⟨_,_,_,_,_,rfl,_⟩:=h;rfl
structure Ar (sp sp':Sp)(m:Nat):Prop where
 im:∀vs H Q E,sp vs H Q E->sp' vs H Q E
 ln:∀vs H Q E,sp' vs H Q E->vs.length=m
theorem Zq {φ}:Ar (Sp1M φ) (pA φ) 1:=⟨Sp1M.imp,C0⟩
theorem Zd {φ}:Ar (Sp2M φ) (qN φ) 2:=⟨Sp2M.imp,CZ⟩
theorem Wp {φ}:Ar (Sp3M φ) (qM φ) 3:=⟨Sp3M.imp,CY⟩
theorem G4 {φ}:Ar (Sp4M φ) (qL φ) 4:=⟨Sp4M.imp,CW⟩
theorem Ag {φ}:Ar (Sp5M φ) (qK φ) 5:=⟨Sp5M.imp,CV⟩
theorem Lj {φ}:Ar (Rp1M φ) (qQ φ) 1:=⟨Rp1M.imp,C2⟩
theorem Ei {φ}:Ar (Rp2M φ) (qP φ) 2:=⟨Rp2M.imp,C1⟩
theorem XO {α}{i:Nat}{a}:∀{l:List (Nat×α)},l.lookup i=some a->(i,a)∈l
 | (j,b)::l,h=>by
  rw[List.lookup_cons] at h;split at h
  ·rename_i e;cases h;rw[beq_iff_eq.mp e];exact .head _
  ·exact .tail _ (XO h)
abbrev pP (st:Stmt)(ps:List Str):Prop:=∀(x q:Str) (kV doc pm:Value) (an:Option Addr) (cdv ct:Value) (us:List Value),us.length=ps.length->bindArgs (W.fnOf x q (ZD st) (Q9 st) (Qx st) .none kV doc pm an cdv ct) ⟨us,[]⟩=pure (ps.zip us)
local macro_rules | `(tactic| walk_at "b") => `(tactic| first | exact fun _ _ _ _ _ _ _ _ us hl => Hd.len1 (P := fun us => bindArgs _ ⟨us, []⟩ = pure (List.zip _ us)) (fun _ => rfl) us hl | exact fun _ _ _ _ _ _ _ _ us hl => Hd.len2 (P := fun us => bindArgs _ ⟨us, []⟩ = pure (List.zip _ us)) (fun _ _ => rfl) us hl | exact fun _ _ _ _ _ _ _ _ us hl => Hd.len3 (P := fun us => bindArgs _ ⟨us, []⟩ = pure (List.zip _ us)) (fun _ _ _ => rfl) us hl | exact fun _ _ _ _ _ _ _ _ us hl => Hd.len4 (P := fun us => bindArgs _ ⟨us, []⟩ = pure (List.zip _ us)) (fun _ _ _ _ => rfl) us hl | exact fun _ _ _ _ _ _ _ _ us hl => Hd.len5 (P := fun us => bindArgs _ ⟨us, []⟩ = pure (List.zip _ us)) (fun _ _ _ _ _ => rfl) us hl)
section
variable {P:Program} {w:World} {K:W.Frag} {mg:Str->Option Value} {base:Heap} {k:Nat} {n:Str} {C:Addr} {ps:List Str} {sp sp':Sp}
abbrev q9 (P:Program)(w:World)(K:W.Frag)(mg:Str->Option Value)(base:Heap)(st:Stmt)(N:List Str)(k:Nat)(sp':Sp):Prop:=∀{q:Str}{f:Addr}{cdv:Value}{A:Around}{outer:List Env}{s:Shared}{vs:List V}{E:XK}(H:Hp) (Q:VK),N.Nodup->Room k (A.deeper (envOfC q (Qx st) s.heap.objs.size f cdv))->sp' vs H Q E->∃t,PSs (YE OX P w K mg base N q (Qx st) f cdv A outer s H E).nox (Q9 st) t/\(t { nx:=λ_ H'=>Q .non H',rt:=Q }) (start N vs) H
theorem QI (T:Tx w K mg)(i:Nat)(N)(c:Ar sp sp' ps.length)(hb:q9 P w K mg base (top i) N k sp')(hn:ixG.lookup i=some n:=by rfl)(S:ZP N ps (Qx (top i)):=by walk_at "sc")(b:pP (top i) ps:=by walk_at "b"):LB P w K mg base (k+1) n ps sp:=by
 obtain⟨x,q,f,fd,a,F⟩:=T.fG _ (XO hn);exact⟨f,fd,(F.ok S c.ln λcdv A outer s H vs Q E J h=>hb H Q S.nd J h).imp c.im,F.binds (b x q),F.kp,a⟩
theorem VT (T:Tx w K mg)(i:Nat)(N)(c:Ar sp sp' ps.length)(hb:∀{q:Str}{f:Addr}{cdv:Value}{A:Around}{outer:List Env}{s:Shared}{vs:List V}{E:XK}(H:Hp) (Q:VK),N.Nodup->Room k (A.deeper (envOfC q (Qx (top i)) s.heap.objs.size f cdv))->sp' vs H Q E->∃t,PSs (YE (CXn P w) P w K mg base N q (Qx (top i)) f cdv A outer s H E) (Q9 (top i)) t/\(t { nx:=λ_ H'=>Q .non H',rt:=Q }) (start N vs) H)(hn:ixG.lookup i=some n:=by rfl)(S:ZP N ps (Qx (top i)):=by walk_at "sc")(b:pP (top i) ps:=by walk_at "b"):W5 P w K mg base (k+1) n ps sp:=by
 obtain⟨x,q,f,fd,a,F⟩:=T.fG _ (XO hn);exact⟨f,fd,(F.okN S c.ln λcdv A outer s H vs Q E J h=>hb H Q S.nd J h).imp c.im,F.binds (b x q),F.kp,a⟩
theorem Xq (T:Tx w K mg)(i:Nat)(N)(c:Ar sp sp' ps.length)(hb:q9 P w K mg base (mS i) N k sp')(hn:ixM.lookup i=some (C,n):=by rfl)(S:ZP N ps (Qx (mS i)):=by walk_at "sc")(b:pP (mS i) ps:=by walk_at "b"):Z7 P w K mg base (k+1) C n ps sp:=by
 obtain⟨x,q,f,fd,a,j,F,_⟩:=T.fM _ (XO hn);exact⟨f,fd,(F.ok S c.ln λcdv A outer s H vs Q E J h=>hb H Q S.nd J h).imp c.im,F.binds (b x q),⟨a,j,F.kp⟩⟩
theorem U0 (T:Tx w K mg)(i:Nat)(N)(c:Ar sp sp' ps.length)(hb:q9 P w K mg base (mS i) N k sp')(hn:ixM.lookup i=some (C,("__init__":Str)):=by rfl)(S:ZP N ps (Qx (mS i)):=by walk_at "sc")(b:pP (mS i) ps:=by walk_at "b"):Kk P w K mg base (k+1) C ps sp:=by
 obtain⟨x,q,f,fd,a,j,F,J,mk⟩:=T.fM _ (XO hn);exact⟨f,fd,(F.ok S c.ln λcdv A outer s H vs Q E U h=>hb H Q S.nd U h).imp c.im,F.binds (b x q),⟨J,a,j,mk⟩⟩
end
theorem Wz:ZP ["self","title","parts","terms","pays","counts","offs","limit","unit","way"] ["self","title","parts","terms","pays","counts","offs","limit","unit","way"] (Qx (mS 6000)):=by walk_at "sc"
theorem HP:ZP ["_law_script","_law_pool_here","_law_kinds","_law_caps","_law_rows_here","_law_home_here","_law_cell_here","_law_place","_law_office_here","_law_some"] ["_law_script"] (Qx (top 120)):=by walk_at "sc"
section
variable {P:Program} {w:World} {K:W.Frag} {mg:Str->Option Value} {base:Heap} (T:Tx w K mg)
seal PSs PS PE PA PI
def Ug (K:W.Frag):Sp:=pA λx H Q=>∃(a:Addr) (ns:List Int),x=.ref a/\Kv K H a (ns.map V.int)/\ns.length<=63/\∀H',Q (.bl true) H'
theorem Ue {a:Addr}{ns:List Int}(hl:ns.length<=63)(_:TQ H)(hS:Kv K H a (ns.map V.int)):Ug K [.ref a] H (λv _=>v=.bl true) λ_ _ _=>False:=⟨_,rfl,a,ns,rfl,hS,hl,λ_=>rfl⟩
inductive m9 (x:V)(y:V)(H)(Q:VK):Prop
 | mk (a b:Int) (h1:x=.int a) (h2:y=.int b) (h3:0<=a) (h4:0<=b) (h5:Q (.int (Int.gcd a b)) H):m9 x y H Q
inductive X1 (x:V)(y:V)(H)(Q:VK):Prop
 | mk (a b:Int) (h1:x=.int a) (h2:y=.int b) (h3:Q (.int (Int.gcd a b)) H):X1 x y H Q
inductive OB (x:V)(y:V)(H)(Q:VK):Prop
 | mk (t b:Int) (h1:x=.int t) (h2:y=.int b) (h3:b≠0) (h4:Bd 9000 b) (h5:∀p,H p=none->Q (.ref p) (upd H p (.tup [.int (fnum t b),.int (fden t b)]))):OB x y H Q
def cl (ns:List Int)(k:Int):Int:=ns.getD k.toNat 0
inductive YZ (K)(x:V)(y:V)(H:Hp)(Q:VK):Prop
 | mk (a:Addr) (ns:List Int) (k:Int) (h1:x=.ref a) (h2:y=.int k) (h3:Kv K H a (ns.map V.int)) (h4:0<=k) (h5:Q (.int (cl ns k)) H):YZ K x y H Q
inductive O0 (x:V)(H)(Q:VK):Prop
 | mk (i:Int) (h1:x=.int i) (h2:Q (.bl true) H):O0 x H Q
theorem cY (T:Tx w K mg):LB P w K mg base 1 "common_divisor" ["one","other"] (Sp2M m9):=by
 refine QI T 20 ["one","other","rest"] Zd λH Q dn hr h=>?_
 obtain⟨_,_,rfl,a,b,rfl,rfl,ha,hb,q⟩:=h;refine⟨_,(Qa (JB Q0g (Ku (WZ K) (pu 1) Qe) (Qa (Ks 2 (Qg Qp (pu 0) (pu 1))) (Qa (Ks 0 (pu 1)) (Qc (Ks 1 (pu 2)))))) (Qc (Qf (pu 0)))),?_⟩;walk_at "rd";refine⟨λm U H'=>∃(a' b':Int) (r:Option V),U=[some (.int a'),some (.int b'),r]/\H'=H/\0<=a'/\0<=b'/\b'.toNat=m/\Int.gcd a' b'=Int.gcd a b,⟨_,a,b,none,rfl,rfl,ha,hb,rfl,rfl⟩,?_⟩;rintro m _ _ ⟨a',b',r,rfl,rfl,ha',hb',rfl,hg⟩;walk_at "rd";by_cases J:b'=0
 ·subst J;rw [Am (by simp)];have e:(Int.gcd a' 0:Int)=a':=UL ha';rw [hg] at e;rw [<-e];exact q
 ·rw[An (by simp[J])];refine⟨λU H'=>∃m',m'<b'.toNat/\∃(a'' b'':Int) (r:Option V),U=[some (.int a''),some (.int b''),r]/\H'=_/\0<=a''/\0<=b''/\b''.toNat=m'/\Int.gcd a'' b''=Int.gcd a b,λ_ _ h=>h,?_⟩;refine⟨by omega,(a' % b').toNat,?_,b',a' % b',_,rfl,rfl,hb',AY _ J,rfl,?_⟩
  ·have:=A6 a' (b:=b') (by omega);have:=AY a' J;omega
  ·rw[UM ha' (by omega)];exact hg
def W2 (c:Nat):Bool:=decide (97<=c)&&decide (c<=122)
def VF:V->Bool
 | .str z=>decide (1<=z.length)&&decide (z.length<=8)&&z.cps.toList.all W2
 | _=>false
inductive nR (H:Hp):V->Prop
 | non:nR H .non
 | bl (b:Bool):nR H (.bl b)
 | int (i:Int):nR H (.int i)
 | str (z:Str) (ha:Zk z) (hl:z.length<=1000):nR H (.str z)
 | lst (p:Addr) (xs:List V) (h:H p=some (.lst xs)):nR H (.ref p)
 | tup (p:Addr) (xs:List V) (h:H p=some (.tup xs)):nR H (.ref p)
inductive m7 (K:W.Frag)(x)(H)(Q:VK):Prop
 | mk (h1:nR H x) (h2:∀H',Same H H'->Q (.bl (VF x)) H'):m7 K x H Q
def sF (z:Str)(H:Hp)(i:Nat)(acc:List V)(σ':L2.St)(H':Hp):Prop:=∃x0,σ'=[x0]/\Same H H'/\acc=((z.cps.toList.take i).map W2).map V.bl
theorem eX (T:Tx w K mg):LB P w K mg base 1 "is_name" ["thing"] (Sp1M (m7 K)):=by
 refine QI T 13 ["thing"] Zq λH Q dn hr h=>?_
 obtain⟨_,rfl,ht,q⟩:=h;refine⟨_,(Qa (Qn (PW.pt (Xo (Zc (QN (QC (UI K rfl) (by rfl) T.aP boot_isinstance (Kq (pu 0) (WU T.aI boot_str))))) (Xo (Ku (QR K) (pu 0) Qi) (Z9 (Ku XY (Ln K T.aA (pu 0)) (XM T.eN)))))) (Qc (Qf ZF)) Qh) (Qc (Qf (QC (XS K rfl rfl) (by rfl) T.aX boot_all (Km (Lz ["sign"] [none] (Br (pu 0)) (Ky 0) QL (We (ph K rfl) (pu 0) (XM T.eM) (by with_unfolding_all rfl)))))))),?_⟩;cases ht with
 | non=>
  left;refine Jr .non (by rfl) ?_;left;exact q _ (G7 _)
 | bl b=>
  left;exact q _ (G7 _)
 | int i=>
  left;exact q _ (G7 _)
 | lst p xs h=>
  left;refine Jr (.lst h) (by rfl) ?_;left;exact q _ (G7 _)
 | tup p xs h=>
  left;refine Jr (.tup h) (by rfl) ?_;left;exact q _ (G7 _)
 | str z ha hl=>
  left;refine Jr (.str z) (by rfl) ?_;left;have hsz:z.cps.size=z.length:=rfl;by_cases U:z=Str.ofString ""
  ·rw[An U];have e:VF (.str z)=false:=by rw[U];decide +kernel
   rw[e] at q;exact q _ (G7 _)
  ·rw[Am U];have l1:1<=z.length:=by
    rcases Nat.eq_zero_or_pos z.length with e|e
    ·refine absurd ?_ U;have e':z.cps=#[]:=Array.eq_empty_of_size_eq_zero e;show z=Str.ofString "";obtain⟨cs⟩:=z;cases e';rfl
    ·exact e
   refine⟨_,_,rfl,⟨Za hl,rfl⟩,?_⟩;left;refine Qo (λc=>?_) (λc=>?_)
   ·have e:VF (.str z)=false:=by
     show(decide (1<=z.length)&&decide (z.length<=8)&&_)=false;rw[AV (p:=z.length<=8) (by omega),IJ,Bool.false_and]
    rw[e] at q;exact q _ (G7 _)
   ·simp only[QX,LL];left;refine⟨z,rfl,ha,SF (sF z H) ⟨none,rfl,G7 _,rfl⟩ (by omega) ?_ ?_⟩
    ·rintro i cc acc _ H2 hv a4 ⟨x0,rfl,g,rfl⟩;have J:=(Array.getElem?_eq_some_iff.mp hv).1;have hc:cc<128:=by
      have:=Array.all_eq_true.mp ha i J;rw[(Array.getElem?_eq_some_iff.mp hv).2] at this;simpa using this
     simp only[Zw];left;refine .inr ⟨_,_,rfl,rfl,?_⟩;have e:=FW cc hc;unfold Txt.contains at e;rw[Am A2,e];refine CN.mk J (by rw[Aq,Av];omega) ⟨_,rfl,g,?_⟩;have a0:z.cps.toList[i]?=some cc:=by rw[Array.getElem?_toList];exact hv
     rw[AX,a0,Az,Az];rfl
    ·rintro acc _ H2 ⟨x0,rfl,g,rfl⟩ p hp;have e:VF (.str z)=(z.cps.toList.map W2).all id:=by
      show(decide (1<=z.length)&&decide (z.length<=8)&&z.cps.toList.all W2)=_;rw[A5 l1,A5 (p:=z.length<=8) (by omega),Bool.true_and,Bool.true_and,List.all_map];rfl
     have et:z.cps.toList.take z.cps.size=z.cps.toList:=AJ (by rw[Ge];exact Au _);rw[et];have g2:=Qd hp (.lst ((z.cps.toList.map W2).map V.bl));rw[e] at q;exact⟨p,_,rfl,G5 Qb,q _ (g.trans g2)⟩
def nV (c:Nat):Bool:=decide (48<=c)&&decide (c<=57)
def zero:Str:=Str.ofString "0"
def RJ (z:Str):Bool:=decide (1<=z.length)&&decide (z.length<=10)&&!(decide (z.cps.toList.head?=some 48)&&!decide (z=zero))&&z.cps.toList.all nV
def vl (z:Str):Int:=(NumText.digitsVal z.cps.toList:Nat)
def rdW (z:Str)(m:Int):Option Int:=if RJ z=true/\vl z<=m then some (vl z) else none
theorem FV:∀c<128,Txt.contains "0123456789" ⟨#[c]⟩=(decide (48<=c)&&decide (c<=57)):=by decide +kernel
theorem Tb (h:¬z=Str.ofString ""):1<=z.length:=by
 rcases Nat.eq_zero_or_pos z.length with e|e
 ·refine absurd ?_ h;have J:z.cps=#[]:=Array.eq_empty_of_size_eq_zero e;obtain⟨cs⟩:=z;cases J;rfl
 ·exact e
theorem Eh (ha:Zk z){i c:Nat}(hv:z.cps[i]?=some c):c<128:=by
 have J:=(Array.getElem?_eq_some_iff.mp hv).1;have:=Array.all_eq_true.mp ha i J;rw[(Array.getElem?_eq_some_iff.mp hv).2] at this;simpa using this
theorem Te (h:RJ z=true):intText? z=some (vl z)/\z.length<=10:=by
 unfold RJ at h;simp only[Iu,IW] at h;obtain⟨⟨⟨h1,h2⟩,_⟩,J⟩:=h;refine⟨intText_digits (λc U=>?_) (λe=>?_) (by omega),h2⟩
 ·have:=Io.mp J c U;unfold nV at this;simpa using this
 ·have:z.cps.toList.length=z.length:=Ge;rw[e] at this;simp at this;omega
inductive ny (K:W.Frag)(x:V)(H)(Q:VK):Prop
 | mk (z:Str) (h1:x=.str z) (h2:Zk z) (h3:z.length<=1000) (h4:∀H',Same H H'->Q (.bl (RJ z)) H'):ny K x H Q
theorem char_eq {c:Nat}:((⟨#[c]⟩:Str)=Str.ofString "0")↔c=48:=by
 have e:Str.ofString "0"=⟨#[48]⟩:=by decide +kernel
 rw[e];constructor
 ·intro h;injection h with h;simpa using h
 ·intro h;rw[h]
theorem eY (T:Tx w K mg):LB P w K mg base 1 "is_written_whole" ["text"] (Sp1M (ny K)):=by
 refine QI T 37 ["text"] Zq λH Q dn hr h=>?_
 obtain⟨_,rfl,z,rfl,ha,hl,q⟩:=h;refine⟨_,(Qa (Qn (PW.pt (Xo (Ku (QR K) (pu 0) Qi) (Z9 (Ku XY (Ln K T.aA (pu 0)) (XM T.eR))))) (Qc (Qf ZF)) Qh) (Qa (Qn (PW.pt (Zu (Ku (QR K) (Ko K 0) Qi) (Zo (Ku (WZ K) (pu 0) Qi)))) (Qc (Qf ZF)) Qh) (Qc (Qf (QC (XS K rfl rfl) (by rfl) T.aX boot_all (Km (Lz ["sign"] [none] (Br (pu 0)) (Ky 0) QL (We (ph K rfl) (pu 0) (XM T.eQ) (by with_unfolding_all rfl))))))))),?_⟩;left;have a6:z.cps.toList.length=z.length:=Ge;by_cases c0:z=Str.ofString ""
 ·rw[An c0];have e:RJ z=false:=by rw[c0];decide +kernel
  rw[e] at q;exact q _ (G7 _)
 rw[Am c0];have l1:=Tb c0;refine⟨_,_,rfl,⟨Za hl,rfl⟩,?_⟩;left;refine Qo (λc=>?_) (λa7=>?_)
 ·have e:RJ z=false:=by
   unfold RJ;rw[AV (p:=z.length<=10) (by omega),IJ,Bool.false_and,Bool.false_and]
  rw[e] at q;exact q _ (G7 _)
 obtain⟨cc,U⟩:∃cc,z.cps.toList[0]?=some cc:=⟨_,Ax (by omega)⟩
 have J:z.cps.toList.head?=some cc:=by rw[List.head?_eq_getElem?];exact U
 refine .inr (.inr ⟨z,0,cc,rfl,rfl,Za hl,QZ (j:=0) U,?_⟩);left;have fin:(!(decide (z.cps.toList.head?=some 48)&&!decide (z=zero)))=true->Y4 [none] (FX (Zp 0)) (Xd 0) RV (OK (MB K false) (Zp 0) (tC (V.str "0123456789"))) [some (V.str z)] H λx H1=>Sl K [x] H1 Q:=λok=>by
  have e:RJ z=(z.cps.toList.map nV).all id:=by
   unfold RJ;rw[A5 l1,A5 (p:=z.length<=10) (by omega),ok,Bool.true_and,Bool.true_and,Bool.true_and,List.all_map];rfl
  rw[e] at q;simp only[QX,LL];left;refine⟨z,rfl,ha,SF (λi acc σ' H'=>∃x0,σ'=[x0]/\Same H H'/\acc=((z.cps.toList.take i).map nV).map V.bl) ⟨none,rfl,G7 _,rfl⟩ (by show z.length<=1000;omega) ?_ ?_⟩
  ·rintro i cc acc _ H2 hv a5 ⟨x0,rfl,g,rfl⟩;have a0:=(Array.getElem?_eq_some_iff.mp hv).1;simp only[Zw];left;refine .inr ⟨_,_,rfl,rfl,?_⟩;have e:=FV cc (Eh ha hv);unfold Txt.contains at e;rw[Am A2,e];refine CN.mk a0 (by rw[Aq,Av];omega) ⟨_,rfl,g,?_⟩;have a4:z.cps.toList[i]?=some cc:=by rw[Array.getElem?_toList];exact hv
   rw[AX,a4,Az,Az];rfl
  ·rintro acc _ H2 ⟨x0,rfl,g,rfl⟩ p hp;have et:z.cps.toList.take z.cps.size=z.cps.toList:=AJ (by rw[Ge];exact Au _);rw[et];have g2:=Qd hp (.lst ((z.cps.toList.map nV).map V.bl));exact⟨p,_,rfl,G5 Qb,q _ (g.trans g2)⟩
 refine Qo (λe0=>?_) (λe0=>fin ?_)
 ·refine Qo (λe1=>?_) (λe1=>fin ?_)
  ·have e:RJ z=false:=by
    unfold RJ;rw[J,char_eq.mp e0,A5 rfl,AV (p:=z=zero) e1];simp
   rw[e] at q;exact q _ (G7 _)
  ·have e1:z=zero:=Classical.not_not.mp e1;rw[A5 e1];simp
 ·rw[J,AV (p:=some cc=some 48) (λh=>e0 (char_eq.mpr (AO h)))];rfl
inductive nZ (K:W.Frag)(C)(x y:V)(H:Hp)(Q:VK)(E:XK):Prop
 | mk (z:Str) (m:Int) (h1:x=.str z) (h2:y=.int m) (h3:Zk z) (h4:z.length<=1000) (h5:∀n,rdW z m=some n->∀H',Same H H'->Q (.int n) H') (h6:rdW z m=none->∀H',Same H H'->E (.ref C) none H'):nZ K C x y H Q E
theorem b7 (T:Tx w K mg):W5 P w K mg base 2 "whole_read" ["text","most"] (Rp2M (nZ K t.zC)):=by
 refine VT T 38 ["text","most","number"] Ei λH Q dn hr h=>?_
 obtain⟨_,_,rfl,z,m,rfl,rfl,ha,hl,q1,U⟩:=h;refine⟨_,(Qa (Qn (Zc (QN (Kn (eY T) (Km (pu 0))))) (Qc (ZI XX rfl rfl T.aK T.aN G9 (by decide +kernel) G9 (Km Qi))) Qh) (Qa (Ks 2 (QD Ld (by rfl) T.cN boot_int (Km (pu 0)))) (Qa (Qn (Ku XY (pu 2) (pu 1)) (Qc (ZI XX rfl rfl T.aK T.aN G9 (by decide +kernel) G9 (Km Qi))) Qh) (Qc (Qf (pu 2)))))),?_⟩;left;refine⟨z,rfl,ha,hl,λH1 J=>?_⟩;left;refine Qo (λc=>?_) (λc=>?_)
 ·refine⟨by decide,U ?_ _ J⟩;unfold rdW;rw[Am (λh=>by rw[c] at h;exact absurd h.1 (by decide))]
 have c:=eq_true_of_ne_false c;obtain⟨hi,a0⟩:=Te c;refine⟨z,_,rfl,hi,by omega,?_⟩;left;refine Qo (λc2=>?_) (λc2=>?_)
 ·refine⟨by decide,U ?_ _ J⟩;unfold rdW;rw[Am (λh=>by have:=h.2;omega)]
 ·refine q1 _ ?_ _ J;unfold rdW;rw[An ⟨c,by omega⟩]
inductive nu (K:W.Frag)(C)(x:V)(H:Hp)(Q:VK)(E:XK):Prop
 | mk (z:Str) (h1:x=.str z) (h3:Zk z) (h4:z.length<=1000) (h5:VF (.str z)=true->∀H',Same H H'->Q (.str z) H') (h6:VF (.str z)=false->∀H',Same H H'->E (.ref C) none H'):nu K C x H Q E
theorem eZ (T:Tx w K mg):W5 P w K mg base 2 "name_read" ["text"] (Rp1M (nu K t.zC)):=by
 refine VT T 41 ["text"] Lj λH Q dn hr h=>?_
 obtain⟨_,rfl,z,rfl,ha,hl,q1,U⟩:=h;refine⟨_,(Qa (Qn (Zc (QN (Kn (eX T) (Km (pu 0))))) (Qc (ZI XX rfl rfl T.aK T.aN G9 (by decide +kernel) G9 (Km Qi))) Qh) (Qc (Qf (pu 0)))),?_⟩;left;refine⟨.str z ha hl,λH1 J=>?_⟩;left;refine Qo (λc=>⟨by decide,U c _ J⟩) (λc=>?_);exact q1 (eq_true_of_ne_false c) _ J
theorem QQ (a b:Str):(a++b).length=a.length+b.length:=by
 show(a.cps++b.cps).size=_;rw[Array.size_append];rfl
theorem Tv (z):Str.empty++z=z:=by
 show Str.mk (#[]++z.cps)=z;rw[Array.empty_append]
def sla:Str:=⟨#[47]⟩
theorem Gs:Str.ofString "/"=sla:=by decide +kernel
def lE (z:Str):Option (Int×Int):=if 47∈z.cps.toList then
  match rdW (Txt.partition z sla).1 9999,rdW (Txt.partition z sla).2.2 9999 with
  | some a,some b=>if b<2∨¬(Int.gcd a b:Int)=1 then none else some (a,b)
  | _,_=>none
 else(rdW z 9999).map λa=>(a,1)
theorem L6 {c:Nat}(h:c∈(Builtin.Str.strSub z i j).cps.toList):c∈z.cps.toList:=by
 unfold Builtin.Str.strSub at h;have h:c∈(z.cps.extract i j).toList:=h;rw[Array.toList_extract] at h;exact List.mem_of_mem_drop (List.mem_of_mem_take h)
theorem L5:(Builtin.Str.strSub z i j).length<=z.length:=by
 unfold Builtin.Str.strSub;show(z.cps.extract i j).size<=z.cps.size;rw[Array.size_extract];omega
theorem Rt {y}(h:Zk z)(s:∀c∈y.cps.toList,c∈z.cps.toList):Zk y:=by
 show (y.cps.all fun x=>decide (x<128))=true;rw [<-Array.all_toList,Io];intro c J;have h:(z.cps.all fun x=>decide (x<128))=true:=h;rw [<-Array.all_toList,Io] at h;exact h c (s c J)
theorem TM:Zk Str.empty:=by show _=true;decide +kernel
theorem PX (h:Zk z):Zk (Txt.partition z sla).1/\Zk (Txt.partition z sla).2.2/\(Txt.partition z sla).1.length<=z.length/\(Txt.partition z sla).2.2.length<=z.length/\((Txt.partition z sla).2.1=if 47∈z.cps.toList then sla else Str.empty)/\(47∉z.cps.toList->(Txt.partition z sla).1=z):=by
 have f:=StrLaws.found_one z 47;have f:(!(Builtin.Str.occurrences z sla 0 z.length 1).isEmpty)=decide (47∈z.cps.toList):=f;unfold Txt.partition;cases e:Builtin.Str.occurrences z sla 0 z.length 1 with
 | nil=>
  rw[e] at f;have nm:47∉z.cps.toList:=by simpa using f.symm
  exact⟨h,TM,Au _,AZ _,by rw[Am nm],λ_=>rfl⟩
 | cons i r=>
  rw[e] at f;have U:47∈z.cps.toList:=by simpa using f.symm
  exact⟨Rt h λc J=>L6 J,Rt h λc J=>L6 J,L5,L5,by rw[An U],λn=>absurd U n⟩
inductive ng (K:W.Frag)(C)(x:V)(H:Hp)(Q:VK)(E:XK):Prop
 | mk (z:Str) (h1:x=.str z) (h3:Zk z) (h4:z.length<=1000) (h5:∀a b,lE z=some (a,b)->∀p H',Same H H'->H' p=some (.tup [.int a,.int b])->Q (.ref p) H') (h6:lE z=none->∀H',Same H H'->E (.ref C) none H'):ng K C x H Q E
theorem Bc {m n:Int}(h:rdW z m=some n):0<=n/\n<=m:=by
 unfold rdW at h;split at h
 ·rename_i c;have e:=AO h;rw [<-e];exact ⟨Int.natCast_nonneg _,c.2⟩
 ·cases h
theorem f9 (T:Tx w K mg):W5 P w K mg base 3 "rate_read" ["text"] (Rp1M (ng K t.zC)):=by
 refine VT T 39 ["text","written","top","bottom"] Lj λH Q dn hr h=>?_
 obtain⟨_,rfl,z,rfl,ha,hl,q1,q2⟩:=h;obtain⟨pa,pb,la,lb,_,_⟩:=PX ha;refine⟨_,(Qa (Qn (ZY (XB K rfl) Qi (pu 0) (by with_unfolding_all rfl)) (Qc (Qf (Qz (Kq (ZC (b7 T) (LG hr) rfl (Yd λ_ _ h=>h) (Kq (pu 0) (XM T.bK))) Qe)))) Qh) (Qa (Ks 1 (QA K rfl Gc PySem.F.slot_str_partition PySem.F.type_str_partition Vw (pu 0) (Km Qi))) (Qa (Ks 2 (ZC (b7 T) (LG hr) rfl (Yd λ_ _ h=>h) (Kq (Ko K 1) (XM T.bK)))) (Qa (Ks 3 (ZC (b7 T) (LG hr) rfl (Yd λ_ _ h=>h) (Kq (Ko K 1) (XM T.bK)))) (Qa (Qn (PW.pt (Xo (Ku Zi (pu 3) Qe) (Z9 (Ku (WZ K) (Kn (cY T) (Kq (pu 2) (pu 3))) Qe)))) (Qc (ZI XX rfl rfl T.aK T.aN G9 (by decide +kernel) G9 (Km Qi))) Qh) (Qc (Qf (Qz (Kq (pu 2) (pu 3)))))))))),?_⟩;left;refine .inr ⟨_,_,rfl,rfl,?_⟩;rw[Gs];have f:(!(Builtin.Str.occurrences z sla 0 z.length 1).isEmpty)=decide (47∈z.cps.toList):=StrLaws.found_one z 47;rw[f];show asBl (V.bl (!decide (47∈z.cps.toList))) _;left;by_cases hs:47∈z.cps.toList
 ·rw[Am (λh=>h hs)];refine⟨by trivial,z,sla,rfl,rfl,by decide,Za hl,λp hp=>?_⟩;have J:lE z=match rdW (Txt.partition z sla).1 9999,rdW (Txt.partition z sla).2.2 9999 with
    | some a,some b=>if b<2∨¬(Int.gcd a b:Int)=1 then none else some (a,b)
    | _,_=>none:=by unfold lE;rw[An hs]
  generalize (Txt.partition z sla).1=za at *;generalize (Txt.partition z sla).2.1=zs at *;generalize (Txt.partition z sla).2.2=zb at *;have g1:=Qd hp (.tup [.str za,.str zs,.str zb]);have hT:Kt K (upd H p (.tup [.str za,.str zs,.str zb])) p [.str za,.str zs,.str zb]:=G6 Qb;generalize upd H p (.tup [.str za,.str zs,.str zb])=H1 at *;refine Zg hT rfl ⟨za,9999,rfl,rfl,pa,by omega,λa ea H2 U=>?_,λen H2 U=>q2 (by rw[J,en]) _ (g1.trans U)⟩;refine Zg (U.sqT hT) rfl ⟨zb,9999,rfl,rfl,pb,by omega,λb eb H3 g3=>?_,λen H3 g3=>q2 (by rw[J,ea,en]) _ (g1.trans (U.trans g3))⟩;have a0:=g1.trans (U.trans g3);rw[ea,eb] at J;have J:lE z=if b<2∨¬(Int.gcd a b:Int)=1 then none else some (a,b):=J
  left;refine Qo (λc=>⟨by decide,q2 (by rw[J,An (.inl c)]) _ a0⟩) (λc=>?_);refine⟨a,b,rfl,rfl,(Bc ea).1,(Bc eb).1,?_⟩;left;refine Qo (λc2=>⟨by decide,q2 (by rw[J,An (.inr c2)]) _ a0⟩) (λc2=>⟨by decide,λp4 a4=>?_⟩);exact q1 a b (by rw[J,Am (λh=>h.elim c c2)]) p4 _ (a0.trans (Qd a4 _)) Qb
 ·rw[An hs];have J:lE z=(rdW z 9999).map λa=>(a,1):=by unfold lE;rw[Am hs]
  refine⟨z,9999,rfl,rfl,ha,hl,λa ea H2 U=>⟨by decide,λp hp=>?_⟩,λen H2 U=>q2 (by rw[J,en];rfl) _ U⟩;exact q1 a 1 (by rw[J,ea];rfl) p _ (U.trans (Qd hp _)) Qb
def Q6 (t b:Int):Str:=if b=1 then Str.ofString (toString t) else Str.ofString (toString t)++sla++Str.ofString (toString b)
theorem Vk {m:Int}(h:m.natAbs<10 ^ 61):(Str.ofString (toString m)).length<=100:=by
 have e:=PySem.int_text_length_le10 (a:=m) (k:=61) (by decide) h;rw[PySem.ofString_length];omega
theorem Ta {m:Int}(h:m.natAbs<10 ^ 61):m.natAbs.log2<1920:=by
 by_cases J:m.natAbs=0
 ·rw[J];decide
 ·exact AW ((Nat.log2_lt J).mpr (show m.natAbs<2 ^ 204 by omega)) (by decide)
theorem E3 {i:Int}(hz:z.length<=1000)(h0:0<=i)(h1:i<z.length)(q:∀c∈z.cps.toList,Q (.str ⟨#[c]⟩) H):lF K (.str z) (.int i) H Q:=by
 obtain⟨n,rfl⟩:=Iv h0;have hn:n<z.cps.toList.length:=by
  have:z.cps.toList.length=z.length:=by simp[Str.length]
  omega
 exact .inr (.inr ⟨z,n,z.cps.toList[n],rfl,rfl,Za hz,QZ (by simp[hn]),q _ (List.getElem_mem hn)⟩)
theorem Yy {n:Int}(h:0<=n):∀c∈(Str.ofString (toString n)).cps.toList,48<=c/\c<=57:=by
 obtain ⟨m,rfl⟩:=Iv h;intro c U;rw [W.KIN.signs_num] at U;obtain ⟨ch,J,e⟩:=Ii.mp U;have r:=PyProof.Rows.digit_range (Nat.isDigit_of_mem_toDigits (by decide) (by decide) J);rw [<-e];exact r
theorem Mi (h:∀c∈z.cps.toList,c<128):Zk z:=by
 show (z.cps.all fun x=>decide (x<128))=true;rw [<-Array.all_toList,Io];intro c hc;exact A5 (h c hc)
theorem Jp {n:Int}(h:0<=n):Zk (Str.ofString (toString n)):=Mi λc hc=>by have:=Yy h c hc;omega
theorem Mj {a b}(h:Zk a)(h':Zk b):Zk (a++b):=by
 show ((a.cps++b.cps).all fun x=>decide (x<128))=true;rw [<-Array.all_toList,Gg,List.all_append,Array.all_toList,Array.all_toList];have h:(a.cps.all fun x=>decide (x<128))=true:=h;have h':(b.cps.all fun x=>decide (x<128))=true:=h';rw [h,h'];rfl
theorem TL:Zk sla:=by show _=true;decide +kernel
theorem len_num {n:Int}(h:0<=n)(h':n<1000000000000000):(Str.ofString (toString n)).length<=100:=Vk (by omega)
theorem Yk {n:Int}(h:0<=n)(h':n<1000000000000000):n.natAbs.log2<1920:=Ta (by omega)
theorem Ur (s sub)(hi:Nat):∀(l:List Nat) (st),1<=st.1.size->(forIn l st (StrLaws.occBody s sub hi 1)).run.fst=st.1
 | [],st,h=>rfl
 | a::l,st,h=>by
  rw[List.forIn_cons];unfold StrLaws.occBody;rw[Am (λc=>by have:=c.1.1.1;omega)];exact Ur s sub hi l _ h
theorem KY (s sub)(hi:Nat):∀(l:List Nat) (free:Nat),(∀i∈l,free<=i)->(forIn l ((#[]:Array Nat),free) (StrLaws.occBody s sub hi 1)).run.fst.toList=(l.find? λi=>decide (i+sub.length<=hi)&&Builtin.Str.subAt s sub i).toList
 | [],free,_=>rfl
 | a::l,free,hf=>by
  rw[List.forIn_cons];have ha:free<=a:=hf a AH;by_cases J:a+sub.length<=hi/\Builtin.Str.subAt s sub a=true
  ·rw[List.find?_cons_of_pos (by rw[Iu,IW];exact J)];have:StrLaws.occBody s sub hi 1 a ((#[]:Array Nat),free)=pure (ForInStep.yield ((#[]:Array Nat).push a,a+sub.length)):=by
    unfold StrLaws.occBody;rw[An ⟨⟨⟨by simp,ha⟩,J.1⟩,J.2⟩]
   rw[this];show(forIn l ((#[]:Array Nat).push a,a+sub.length) (StrLaws.occBody s sub hi 1)).run.fst.toList=[a];rw[Ur s sub hi l _ (by simp)];rfl
  ·rw[List.find?_cons_of_neg (by rw[Iu,IW];exact J)];have:StrLaws.occBody s sub hi 1 a ((#[]:Array Nat),free)=pure (ForInStep.yield ((#[]:Array Nat),free)):=by
    unfold StrLaws.occBody;rw[Am (λh=>J ⟨h.1.2,h.2⟩)]
   rw[this];exact KY s sub hi l free λi U=>hf i (AE _ U)
theorem Bz {a b}(h:47∉a.cps.toList):Txt.partition (a++sla++b) sla=(a,sla,b):=by
 have e:Builtin.Str.occurrences (a++sla++b) sla 0 (a++sla++b).length 1=[a.length]:=by
  rw[StrLaws.occ_eq,KY _ _ _ _ _ (λ_ _=>AZ _)];have lt:(a++sla++b).cps.toList=a.cps.toList++47::b.cps.toList:=by
   show((a.cps++sla.cps)++b.cps).toList=_;rw[Gg,Gg,List.append_assoc];rfl
  have U:a.cps.toList.length=a.length:=Ge;have ll:(a++sla++b).length=a.length+1+b.length:=by rw[QQ,QQ];rfl
  have J:∀i:Nat,(decide (i+sla.length<=(a++sla++b).length)&&Builtin.Str.subAt (a++sla++b) sla i)=true↔(a++sla++b).cps.toList[i]?=some 47:=λi=>by
   rw[Iu,IW];exact StrLaws.subAt_one _ 47 i
  have:(List.range' 0 ((a++sla++b).length+1-0)).find? (λi=>decide (i+sla.length<=(a++sla++b).length)&&Builtin.Str.subAt (a++sla++b) sla i)=some a.length:=by
   rw[List.find?_eq_some_iff_getElem];refine⟨(J _).mpr ?_,a.length,by rw[List.length_range'];omega,by rw[List.getElem_range'];omega,λj hj=>?_⟩
   ·rw[lt,Ib (by omega),U,Ih];rfl
   ·rw[List.getElem_range',qz,AD];intro h;have:=(J _).mp h;rw[lt,A7 (by omega)] at this;exact absurd (AG this) ‹47∉a.cps.toList›
  rw[this];rfl
 unfold Txt.partition;rw[e];show(Builtin.Str.strSub (a++sla++b) 0 a.length,sla,Builtin.Str.strSub (a++sla++b) (a.length+sla.length) (a++sla++b).length)=_;have eq:∀{x y:Str},x.cps.toList=y.cps.toList->x=y:=λ{x y} h=>by
  obtain⟨xs⟩:=x;obtain⟨ys⟩:=y
  congr 1
  exact Array.toList_inj.mp h
 have lt:(a++sla++b).cps.toList=a.cps.toList++47::b.cps.toList:=by
  show((a.cps++sla.cps)++b.cps).toList=_;rw[Gg,Gg,List.append_assoc];rfl
 have U:a.cps.toList.length=a.length:=Ge;have lb:b.cps.toList.length=b.length:=Ge;have ll:(a++sla++b).length=a.length+1+b.length:=by rw[QQ,QQ];rfl
 have e1:Builtin.Str.strSub (a++sla++b) 0 a.length=a:=eq (by
  show((a++sla++b).cps.extract 0 a.length).toList=_;rw[Array.toList_extract,lt];show((a.cps.toList++47::b.cps.toList).drop 0).take (a.length-0)=_;rw[List.drop_zero,Nat.sub_zero,<-U,List.take_left])
 have e2:Builtin.Str.strSub (a++sla++b) (a.length+sla.length) (a++sla++b).length=b:=eq (by
  show ((a++sla++b).cps.extract (a.length+1) (a++sla++b).length).toList=_;rw [Array.toList_extract,lt,ll];show ((a.cps.toList++47 :: b.cps.toList).drop (a.length+1)).take (a.length+1+b.length-(a.length+1))=_;rw [<-U,List.drop_append,List.drop_eq_nil_of_le (by omega),List.nil_append,Nat.add_sub_cancel_left,Nat.add_sub_cancel_left];show (b.cps.toList).take b.length=_;rw [<-lb,IM])
 rw[e1,e2]
theorem Rg:∀(m:Nat),0<m->(Nat.toDigits 10 m).head?≠some '0':=by
 intro m
 induction m using Nat.strongRecOn with
 | _ m ih=>
  intro U;by_cases h:m<10
  ·rw[Nat.toDigits_of_lt_base h];intro e;have e:=AO e;have:∀d:Nat,d<10->0<d->Nat.digitChar d≠'0':=by decide
   exact this m h U e
  ·have hm:m % 10<10:=Nat.mod_lt m (by decide);have t:Nat.toDigits 10 (m / 10)++Nat.toDigits 10 (m % 10)=Nat.toDigits 10 (10*(m / 10)+m % 10):=Nat.toDigits_append_toDigits (by decide) (by omega) hm;rw [Nat.div_add_mod] at t;rw [<-t];have ne:Nat.toDigits 10 (m / 10)≠[]:=fun e=>by
    have h:=W.KIN.val_back (m / 10);rw[e] at h;have:m / 10=0:=h.symm;omega
   have J:=ih (m / 10) (by omega) (by omega);cases e:Nat.toDigits 10 (m / 10) with
   | nil=>exact absurd e ne
   | cons x r=>rw[e] at J;exact J
theorem P5 {n:Int}(h0:0<=n)(h1:n<=1000000000):RJ (Str.ofString (toString n))=true/\vl (Str.ofString (toString n))=n:=by
 have sg:=Yy h0;have rd:=W.KIN.num_reads h0 (by omega);obtain⟨m,rfl⟩:=Iv h0;have cs:=W.KIN.signs_num m;have a0:(Str.ofString (toString ((m:Nat):Int))).cps.toList.length=(Str.ofString (toString ((m:Nat):Int))).length:=Ge;have J:=W.KT.len_num (n:=((m:Nat):Int)) h0 (by omega);have ne:(Str.ofString (toString ((m:Nat):Int))).cps.toList≠[]:=by
  rw[cs];intro e;have h:=PySem.toDigits_len_ge 10 m;rw[List.map_eq_nil_iff.mp e] at h;exact absurd h (by decide)
 have U:=intText_digits (x:=Str.ofString (toString ((m:Nat):Int))) sg ne (A4 J (by decide));rw [rd] at U;have ev:vl (Str.ofString (toString ((m:Nat):Int)))=m:=(AO U).symm;refine ⟨?_,ev⟩;have l1:1<=(Str.ofString (toString ((m:Nat):Int))).length:=by rw [<-a0];exact List.length_pos_iff.mpr ne
 unfold RJ;rw[A5 l1,A5 (p:=(Str.ofString (toString ((m:Nat):Int))).length<=10) J,Bool.true_and,Bool.true_and,Iu];refine⟨?_,Io.mpr λc hc=>by unfold nV;have:=sg c hc;simp;omega⟩;by_cases hm:m=0
 ·subst hm;have:Str.ofString (toString (((0:Nat):Nat):Int))=zero:=by decide +kernel
  rw[this,A5 rfl];simp
 ·have hh:=Rg m (by omega);have:(Str.ofString (toString ((m:Nat):Int))).cps.toList.head?≠some 48:=by
   rw[cs];cases e:Nat.toDigits 10 m with
   | nil=>simp
   | cons x r=>
    rw[e] at hh;intro h;have h:x.toNat=48:=AO h;refine hh ?_;have:x='0':=Char.toNat_inj.mp h;rw[this];rfl
  rw[AV this];rfl
theorem Wg {n:Int}(h0:0<=n){m:Int}(h1:n<=m)(h2:m<=1000000000):rdW (Str.ofString (toString n)) m=some n:=by
 obtain⟨a,b⟩:=P5 h0 (by omega);unfold rdW;rw[An ⟨a,by rw[b];exact h1⟩,b]
theorem BC {n:Int}(h0:0<=n):47∉(Str.ofString (toString n)).cps.toList:=λh=>by have:=Yy h0 47 h;omega
theorem Gv {a b:Int}(ha:0<=a)(ha':a<=9999)(hb:1<=b)(hb':b<=9999)(hg:Int.gcd a b=1):lE (Q6 a b)=some (a,b):=by
 unfold Q6;by_cases h1:b=1
 ·rw[An h1];unfold lE;rw[Am (BC ha),Wg ha ha' (by decide),h1];rfl
 ·rw[Am h1];unfold lE;have J:47∈(Str.ofString (toString a)++sla++Str.ofString (toString b)).cps.toList:=by
   show 47∈(((Str.ofString (toString a)).cps++sla.cps)++(Str.ofString (toString b)).cps).toList;rw[Gg,Gg];exact Im _ (Ic _ (by decide))
  rw[An J,Bz (BC ha)];show(match rdW (Str.ofString (toString a)) 9999,rdW (Str.ofString (toString b)) 9999 with
   | some a,some b=>if b<2∨¬(Int.gcd a b:Int)=1 then none else some (a,b)
   | _,_=>none)=some (a,b)
  rw[Wg ha ha' (by decide),Wg (by omega) hb' (by decide)];show(if b<2∨¬(Int.gcd a b:Int)=1 then none else some (a,b))=some (a,b);rw[Am (λh=>h.elim (λh=>by omega) (λh=>h (by rw[hg];rfl)))]
theorem Li {a b:Int}(ha:0<=a)(hb:1<=b):Zk (Q6 a b):=by
 unfold Q6;split
 ·exact Jp ha
 ·exact Mj (Mj (Jp ha) TL) (Jp (by omega))
def Vy (z:Str):Int:=if z=Str.ofString "LOW"∨z=Str.ofString "HIGH" then 150 else if z=Str.ofString "MANY" then 60 else 1000000000
inductive W7 (K:W.Frag)(x:V)(H)(Q:VK):Prop
 | mk (z:Str) (h1:x=.str z) (h2:Q (.int (Vy z)) H):W7 K x H Q
theorem Dk (xs:List Str){H}{Q}(h:Kt K H p (xs.map V.str))(q:Q (.bl (decide (z∈xs))) H):MB K false (.str z) (.ref p) H Q:=
 .inl ⟨p,_,rfl,.inr h,rfl,WM xs,by rw[Jl];exact q⟩
theorem LI (xs:List Str){H}{Q}(h:Kt K H p (xs.map V.str))(q:Q (.bl (!decide (z∈xs))) H):MB K true (.str z) (.ref p) H Q:=
 .inl ⟨p,_,rfl,.inr h,rfl,WM xs,by rw[Jl];exact q⟩
theorem fI (T:Tx w K mg):LB P w K mg base 1 "most_of" ["sort"] (Sp1M (W7 K)):=by
 refine QI T 46 ["sort"] Zq λH Q J U h=>?_
 obtain⟨_,rfl,z,rfl,q⟩:=h;refine⟨_,(Qa (Qn (ZY (ph K rfl) (pu 0) (GB T.cR) (by with_unfolding_all rfl)) (Qc (Qf (XM T.eO))) Qh) (Qc (Qf (Yc (Ku (QR K) (pu 0) Qi) (XM T.eT) (XM T.cQ))))),?_⟩;left;refine Dk ["LOW","HIGH"] (T.cR.s H) ?_;left;unfold Vy at q;refine Qo (λc=>?_) (λc=>?_)
 ·rw[An (by simpa using c)] at q;exact q
 ·rw[Am (by simpa using c)] at q;refine Qo (λc=>?_) (λc=>?_)
  ·rw[An c] at q;exact q
  ·rw[Am c] at q;exact q
def mn (z:Str):Option Int:=match rdW z 1000000000 with
 | some n=>if n=0 then none else some n
 | none=>none
inductive n6 (K:W.Frag)(C)(x:V)(H:Hp)(Q:VK)(E:XK):Prop
 | mk (z:Str) (h1:x=.str z) (h3:Zk z) (h4:z.length<=1000) (h5:∀n,mn z=some n->∀H',Same H H'->Q (.int n) H') (h6:mn z=none->∀H',Same H H'->E (.ref C) none H'):n6 K C x H Q E
theorem fJ (T:Tx w K mg):W5 P w K mg base 3 "unit_read" ["word"] (Rp1M (n6 K t.zC)):=by
 refine VT T 47 ["word","unit"] Lj λH Q dn hr h=>?_
 obtain⟨_,rfl,z,rfl,ha,hl,q1,q2⟩:=h;refine⟨_,(Qa (Ks 1 (ZC (b7 T) (LG hr) rfl (Yd λ_ _ h=>h) (Kq (pu 0) (XM T.cQ)))) (Qa (Qn (Ku (QR K) (pu 1) Qe) (Qc (ZI XX rfl rfl T.aK T.aN G9 (by decide +kernel) G9 (Km Qi))) Qh) (Qc (Qf (pu 1))))),?_⟩;left;refine⟨z,1000000000,rfl,rfl,ha,hl,λn U H1 J=>?_,λU H1 J=>q2 (by unfold mn;rw[U]) _ J⟩;left;refine Qo (λc=>⟨by decide,q2 (by unfold mn;rw[U];exact An c) _ J⟩) (λc=>q1 n (by unfold mn;rw[U];exact Am c) _ J)
def JN (z:Str):Bool:=decide (z∈[Str.ofString "down",Str.ofString "up",Str.ofString "near"])
inductive nY (K:W.Frag)(C)(x:V)(H:Hp)(Q:VK)(E:XK):Prop
 | mk (z:Str) (h1:x=.str z) (h5:JN z=true->Q (.str z) H) (h6:JN z=false->E (.ref C) none H):nY K C x H Q E
theorem fK (T:Tx w K mg):W5 P w K mg base 1 "way_read" ["word"] (Rp1M (nY K t.zC)):=by
 refine VT T 48 ["word"] Lj λH Q dn hr h=>?_
 obtain⟨_,rfl,z,rfl,U,J⟩:=h;refine⟨_,(Qa (Qn (ZY (XB K rfl) (pu 0) (GB T.cT) (by with_unfolding_all rfl)) (Qc (ZI XX rfl rfl T.aK T.aN G9 (by decide +kernel) G9 (Km Qi))) Qh) (Qc (Qf (pu 0)))),?_⟩;left;refine LI ["down","up","near"] (T.cT.s H) ?_;left;refine Qo (λc=>⟨by decide,J (AV c)⟩) (λc=>U (A5 (Classical.not_not.mp c)))
def OD (s z:Str):Option D:=
 if s=Str.ofString "NAME" then(if VF (.str z)=true then some (.str z) else none) else
 if s=Str.ofString "RATE" then(lE z).map λp=>fr p.1 p.2 else
 if s=Str.ofString "UNIT" then(mn z).map D.int else
 if s=Str.ofString "WAY" then(if JN z=true then some (.str z) else none) else(rdW z (Vy s)).map D.int
inductive Pv (K)(H):D->V->Prop
 | int (i:Int):Pv K H (.int i) (.int i)
 | str (z:Str):Pv K H (.str z) (.str z)
 | rt (r s:Int) (p:Addr) (h:Kt K H p [.int r,.int s]):Pv K H (fr r s) (.ref p)
theorem Pv.mono (g:Same H H'){d}{v}(h:Pv K H d v):Pv K H' d v:=by
 cases h with
 | int i=>exact .int i
 | str z=>exact .str z
 | rt r s p h=>exact .rt r s p (g.sqT h)
inductive T1 (K)(C)(x y:V)(H:Hp)(Q:VK)(E:XK):Prop
 | mk (s z:Str) (h1:x=.str s) (h2:y=.str z) (h3:Zk z) (h4:z.length<=1000) (h5:∀d,OD s z=some d->∀v H',Same H H'->Pv K H' d v->Q v H') (h6:OD s z=none->∀H',Same H H'->E (.ref C) none H'):T1 K C x y H Q E
theorem fQ (T:Tx w K mg):W5 P w K mg base 4 "word_read" ["sort","word"] (Rp2M (T1 K t.zC)):=by
 refine VT T 49 ["sort","word"] Ei λH Q dn hr h=>?_
 obtain⟨_,_,rfl,s',z,rfl,rfl,ha,hl,q1,U⟩:=h;refine⟨_,(Qa (Qn (Ku (QR K) (pu 0) Qi) (Qc (Qf (ZC (eZ T) (LG hr) rfl (Yd λ_ _ h=>h) (Km (pu 1))))) Qh) (Qa (Qn (Ku (QR K) (pu 0) Qi) (Qc (Qf (ZC (f9 T) (LG hr) rfl (Yd λ_ _ h=>h) (Km (pu 1))))) Qh) (Qa (Qn (Ku (QR K) (pu 0) Qi) (Qc (Qf (ZC (fJ T) (LG hr) rfl (Yd λ_ _ h=>h) (Km (pu 1))))) Qh) (Qa (Qn (Ku (QR K) (pu 0) Qi) (Qc (Qf (ZC (fK T) (LG hr) rfl (Yd λ_ _ h=>h) (Km (pu 1))))) Qh) (Qc (Qf (ZC (b7 T) (LG hr) rfl (Yd λ_ _ h=>h) (Kq (pu 1) (Kn (fI T) (Km (pu 0))))))))))),?_⟩;unfold OD at q1 U;left;refine Qo (λc=>?_) (λc=>?_)
 ·rw[An c] at q1 U;refine⟨z,rfl,ha,hl,λe H1 J=>q1 _ (An e) _ _ J (.str z),λe H1 J=>U (Am (by rw[e];decide)) _ J⟩
 rw[Am c] at q1 U;refine Qo (λc=>?_) (λc=>?_)
 ·rw[An c] at q1 U;refine⟨z,rfl,ha,hl,λa b e p H1 J hp=>q1 _ (by rw[e];rfl) _ _ J (.rt _ _ _ (G6 hp)),λe H1 J=>U (by rw[e];rfl) _ J⟩
 rw[Am c] at q1 U;refine Qo (λc=>?_) (λc=>?_)
 ·rw[An c] at q1 U;refine⟨z,rfl,ha,hl,λn e H1 J=>q1 _ (by rw[e];rfl) _ _ J (.int n),λe H1 J=>U (by rw[e];rfl) _ J⟩
 rw[Am c] at q1 U;refine Qo (λc=>?_) (λc=>?_)
 ·rw[An c] at q1 U;refine⟨z,rfl,λe=>q1 _ (An e) _ _ (G7 _) (.str z),λe=>U (Am (by rw[e];decide)) _ (G7 _)⟩
 rw[Am c] at q1 U;refine⟨s',rfl,?_⟩;left;exact⟨z,_,rfl,rfl,ha,hl,λn e H1 J=>q1 _ (by rw[e];rfl) _ _ J (.int n),λe H1 J=>U (by rw[e];rfl) _ J⟩
def blank:Str:=⟨#[32]⟩
theorem QS:Str.ofString " "=blank:=by decide +kernel
inductive OZ (K)(x y:V)(H)(Q:VK)(E:XK):Prop
 | mk (f:Str) (a:Addr) (ws ss:List Str) (ds:List D) (h1:x=.str f) (h2:y=.ref a) (h3:Kv K H a (ws.map V.str)) (h4:Txt.split f blank=ss) (h5:f.length<=1000) (h6:ss.length<=100) (h7:ws.length=ss.length) (h8:∀z∈ws,Zk z/\z.length<=1000)
   (h9:ds.length=ss.length) (h10:∀(i:Nat) s z d,ss[i]?=some s->ws[i]?=some z->ds[i]?=some d->OD s z=some d) (h11:∀p vs H',Same H H'->H p=none->H' p=some (.lst vs)->All2 (Pv K H') ds vs->Q (.ref p) H'):OZ K x y H Q E
def rj (K:W.Frag)(ds:List D)(H:Hp)(i:Nat)(acc:List V)(σ':L2.St)(H':Hp):Prop:=∃x0 x1,σ'=[x0,x1]/\Same H H'/\All2 (Pv K H') (ds.take i) acc
theorem K9 {R R':α->V->Prop}{l:List α}{x:α}(h:All2 R (l.take i) vs)(hm:∀a b,R a b->R' a b)(hx:l[i]?=some x)(hv:R' x v):All2 R' (l.take (i+1)) (vs++[v]):=by
 have hi:i<l.length:=(AU.mp hx).1;have e:l.take (i+1)=l.take i++[x]:=by rw[AX,hx];rfl
 have hl:=h.1;rw[Ig,Nat.min_eq_left (by omega)] at hl;refine⟨by rw[e,Aq,Aq,h.1];rfl,λj a b J U=>?_⟩;rw[e] at J;by_cases hj:j<i
 ·rw[A7 (by rw[Ig,Nat.min_eq_left (by omega)];exact hj)] at J;rw[A7 (by omega)] at U;exact hm _ _ (h.2 j a b J U)
 ·have a0:j<(vs++[v]).length:=(AU.mp U).1;rw[Aq,Av] at a0;have:j=i:=by omega
  subst this;rw[Ib (by rw[Ig,Nat.min_eq_left (by omega)];exact Au _),Ig,Nat.min_eq_left (by omega),Ih] at J;rw[Ib (by omega),<-hl,Ih] at U;cases J;cases U;exact hv
theorem fU (T:Tx w K mg):W5 P w K mg base 5 "words_read" ["form","words"] (Rp2M (OZ K)):=by
 refine VT T 50 ["form","words","sorts"] Ei λH Q dn hr h=>?_
 obtain⟨_,_,rfl,f',a,ws,ss,ds,rfl,rfl,hw,a0,hf,aa,a6,a7,ab,a8,q⟩:=h;refine⟨_,(Qa (Ks 2 (QA K rfl Gc Jb Jc JF (pu 0) (Km Qi))) (Qa (Qn (Ku (WZ K) (Ln K T.aA (pu 1)) (Ln K T.aA (pu 2))) (Qc (ZI XX rfl rfl T.aK T.aN G9 (by decide +kernel) G9 (Km Qi))) Qh) (Qc (Qf (Lz ["sort","word"] [none,none] (Bq K rfl rfl T.cP (Kq (pu 2) (pu 1))) (ON (n:=2) K rfl rfl (Qm (Ky 0) (Qm (Ky 1) QV))) QL (ZC (fQ T) (LG hr) rfl Fv (Kq (pu 0) (pu 1)))))))),?_⟩;left;rw[QS];refine⟨by trivial,f',blank,rfl,rfl,by decide,Za hf,by rw[a0,AB];omega,λp hp=>?_⟩;rw[a0];have g1:=Qd hp (.lst (ss.map V.str));have J:Kv K (upd H p (.lst (ss.map V.str))) p (ss.map V.str):=G5 Qb;generalize upd H p (.lst (ss.map V.str))=H1 at *;refine Q7 (g1.seq hw) (Q7 J ?_);rw[As,As,a6];left;simp only[QX,LK];left;refine⟨p,a,rfl,⟨_,J⟩,⟨_,g1.seq hw⟩,SE (xs:=ss.map V.str) (ys:=ws.map V.str) (rj K ds H1) (by rw[As,As,a6]) ⟨none,none,rfl,G7 _,rfl,λi a b h=>by simp at h⟩ (λi acc σ' H' h=>by obtain⟨_,_,_,g',_⟩:=h;exact⟨g'.seq J,(g1.trans g').seq hw⟩) (by rw[As];omega) ?_ ?_⟩
 ·rintro i x y acc _ H2 p2 hx hy a9 ⟨x0,x1,rfl,g,hA⟩ hp2;rw[AS] at hx hy;obtain⟨sx,a5,rfl⟩:=A8.mp hx;obtain⟨U,a4,rfl⟩:=A8.mp hy;have hi:i<ss.length:=(AU.mp a5).1;have g2:=Qd hp2 (.tup [.str sx,.str U]);have hT:Kt K (upd H2 p2 (.tup [.str sx,.str U])) p2 [.str sx,.str U]:=G6 Qb;generalize upd H2 p2 (.tup [.str sx,.str U])=H3 at *;obtain⟨d,hd⟩:∃d,ds[i]?=some d:=⟨_,Ax (by omega)⟩
  have hr:=a8 i _ _ _ a5 a4 hd;obtain⟨az,lz⟩:=a7 U (AG a4);left;simp only[Zw];left;refine⟨sx,U,rfl,rfl,az,lz,λd' e v H4 g3 hv=>?_,λe=>by rw[hr] at e;cases e⟩;rw[hr] at e;cases e;exact CN.mk (by rw[As];exact hi) (by rw[Aq,Av];omega) ⟨_,_,rfl,(g.trans g2).trans g3,K9 hA (λa b h=>h.mono (g2.trans g3)) hd hv⟩
 ·rintro acc _ H2 ⟨x0,x1,rfl,g,hA⟩ p2 hp2;have g2:=Qd hp2 (.lst acc);rw[AJ (by rw[As];omega)] at hA;exact q p2 acc _ ((g1.trans g).trans g2) ((g1.trans g).free hp2) Qb ⟨hA.1,λj a b h1 h2=>(hA.2 j a b h1 h2).mono g2⟩
inductive Itm where
 | base (a:Int)|each (a l h:Int)|rent (r s m:Int)|term (up:Bool) (n l h:Int)|pay (r s l h:Int)|cnt (z:Str) (r s:Int)|off (l r s:Int)|unt (a:Int)|rnd (u:Int) (z:Str)
variable {ks ks0:List (Str×List Itm)}
inductive Row where
 | kind (z:Str)|itm (x:Itm)|cap (a b:Int) (ns:List Str)
variable {rs:List Row}
abbrev nt (n:Int):Str:=Str.ofString (toString n)
def Itm.srt:Itm->Str
 | .base ..=>Str.ofString "base" | .each ..=>Str.ofString "each" | .rent ..=>Str.ofString "rent" | .term false ..=>Str.ofString "from" | .term true ..=>Str.ofString "upto" | .pay ..=>Str.ofString "pay" | .cnt ..=>Str.ofString "counts" | .off ..=>Str.ofString "off" | .unt ..=>Str.ofString "until" | .rnd ..=>Str.ofString "round"
def Row.srt:Row->Str
 | .kind _=>Str.ofString "kind" | .itm x=>x.srt|.cap ..=>Str.ofString "cap"
def Itm.ws:Itm->List Str
 | .base a=>[nt a]|.each a l h=>[nt a,nt l,nt h]|.rent r s m=>[Q6 r s,nt m]|.term _ n l h=>[nt n,nt l,nt h]|.pay r s l h=>[Q6 r s,nt l,nt h]|.cnt z r s=>[z,Q6 r s]|.off l r s=>[nt l,Q6 r s]|.unt a=>[nt a]|.rnd u z=>[nt u,z]
def Row.ws:Row->List Str
 | .kind z=>[z]|.itm x=>x.ws|.cap a b ns=>nt a::nt b::ns
def Itm.ds:Itm->List D
 | .base a=>[.int a]|.each a l h=>[.int a,.int l,.int h]|.rent r s m=>[fr r s,.int m]|.term _ n l h=>[.int n,.int l,.int h]|.pay r s l h=>[fr r s,.int l,.int h]|.cnt z r s=>[.str z,fr r s]|.off l r s=>[.int l,fr r s]|.unt a=>[.int a]|.rnd u z=>[.int u,.str z]
def Row.ds:Row->List D
 | .kind z=>[.str z]|.itm x=>x.ds|.cap a b ns=>.int a::.int b::ns.map D.str
abbrev q_ (s:String):Str:=Str.ofString s
def Itm.ss:Itm->List Str
 | .base _=>[q_ "AMOUNT"]|.each ..=>[q_ "AMOUNT",q_ "LOW",q_ "HIGH"]|.rent ..=>[q_ "RATE",q_ "MOST"]|.term ..=>[q_ "MANY",q_ "LOW",q_ "HIGH"]|.pay ..=>[q_ "RATE",q_ "LOW",q_ "HIGH"]|.cnt ..=>[q_ "NAME",q_ "RATE"]|.off ..=>[q_ "LIMIT",q_ "RATE"]|.unt _=>[q_ "LIMIT"]|.rnd ..=>[q_ "UNIT",q_ "WAY"]
def Row.ss:Row->List Str
 | .kind _=>[q_ "NAME"]|.itm x=>x.ss|.cap _ _ ns=>q_ "LIMIT" :: q_ "EACH" :: ns.map λ_=>q_ "NAME"
def Itm.fo:Itm->Str
 | .base _=>q_ "AMOUNT" | .each ..=>q_ "AMOUNT LOW HIGH" | .rent ..=>q_ "RATE MOST" | .term ..=>q_ "MANY LOW HIGH" | .pay ..=>q_ "RATE LOW HIGH" | .cnt ..=>q_ "NAME RATE" | .off ..=>q_ "LIMIT RATE" | .unt _=>q_ "LIMIT" | .rnd ..=>q_ "UNIT WAY"
def Row.fo:Row->Str
 | .kind _=>q_ "NAME" | .itm x=>x.fo|.cap ..=>q_ "LIMIT EACH NAME"
def Row.form:Row->Str
 | .cap _ _ ns=>q_ "LIMIT EACH NAME"++Txt.mul (q_ " NAME") (ns.length-1)
 | r=>r.fo
def Zn (r s:Int):Prop:=0<=r/\r<=9999/\1<=s/\s<=9999/\Int.gcd r s=1
def ZR (a:Int):Prop:=0<=a/\a<=1000000000
def Ve (l h:Int):Prop:=0<=l/\l<=h/\h<=150
def Xv (z:Str):Prop:=VF (.str z)=true
def Itm.Ok:Itm->Prop
 | .base a=>ZR a|.each a l h=>ZR a/\Ve l h|.rent r s m=>Zn r s/\ZR m|.term _ n l h=>(0<=n/\n<=60)/\Ve l h|.pay r s l h=>Zn r s/\Ve l h|.cnt z r s=>Xv z/\Zn r s|.off l r s=>ZR l/\Zn r s|.unt a=>ZR a|.rnd u z=>(1<=u/\u<=1000000000)/\JN z=true
def Row.Ok:Row->Prop
 | .kind z=>Xv z|.itm x=>x.Ok|.cap a b ns=>ZR a/\ZR b/\(∀z∈ns,Xv z)/\1<=ns.length/\ns.length<=8
theorem Gy {s}{m:Int}{n:Int}(e:Vy s=m)(h1:¬s=q_ "NAME")(h2:¬s=q_ "RATE")(h3:¬s=q_ "UNIT")(h4:¬s=q_ "WAY")(h0:0<=n)(hn:n<=m)(hm:m<=1000000000):OD s (nt n)=some (.int n):=by
 unfold OD;rw[Am h1,Am h2,Am h3,Am h4,e,Wg h0 hn hm];rfl
theorem YN {s}{n:Int}(h:s=q_ "AMOUNT"∨s=q_ "MOST"∨s=q_ "LIMIT"∨s=q_ "EACH")(ok:ZR n):OD s (nt n)=some (.int n):=by
 rcases h with rfl|rfl|rfl|rfl<;>exact Gy (m:=1000000000) (by decide +kernel) (by decide +kernel) (by decide +kernel) (by decide +kernel) (by decide +kernel) ok.1 ok.2 (by decide)
theorem WA {s}{n:Int}(h:s=q_ "LOW"∨s=q_ "HIGH")(h0:0<=n)(h1:n<=150):OD s (nt n)=some (.int n):=by
 rcases h with rfl|rfl<;>exact Gy (m:=150) (by decide +kernel) (by decide +kernel) (by decide +kernel) (by decide +kernel) (by decide +kernel) h0 h1 (by decide)
theorem Ph {n:Int}(h0:0<=n)(h1:n<=60):OD (q_ "MANY") (nt n)=some (.int n):=Gy (m:=60) (by decide +kernel) (by decide +kernel) (by decide +kernel) (by decide +kernel) (by decide +kernel) h0 h1 (by decide)
theorem Vn (h:Xv z):OD (q_ "NAME") z=some (.str z):=by
 unfold OD;rw[An rfl];exact An h
theorem Jf {s:Int}(h:Zn r s):OD (q_ "RATE") (Q6 r s)=some (fr r s):=by
 unfold OD;rw[Am (by decide +kernel),An rfl,Gv h.1 h.2.1 h.2.2.1 h.2.2.2.1 h.2.2.2.2];rfl
theorem Pg {u:Int}(h0:1<=u)(h1:u<=1000000000):OD (q_ "UNIT") (nt u)=some (.int u):=by
 have e:mn (nt u)=some u:=by
  unfold mn;rw[Wg (by omega) h1 (by decide)];exact Am (by omega)
 unfold OD;rw[Am (by decide +kernel),Am (by decide +kernel),An rfl,e];rfl
theorem HV (h:JN z=true):OD (q_ "WAY") z=some (.str z):=by
 unfold OD;rw[Am (by decide +kernel),Am (by decide +kernel),Am (by decide +kernel),An rfl,An h]
inductive Rds:List Str->List Str->List D->Prop
 | nil:Rds [] [] []
 | cons {s z:Str} {d:D} {ss ws:List Str} {ds:List D} (h:OD s z=some d) (r:Rds ss ws ds):Rds (s::ss) (z::ws) (d::ds)
theorem Rds.len:∀{ss ws}{ds},Rds ss ws ds->ws.length=ss.length/\ds.length=ss.length
 | _,_,_,.nil=>⟨rfl,rfl⟩
 | _,_,_,.cons _ r=>by obtain⟨a,b⟩:=r.len;exact⟨congrArg (·+1) a,congrArg (·+1) b⟩
theorem Rds.at:∀{ss ws}{ds},Rds ss ws ds->∀(i:Nat) s z d,ss[i]?=some s->ws[i]?=some z->ds[i]?=some d->OD s z=some d
 | _,_,_,.nil,i,_,_,_,h,_,_=>by simp at h
 | _,_,_,.cons h r,0,_,_,_,a,b,c=>by cases a;cases b;cases c;exact h
 | _,_,_,.cons h r,i+1,_,_,_,a,b,c=>r.at i _ _ _ (by simpa using a) (by simpa using b) (by simpa using c)
theorem KS:∀{ns},(∀z∈ns,Xv z)->Rds (ns.map λ_=>q_ "NAME") ns (ns.map D.str)
 | [],_=>.nil
 | _::_,h=>.cons (Vn (h _ AH)) (KS λz hz=>h z (AE _ hz))
theorem Row.reads {r:Row}(ok:r.Ok):Rds r.ss r.ws r.ds:=by
 cases r with
 | kind z=>exact .cons (Vn ok) .nil
 | cap a b ns=>exact .cons (YN (by simp) ok.1) (.cons (YN (by simp) ok.2.1) (KS ok.2.2.1))
 | itm x=>
  cases x with
  | base a=>exact .cons (YN (by simp) ok) .nil
  | each a l h=>obtain⟨h1,h2,U,J⟩:=ok;exact .cons (YN (by simp) h1) (.cons (WA (by simp) h2 (by omega)) (.cons (WA (by simp) (by omega) J) .nil))
  | rent r s m=>exact .cons (Jf ok.1) (.cons (YN (by simp) ok.2) .nil)
  | term u n l h=>obtain⟨h1,h2,U,J⟩:=ok;exact .cons (Ph h1.1 h1.2) (.cons (WA (by simp) h2 (by omega)) (.cons (WA (by simp) (by omega) J) .nil))
  | pay r s l h=>obtain⟨h1,h2,U,J⟩:=ok;exact .cons (Jf h1) (.cons (WA (by simp) h2 (by omega)) (.cons (WA (by simp) (by omega) J) .nil))
  | cnt z r s=>exact .cons (Vn ok.1) (.cons (Jf ok.2) .nil)
  | off l r s=>exact .cons (YN (by simp) ok.1) (.cons (Jf ok.2) .nil)
  | unt a=>exact .cons (YN (by simp) ok) .nil
  | rnd u z=>exact .cons (Pg ok.1.1 ok.1.2) (.cons (HV ok.2) .nil)
def Kh (z:Str):Prop:=Zk z/\z.length<=1000/\32∉z.cps.toList
theorem Q8 {n:Int}(h:ZR n):Kh (nt n):=⟨Jp h.1,A4 (len_num h.1 (by have:=h.2;omega)) (by decide),λhm=>by have:=Yy h.1 32 hm;omega⟩
theorem Z4 {s:Int}(h:Zn r s):Kh (Q6 r s):=by
 obtain⟨h1,h2,U,h4,_⟩:=h;obtain⟨a1,a2,a3⟩:=Q8 (n:=r) ⟨h1,by omega⟩;obtain⟨b1,b2,b3⟩:=Q8 (n:=s) ⟨by omega,by omega⟩;have la:(nt r).length<=100:=len_num h1 (by omega);have lb:(nt s).length<=100:=len_num (by omega) (by omega);refine⟨Li h1 U,?_,λJ=>?_⟩
 ·unfold Q6;split
  ·omega
  ·rw[QQ,QQ];show(nt r).length+1+(nt s).length<=1000;omega
 ·unfold Q6 at J;split at J
  ·exact a3 J
  ·rw[Wq,Wq] at J;rcases AK.mp J with J|J
   ·rcases AK.mp J with J|J
    ·exact a3 J
    ·exact absurd J (by decide)
   ·exact b3 J
theorem ZE (h:Xv z):Kh z:=by
 have h:(decide (1<=z.length)&&decide (z.length<=8)&&z.cps.toList.all W2)=true:=h;simp only[Iu,IW] at h;obtain⟨⟨_,h2⟩,h3⟩:=h;have U:∀c∈z.cps.toList,97<=c/\c<=122:=λc J=>by
  have:=Io.mp h3 c J;unfold W2 at this;simpa using this
 exact⟨Mi λc J=>by have:=U c J;omega,by omega,λhm=>by have:=U 32 hm;omega⟩
theorem KU (h:JN z=true):Kh z:=by
 have h:=IB h;simp at h;rcases h with rfl|rfl|rfl<;>exact⟨by show _=true;decide +kernel,by decide +kernel,by decide +kernel⟩
def Jd:List Str:=[q_ "kind",q_ "cap",q_ "base",q_ "each",q_ "rent",q_ "from",q_ "upto",q_ "pay",q_ "counts",q_ "off",q_ "until",q_ "round"]
theorem Ze:∀z∈Jd,Kh z:=by
 intro z J;unfold Jd at J;simp only[AF,List.not_mem_nil,or_false] at J;rcases J with rfl|rfl|rfl|rfl|rfl|rfl|rfl|rfl|rfl|rfl|rfl|rfl<;>exact⟨by show _=true;decide +kernel,by decide +kernel,by decide +kernel⟩
theorem Xw (r:Row):r.srt∈Jd:=by
 unfold Jd;cases r with
 | kind z=>simp[Row.srt]
 | cap a b ns=>simp[Row.srt]
 | itm x=>
  cases x with
  | term u n l h=>cases u<;>simp[Row.srt,Itm.srt]
  | _=>simp[Row.srt,Itm.srt]
theorem Row.plain {r:Row}(ok:r.Ok):∀z∈r.srt::r.ws,Kh z:=by
 have U:∀{n m:Int},0<=n->n<=m->m<=1000->Kh (nt n):=λa b c=>Q8 ⟨a,by omega⟩
 intro z J;rcases AF.mp J with rfl|J
 ·exact Ze _ (Xw r)
 ·cases r with
  | kind y=>rw[AA.mp J];exact ZE ok
  | cap a b ns=>
   rcases AF.mp J with rfl|J
   ·exact Q8 ok.1
   rcases AF.mp J with rfl|J
   ·exact Q8 ok.2.1
   ·exact ZE (ok.2.2.1 z J)
  | itm x=>
   cases x with
   | base a=>rw[AA.mp J];exact Q8 ok
   | unt a=>rw[AA.mp J];exact Q8 ok
   | each a l h=>
    obtain⟨h1,h2,h3,h4⟩:=ok;have J:z=nt a∨z=nt l∨z=nt h:=by simpa[Row.ws,Itm.ws] using J
    rcases J with rfl|rfl|rfl
    ·exact Q8 h1
    ·exact U h2 (by omega:l<=150) (by decide)
    ·exact U (by omega) h4 (by decide)
   | term u n l h=>
    obtain⟨h1,h2,h3,h4⟩:=ok;have J:z=nt n∨z=nt l∨z=nt h:=by simpa[Row.ws,Itm.ws] using J
    rcases J with rfl|rfl|rfl
    ·exact U h1.1 h1.2 (by decide)
    ·exact U h2 (by omega:l<=150) (by decide)
    ·exact U (by omega) h4 (by decide)
   | pay r s l h=>
    obtain⟨h1,h2,h3,h4⟩:=ok;have J:z=Q6 r s∨z=nt l∨z=nt h:=by simpa[Row.ws,Itm.ws] using J
    rcases J with rfl|rfl|rfl
    ·exact Z4 h1
    ·exact U h2 (by omega:l<=150) (by decide)
    ·exact U (by omega) h4 (by decide)
   | rent r s m=>
    have J:z=Q6 r s∨z=nt m:=by simpa[Row.ws,Itm.ws] using J
    rcases J with rfl|rfl
    ·exact Z4 ok.1
    ·exact Q8 ok.2
   | cnt y r s=>
    have J:z=y∨z=Q6 r s:=by simpa[Row.ws,Itm.ws] using J
    rcases J with rfl|rfl
    ·exact ZE ok.1
    ·exact Z4 ok.2
   | off l r s=>
    have J:z=nt l∨z=Q6 r s:=by simpa[Row.ws,Itm.ws] using J
    rcases J with rfl|rfl
    ·exact Q8 ok.1
    ·exact Z4 ok.2
   | rnd u y=>
    have J:z=nt u∨z=y:=by simpa[Row.ws,Itm.ws] using J
    rcases J with rfl|rfl
    ·exact Q8 ⟨by have:=ok.1.1;omega,ok.1.2⟩
    ·exact KU ok.2
theorem UN (r:Row):Xu UC (Sum.inr r.srt)=some (.str r.fo):=by
 cases r with
 | kind z=>kernel_rfl
 | cap a b ns=>kernel_rfl
 | itm x=>
  cases x with
  | term u n l h=>cases u<;>kernel_rfl
  | _=>kernel_rfl
theorem JZ (n:Nat)(h1:1<=n)(h8:n<=8):PySem.MulOk (q_ " NAME") ((n:Int)-1)/\(q_ "LIMIT EACH NAME"++Txt.mul (q_ " NAME") ((n:Int)-1)).length<=100/\Txt.split (q_ "LIMIT EACH NAME"++Txt.mul (q_ " NAME") ((n:Int)-1)) blank=q_ "LIMIT" :: q_ "EACH" :: List.replicate n (q_ "NAME")/\Txt.endswith (q_ "LIMIT EACH NAME"++Txt.mul (q_ " NAME") ((n:Int)-1)) (q_ "LOW HIGH")=false:=by
 have J:∀n:Nat,n<9->1<=n->(q_ "LIMIT EACH NAME"++Txt.mul (q_ " NAME") ((n:Int)-1)).length<=100/\Txt.split (q_ "LIMIT EACH NAME"++Txt.mul (q_ " NAME") ((n:Int)-1)) blank=q_ "LIMIT" :: q_ "EACH" :: List.replicate n (q_ "NAME")/\Txt.endswith (q_ "LIMIT EACH NAME"++Txt.mul (q_ " NAME") ((n:Int)-1)) (q_ "LOW HIGH")=false:=by decide +kernel
 refine⟨?_,J n (by omega) h1⟩;have e:(q_ " NAME").length=5:=by decide +kernel
 refine⟨?_,?_,?_⟩
 ·rw[Bool.or_eq_false_iff];exact⟨AV (by omega),AV (by omega)⟩
 ·intro hn _;rw[e];rcases(show n=2∨n=3∨n=4∨n=5∨n=6∨n=7∨n=8 by omega) with rfl|rfl|rfl|rfl|rfl|rfl|rfl<;>decide
 ·intro hn _;rw[e];rcases(show n=2∨n=3∨n=4∨n=5∨n=6∨n=7∨n=8 by omega) with rfl|rfl|rfl|rfl|rfl|rfl|rfl<;>decide
theorem L9 {r:Row}(ok:r.Ok):Txt.split r.form blank=r.ss/\r.form.length<=1000/\r.ss.length<=100:=by
 cases r with
 | kind z=>exact⟨by kernel_rfl,G8 (by kernel_rfl),G8 (by kernel_rfl)⟩
 | cap a b ns=>
  obtain⟨h1,h2,J,_⟩:=JZ ns.length ok.2.2.2.1 ok.2.2.2.2;refine⟨?_,by show Str.length _<=1000;exact A4 h2 (by decide),?_⟩
  ·show Txt.split _ blank=q_ "LIMIT" :: q_ "EACH" :: ns.map λ_=>q_ "NAME"
   rw[List.map_const'];exact J
  ·show(ns.map λ_=>q_ "NAME").length+1+1<=100;rw[As];have:=ok.2.2.2.2;omega
 | itm x=>
  cases x with
  | term u n l h=>cases u<;>exact⟨by kernel_rfl,G8 (by kernel_rfl),G8 (by kernel_rfl)⟩
  | _=>exact⟨by kernel_rfl,G8 (by kernel_rfl),G8 (by kernel_rfl)⟩
inductive Xl (K)(x:V)(H)(Q:VK)(E:XK):Prop
 | mk (r:Row) (a:Addr) (h1:x=.ref a) (h2:Kv K H a ((r.srt::r.ws).map V.str)) (h3:r.Ok) (h4:∀H',Same H H'->Q (.str r.form) H'):Xl K x H Q E
theorem R0 {r:Row}:r.srt=q_ "cap"->∃a b ns,r=.cap a b ns:=by
 intro h;cases r with
 | kind z=>exact absurd h (by show¬(q_ "kind"=q_ "cap");decide +kernel)
 | cap a b ns=>exact⟨a,b,ns,rfl⟩
 | itm x=>
  cases x with
  | base=>exact absurd h (by show¬(q_ "base"=q_ "cap");decide +kernel)
  | each=>exact absurd h (by show¬(q_ "each"=q_ "cap");decide +kernel)
  | rent=>exact absurd h (by show¬(q_ "rent"=q_ "cap");decide +kernel)
  | term u n l h'=>
   cases u with
   | false=>exact absurd h (by show¬(q_ "from"=q_ "cap");decide +kernel)
   | true=>exact absurd h (by show¬(q_ "upto"=q_ "cap");decide +kernel)
  | pay=>exact absurd h (by show¬(q_ "pay"=q_ "cap");decide +kernel)
  | cnt=>exact absurd h (by show¬(q_ "counts"=q_ "cap");decide +kernel)
  | off=>exact absurd h (by show¬(q_ "off"=q_ "cap");decide +kernel)
  | unt=>exact absurd h (by show¬(q_ "until"=q_ "cap");decide +kernel)
  | rnd=>exact absurd h (by show¬(q_ "round"=q_ "cap");decide +kernel)
theorem fW (T:Tx w K mg):W5 P w K mg base 1 "form_of" ["words"] (Rp1M (Xl K)):=by
 refine VT T 78 ["words","form","further"] Lj λH Q dn hr h=>?_
 obtain⟨_,rfl,r,a,rfl,J,ok,q⟩:=h;refine⟨_,(Qa (Qn (Bl (MF T.cU (Ko K 0))) (Qc (ZI XX rfl rfl T.aK T.aN G9 (by decide +kernel) G9 (Km Qi))) Qh) (Qa (Ks 1 (Wc T.cU (Ko K 0) (λ_ _=>rfl))) (Qa (Qn (Ku (QR K) (Ko K 0) Qi) (Qa (Ks 2 (Qg ZK (Qg ZK (Ln K T.aA (pu 0)) Qe) (Ln K T.aA (QA K rfl Gc Jb Jc JF (pu 1) (Km Qi))))) (Qc (Qf (Qg Qu (pu 1) (Qg Wf Qi (pu 2)))))) Qh) (Qc (Qf (pu 1)))))),?_⟩;left;simp only[tB,Nl,Nm];left;have U:Nd ((r.srt::r.ws).map V.str) 0=some (.str r.srt):=QZ (j:=0) rfl;refine QO J U ⟨Sum.inr r.srt,rfl,?_⟩;rw[UN];left;refine QO J U ⟨Sum.inr r.srt,_,rfl,UN r,?_⟩;left;refine QO J U ?_;left;refine Qo (λc=>?_) (λc=>?_)
 ·obtain⟨x,y,ns,rfl⟩:=R0 c;obtain⟨k1,k2,_⟩:=JZ ns.length ok.2.2.2.1 ok.2.2.2.2;refine Q7 J ?_;left;rw[QS];have sp:Txt.split (q_ "LIMIT EACH NAME") blank=[q_ "LIMIT",q_ "EACH",q_ "NAME"]:=by decide +kernel
  refine⟨by trivial,_,blank,rfl,rfl,by decide,Za (show(q_ "LIMIT EACH NAME").length<=1000 by decide +kernel),by show(Txt.split (q_ "LIMIT EACH NAME") blank).length<=_;rw[sp,AB];decide,λp hp=>?_⟩;have g1:=Qd hp (.lst ((Txt.split (q_ "LIMIT EACH NAME") blank).map V.str));have a0:(upd H p (.lst ((Txt.split (q_ "LIMIT EACH NAME") blank).map V.str))) p=some (.lst ([q_ "LIMIT",q_ "EACH",q_ "NAME"].map V.str)):=by rw[Qb,sp]
  show Bh K [.ref p] (upd H p (.lst ((Txt.split (q_ "LIMIT EACH NAME") blank).map V.str))) _;generalize upd H p (.lst ((Txt.split (q_ "LIMIT EACH NAME") blank).map V.str))=H1 at *;refine Q7 (G5 a0) ?_;left;have e:((((Row.cap x y ns).srt::(Row.cap x y ns).ws).map V.str).length:Int)-1-(([q_ "LIMIT",q_ "EACH",q_ "NAME"].map V.str).length:Nat)=(ns.length:Int)-1:=by
   rw[As];show((ns.length+1+1+1:Nat):Int)-1-(3:Nat)=_;omega
  rw[e];left;refine⟨k1,?_⟩;show sAdd (V.str (q_ "LIMIT EACH NAME")) (V.str (Txt.mul (q_ " NAME") ((ns.length:Int)-1))) H1 Q;left;rw[QQ] at k2;exact⟨Za (by omega),q _ g1⟩
 ·have e:r.form=r.fo:=by
   cases r with
   | cap=>exact absurd rfl c
   | kind=>rfl
   | itm=>rfl
  rw [<-e];exact q _ (G7 _)
inductive U8 (K)(x:V)(H)(Q:VK)(E:XK):Prop
 | mk (r:Row) (a:Addr) (h1:x=.ref a) (h2:Kv K H a ((r.srt::r.ws).map V.str)) (h3:r.Ok) (h4:∀p vs H',Same H H'->H p=none->H' p=some (.lst vs)->All2 (Pv K H') r.ds vs->Q (.ref p) H'):U8 K x H Q E
theorem Tu {r:Row}(ok:r.Ok)(h:Txt.endswith r.form (q_ "LOW HIGH")=true):∃d l h',r.ds=[d,.int l,.int h']/\l<=h':=by
 cases r with
 | kind z=>exact absurd (h.symm.trans (show _=false by kernel_rfl)) (by decide)
 | cap a b ns=>exact absurd (h.symm.trans (JZ ns.length ok.2.2.2.1 ok.2.2.2.2).2.2.2) (by decide)
 | itm x=>
  cases x with
  | each a l h'=>exact⟨_,l,h',rfl,ok.2.2.1⟩
  | term u n l h'=>exact⟨_,l,h',rfl,ok.2.2.1⟩
  | pay r s l h'=>exact⟨_,l,h',rfl,ok.2.2.1⟩
  | _=>exact absurd (h.symm.trans (show _=false by kernel_rfl)) (by decide)
theorem fX (T:Tx w K mg):W5 P w K mg base 6 "values_of" ["words"] (Rp1M (U8 K)):=by
 refine VT T 79 ["words","form","values"] Lj λH Q dn hr h=>?_
 obtain⟨_,rfl,r,a,rfl,hw,ok,q⟩:=h;refine⟨_,(Qa (Ks 1 (ZC (fW T) (LG hr) rfl (Yd λ_ _ h=>h) (Km (pu 0)))) (Qa (Ks 2 (ZC (fU T) (LG hr) rfl (Yd λ_ _ h=>h) (Kq (pu 1) (Zy (lY K rfl) (pu 0) (ZA Qe) Xy)))) (Qa (Qn (PW.pt (Zu (QN (QA K rfl Gc PySem.F.slot_str_endswith PySem.F.type_str_endswith Uu (pu 1) (Km Qi))) (Zo (Ku XY (LD K (pu 2) OC) (LD K (pu 2) OC))))) (Qc (ZI XX rfl rfl T.aK T.aN G9 (by decide +kernel) G9 (Km Qi))) Qh) (Qc (Qf (pu 2)))))),?_⟩;left;refine⟨r,a,rfl,hw,ok,λH1 g1=>?_⟩;left;refine YF (g1.seq hw) λp hp=>?_
 rw[show Yp ((r.srt::r.ws).map V.str) (some 1) none=r.ws.map V.str from JT _ 1];have g2:=Qd hp (.lst (r.ws.map V.str));have a4:Kv K (upd H1 p (.lst (r.ws.map V.str))) p (r.ws.map V.str):=G5 Qb;generalize upd H1 p (.lst (r.ws.map V.str))=H2 at *;obtain⟨f1,f2,f3⟩:=L9 ok;obtain⟨l1,l2⟩:=(r.reads ok).len;refine⟨r.form,p,r.ws,r.ss,r.ds,rfl,rfl,a4,f1,f2,f3,l1,λz hz=>?_,l2,(r.reads ok).at,λp3 vs H3 g3 a0 J U=>?_⟩
 ·obtain⟨a1,a2,_⟩:=r.plain ok z (AE _ hz);exact⟨a1,a2⟩
 have gg:=(g1.trans g2).trans g3;refine⟨by trivial,_,_,rfl,rfl,?_⟩;left;refine Qo (λc=>?_) (λc=>q _ _ _ gg ((g1.trans g2).free a0) J U);obtain⟨d,l,h',ed,a5⟩:=Tu ok c;rw[ed] at U;obtain⟨v0,v1,v2,rfl⟩:∃v0 v1 v2,vs=[v0,v1,v2]:=by
  have:=U.1
  match vs,this with
  | [v0,v1,v2],_=>exact⟨_,_,_,rfl⟩
 have r1:=U.2 1 _ _ rfl rfl;have r2:=U.2 2 _ _ rfl rfl;cases r1;cases r2;refine QO (G5 J) (v:=.int l) rfl (QO (G5 J) (v:=.int h') rfl ?_);left;rw[Am (by omega)];exact q _ _ _ gg ((g1.trans g2).free a0) J (by rw[ed];exact U)
theorem XH (f)(v):∀fs,(QM f v fs).length<=fs.length+1
 | []=>Au _
 | (g,x)::r=>by
  unfold QM;split
  ·simp
  ·have:=XH f v r;simp;omega
def Oth (p:Addr)(H H':Hp):Prop:=∀c u,c≠p->H c=some u->H' c=some u
theorem Oth.refl (p)(H):Oth p H H:=λ_ _ _ h=>h
theorem Oth.put (h:Oth p H H'):Oth p H (upd H' p o):=λc u e k=>by rw[Qk e];exact h c u e k
theorem Oth.new (h:Oth p H H')(hl:H' l=none):Oth p H (upd H' l o):=λc u e k=>(Qd hl o) _ _ (h c u e k)
abbrev nU (C x dx:Addr)(H:Hp):Hp:=upd (upd H dx (.own x)) x (.ins C dx [])
theorem XZ {x}:nU C x dx H x=some (.ins C dx []):=Qb
theorem Zz {x}(hx:H x=none)(hd:H dx=none)(g:Oth x (nU C x dx H) H'):Same H H':=λb o h=>by
 have h1:b≠x:=Qj h hx;have h2:b≠dx:=Qj h hd;refine g b o h1 ?_;show upd (upd H dx (.own x)) x (.ins C dx []) b=some o;rw[Qk h1,Qk h2];exact h
inductive oB (C)(f1)(x y:V)(H:Hp)(Q:VK):Prop
 | mk (p dx:Addr) (h1:x=.ref p) (h5:H p=some (.ins C dx [])) (h6:∀H',Oth p H H'->H' p=some (.ins C dx (QM f1 y []))->Q .non H'):oB C f1 x y H Q
inductive oA (C)(f1 f2)(x y z:V)(H:Hp)(Q:VK):Prop
 | mk (p dx:Addr) (h1:x=.ref p) (h5:H p=some (.ins C dx [])) (h6:∀H',Oth p H H'->H' p=some (.ins C dx (QM f2 z (QM f1 y [])))->Q .non H'):oA C f1 f2 x y z H Q
inductive lh (C)(f1 f2 f3)(x y z u:V)(H:Hp)(Q:VK):Prop
 | mk (p dx:Addr) (h1:x=.ref p) (h5:H p=some (.ins C dx [])) (h6:∀H',Oth p H H'->H' p=some (.ins C dx (QM f3 u (QM f2 z (QM f1 y []))))->Q .non H'):lh C f1 f2 f3 x y z u H Q
theorem len1 {f}:(QM f v []).length<1000:=IT (XH _ _ _) (by decide)
theorem len2 {f g}{u}:(QM g u (QM f v [])).length<1000:=IT (A4 (XH _ _ _) (Nat.succ_le_succ (XH _ _ _))) (by decide)
theorem fY (T:Tx w K mg):Kk P w K mg base 1 t.zI ["self","amount"] (Sp2M (oB t.zI "amount")):=by
 refine U0 T 6600 ["self","amount"] Zd λH Q J U h=>?_
 obtain⟨_,_,rfl,p,dx,rfl,hp,q⟩:=h;refine⟨_,(Qc (QF K rfl (pu 0) (pu 1))),?_⟩;left;exact X3 hp T.aU T.bW (by decide) (q _ (Oth.refl _ _).put Qb)
theorem fZ (T:Tx w K mg):Kk P w K mg base 1 t.zJ ["self","amount","low","high"] (Sp4M (lh t.zJ "amount" "low" "high")):=by
 refine U0 T 6700 ["self","amount","low","high"] G4 λH Q J U h=>?_
 obtain⟨_,_,_,_,rfl,p,dx,rfl,hp,q⟩:=h;refine⟨_,(Qa (QF K rfl (pu 0) (pu 1)) (Qa (QF K rfl (pu 0) (pu 2)) (Qc (QF K rfl (pu 0) (pu 3))))),?_⟩;left;refine X3 hp T.aE T.bX (by decide) ?_;left;refine X3 Qb T.aE T.bY len1 ?_;left;exact X3 Qb T.aE T.bZ len2 (q _ (Oth.refl _ _).put.put.put Qb)
theorem gI (T:Tx w K mg):Kk P w K mg base 1 t.zK ["self","rate","most"] (Sp3M (oA t.zK "rate" "most")):=by
 refine U0 T 6800 ["self","rate","most"] Wp λH Q J U h=>?_
 obtain⟨_,_,_,rfl,p,dx,rfl,hp,q⟩:=h;refine⟨_,(Qa (QF K rfl (pu 0) (pu 1)) (Qc (QF K rfl (pu 0) (pu 2)))),?_⟩;left;refine X3 hp T.aO T.c7 (by decide) ?_;left;exact X3 Qb T.aO T.c8 len1 (q _ (Oth.refl _ _).put.put Qb)
theorem gK (T:Tx w K mg):Kk P w K mg base 1 t.zM ["self","many","low","high"] (Sp4M (lh t.zM "many" "low" "high")):=by
 refine U0 T 7000 ["self","many","low","high"] G4 λH Q J U h=>?_
 obtain⟨_,_,_,_,rfl,p,dx,rfl,hp,q⟩:=h;refine⟨_,(Qa (QF K rfl (pu 0) (pu 1)) (Qa (QF K rfl (pu 0) (pu 2)) (Qc (QF K rfl (pu 0) (pu 3))))),?_⟩;left;refine X3 hp T.aF T.c9 (by decide) ?_;left;refine X3 Qb T.aF T.cA len1 ?_;left;exact X3 Qb T.aF T.cB len2 (q _ (Oth.refl _ _).put.put.put Qb)
theorem gL (T:Tx w K mg):Kk P w K mg base 1 t.zN ["self","many","low","high"] (Sp4M (lh t.zN "many" "low" "high")):=by
 refine U0 T 7100 ["self","many","low","high"] G4 λH Q J U h=>?_
 obtain⟨_,_,_,_,rfl,p,dx,rfl,hp,q⟩:=h;refine⟨_,(Qa (QF K rfl (pu 0) (pu 1)) (Qa (QF K rfl (pu 0) (pu 2)) (Qc (QF K rfl (pu 0) (pu 3))))),?_⟩;left;refine X3 hp T.aG T.cD (by decide) ?_;left;refine X3 Qb T.aG T.cE len1 ?_;left;exact X3 Qb T.aG T.cG len2 (q _ (Oth.refl _ _).put.put.put Qb)
def fB (a:V):List (Str×V):=QM "amount" a []
def fE (a l h:V):List (Str×V):=QM "high" h (QM "low" l (QM "amount" a []))
def fR (r m:V):List (Str×V):=QM "most" m (QM "rate" r [])
def fT (n l h:V):List (Str×V):=QM "high" h (QM "low" l (QM "many" n []))
inductive PIt (K)(t:OP)(H:Hp):Itm->V->Prop
 | base (a:Int) (x dx:Addr) (h:H x=some (.ins t.zI dx (fB (.int a)))):PIt K t H (.base a) (.ref x)
 | each (a l h':Int) (x dx:Addr) (h:H x=some (.ins t.zJ dx (fE (.int a) (.int l) (.int h')))):PIt K t H (.each a l h') (.ref x)
 | rent (r s m:Int) (x dx p:Addr) (h:H x=some (.ins t.zK dx (fR (.ref p) (.int m)))) (hp:Kt K H p [.int r,.int s]):PIt K t H (.rent r s m) (.ref x)
 | from' (n l h':Int) (x dx:Addr) (h:H x=some (.ins t.zM dx (fT (.int n) (.int l) (.int h')))):PIt K t H (.term false n l h') (.ref x)
 | upto (n l h':Int) (x dx:Addr) (h:H x=some (.ins t.zN dx (fT (.int n) (.int l) (.int h')))):PIt K t H (.term true n l h') (.ref x)
 | pay (r s l h':Int) (x p:Addr) (h:Kt K H x [.ref p,.int l,.int h']) (hp:Kt K H p [.int r,.int s]):PIt K t H (.pay r s l h') (.ref x)
 | cnt (z:Str) (r s:Int) (x p:Addr) (h:Kt K H x [.str z,.ref p]) (hp:Kt K H p [.int r,.int s]):PIt K t H (.cnt z r s) (.ref x)
 | off (l r s:Int) (x p:Addr) (h:Kt K H x [.int l,.ref p]) (hp:Kt K H p [.int r,.int s]):PIt K t H (.off l r s) (.ref x)
 | unt (a:Int) (x:Addr) (h:Kt K H x [.int a]):PIt K t H (.unt a) (.ref x)
 | rnd (u:Int) (z:Str) (x:Addr) (h:Kt K H x [.int u,.str z]):PIt K t H (.rnd u z) (.ref x)
def Kp (N:Addr->Prop)(H H':Hp):Prop:=∀b o,H b=some o->(N b∨∀vs,o≠.lst vs)->H' b=some o
theorem Kp.of (g:Same H H'):Kp N H H':=λb o h _=>g b o h
theorem Kp.trans (a:Kp N H H1)(b:Kp N H1 H2):Kp N H H2:=λc o h k=>b c o (a c o h k) k
theorem Kp.sqT (g:Kp N H H')(h:Kt K H p xs):Kt K H' p xs:=by
 rcases h with (h|⟨o,h⟩)|h
 ·exact .inl (.inl (g _ _ h (.inr λvs e=>nomatch e)))
 ·exact .inl (.inr ⟨o,g _ _ h (.inr λvs e=>nomatch e)⟩)
 ·exact .inr h
theorem Kp.ins {fs:List (Str×V)}(g:Kp N H H')(h:H p=some (.ins C dx fs)):H' p=some (.ins C dx fs):=g _ _ h (.inr λvs e=>nomatch e)
theorem PIt.kp {t}(g:Kp N H H'){x}{v}(h:PIt K t H x v):PIt K t H' x v:=by
 cases h with
 | base a x dx h=>exact .base a x dx (g.ins h)
 | each a l h' x dx h=>exact .each a l h' x dx (g.ins h)
 | rent r s m x dx p h hp=>exact .rent r s m x dx p (g.ins h) (g.sqT hp)
 | from' n l h' x dx h=>exact .from' n l h' x dx (g.ins h)
 | upto n l h' x dx h=>exact .upto n l h' x dx (g.ins h)
 | pay r s l h' x p h hp=>exact .pay r s l h' x p (g.sqT h) (g.sqT hp)
 | cnt z r s x p h hp=>exact .cnt z r s x p (g.sqT h) (g.sqT hp)
 | off l r s x p h hp=>exact .off l r s x p (g.sqT h) (g.sqT hp)
 | unt a x h=>exact .unt a x (g.sqT h)
 | rnd u z x h=>exact .rnd u z x (g.sqT h)
theorem o7 {d}(h:All2 (Pv K H) [d] vs):∃v,vs=[v]/\Pv K H d v:=by
 match vs,h with
 | [v],h=>exact⟨v,rfl,h.2 0 _ _ rfl rfl⟩
theorem nN {d e}(h:All2 (Pv K H) [d,e] vs):∃v u,vs=[v,u]/\Pv K H d v/\Pv K H e u:=by
 match vs,h with
 | [v,u],h=>exact⟨v,u,rfl,h.2 0 _ _ rfl rfl,h.2 1 _ _ rfl rfl⟩
theorem pZ {d e f}(h:All2 (Pv K H) [d,e,f] vs):∃v u w,vs=[v,u,w]/\Pv K H d v/\Pv K H e u/\Pv K H f w:=by
 match vs,h with
 | [v,u,w],h=>exact⟨v,u,w,rfl,h.2 0 _ _ rfl rfl,h.2 1 _ _ rfl rfl,h.2 2 _ _ rfl rfl⟩
theorem Zv {i:Int}(h:Pv K H (.int i) v):v=.int i:=by cases h;rfl
theorem YO (h:Pv K H (.str z) v):v=.str z:=by cases h;rfl
theorem NH {s:Int}(h:Pv K H (fr r s) v):∃p,v=.ref p/\Kt K H p [.int r,.int s]:=by cases h with|rt _ _ p h=>exact⟨p,rfl,h⟩
inductive O2 (K)(t:OP)(x y:V)(H:Hp)(Q:VK):Prop
 | mk (x':Itm) (a:Addr) (vs:List V) (h1:x=.str x'.srt) (h2:y=.ref a) (h3:Kv K H a vs) (h4:All2 (Pv K H) x'.ds vs) (h5:∀v H',Same H H'->PIt K t H' x' v->Q v H'):O2 K t x y H Q
theorem gM (T:Tx w K mg):LB P w K mg base 3 "thing_of" ["sort","values"] (Sp2M (O2 K t)):=by
 refine QI T 80 ["sort","values"] Zd λH Q dn hr h=>?_
 obtain⟨_,_,rfl,x,a,vs,rfl,rfl,hL,hA,q⟩:=h;refine⟨_,(Qa (Qn (Ku (QR K) (pu 0) Qi) (Qc (Qf (YR (fY T) (LG hr) rfl T.eE (Km (Ko K 1))))) Qh) (Qa (Qn (Ku (QR K) (pu 0) Qi) (Qc (Qf (YR (fZ T) (LG hr) rfl T.eF (Lu (Ko K 1) (Ko K 1) (Ko K 1))))) Qh) (Qa (Qn (Ku (QR K) (pu 0) Qi) (Qc (Qf (YR (gI T) (LG hr) rfl T.eG (Kq (Ko K 1) (Ko K 1))))) Qh) (Qa (Qn (Ku (QR K) (pu 0) Qi) (Qc (Qf (YR (gK T) (LG hr) rfl T.eI (Lu (Ko K 1) (Ko K 1) (Ko K 1))))) Qh) (Qa (Qn (Ku (QR K) (pu 0) Qi) (Qc (Qf (YR (gL T) (LG hr) rfl T.eJ (Lu (Ko K 1) (Ko K 1) (Ko K 1))))) Qh) (Qc (Qf (QD (Hv K rfl) (by rfl) T.bD boot_tuple (Km (pu 1)))))))))),?_⟩;have tp:(∀p H',Same H H'->H' p=some (.tup vs)->Q (.ref p) H')->Bg K [.ref a] H Q:=λk=>⟨a,vs,rfl,.inl ⟨hL,λl hl=>k l _ (Qd hl _) Qb⟩⟩
 cases x with
 | base n=>
  obtain⟨v,rfl,h1⟩:=o7 hA;cases Zv h1;dsimp only[Itm.srt];left;intro x dx U hd _;exact⟨x,dx,rfl,XZ,λH' g hp=>⟨rfl,q _ _ (Zz U hd g) (.base n x dx hp)⟩⟩
 | each n l h'=>
  obtain⟨v,v2,v3,rfl,h1,h2,h3⟩:=pZ hA;cases Zv h1;cases Zv h2;cases Zv h3;dsimp only[Itm.srt];left;intro x dx U hd _;exact⟨x,dx,rfl,XZ,λH' g hp=>⟨rfl,q _ _ (Zz U hd g) (.each n l h' x dx hp)⟩⟩
 | rent r s' m=>
  obtain⟨v,v2,rfl,h1,h2⟩:=nN hA;obtain⟨p,rfl,J⟩:=NH h1;cases Zv h2;dsimp only[Itm.srt];left;intro x dx U hd _;exact⟨x,dx,rfl,XZ,λH' g hp=>⟨rfl,q _ _ (Zz U hd g) (.rent r s' m x dx p hp ((Zz U hd g).sqT J))⟩⟩
 | term u n l h'=>
  obtain⟨v,v2,v3,rfl,h1,h2,h3⟩:=pZ hA;cases Zv h1;cases Zv h2;cases Zv h3;cases u with
  | false=>
   dsimp only[Itm.srt];left;intro x dx U hd _;exact⟨x,dx,rfl,XZ,λH' g hp=>⟨rfl,q _ _ (Zz U hd g) (.from' n l h' x dx hp)⟩⟩
  | true=>
   dsimp only[Itm.srt];left;intro x dx U hd _;exact⟨x,dx,rfl,XZ,λH' g hp=>⟨rfl,q _ _ (Zz U hd g) (.upto n l h' x dx hp)⟩⟩
 | pay r s' l h'=>
  obtain⟨v,v2,v3,rfl,h1,h2,h3⟩:=pZ hA;obtain⟨p,rfl,J⟩:=NH h1;cases Zv h2;cases Zv h3;dsimp only[Itm.srt];left;exact tp λp2 H' g hp=>q _ _ g (.pay r s' l h' p2 p (G6 hp) (g.sqT J))
 | cnt z r s'=>
  obtain⟨v,v2,rfl,h1,h2⟩:=nN hA;cases YO h1;obtain⟨p,rfl,J⟩:=NH h2;dsimp only[Itm.srt];left;exact tp λp2 H' g hp=>q _ _ g (.cnt z r s' p2 p (G6 hp) (g.sqT J))
 | off l r s'=>
  obtain⟨v,v2,rfl,h1,h2⟩:=nN hA;cases Zv h1;obtain⟨p,rfl,J⟩:=NH h2;dsimp only[Itm.srt];left;exact tp λp2 H' g hp=>q _ _ g (.off l r s' p2 p (G6 hp) (g.sqT J))
 | unt n=>
  obtain⟨v,rfl,h1⟩:=o7 hA;cases Zv h1;dsimp only[Itm.srt];left;exact tp λp2 H' g hp=>q _ _ g (.unt n p2 (G6 hp))
 | rnd u z=>
  obtain⟨v,v2,rfl,h1,h2⟩:=nN hA;cases Zv h1;cases YO h2;dsimp only[Itm.srt];left;exact tp λp2 H' g hp=>q _ _ g (.rnd u z p2 (G6 hp))
def Itm.sl:Itm->Nat
 | .base ..=>0|.each ..=>0|.rent ..=>0|.term ..=>1|.pay ..=>2|.cnt ..=>3|.off ..=>4|.unt ..=>5|.rnd ..=>6
theorem Xn (x:Itm):x.sl<7:=by cases x<;>exact G8 rfl
def sn:Nat->Str
 | 0=>q_ "parts" | 1=>q_ "terms" | 2=>q_ "pays" | 3=>q_ "counts" | 4=>q_ "offs" | 5=>q_ "untils" | _=>q_ "rounds"
def mo:Nat->Int
 | 0=>6|1=>6|2=>4|4=>6|_=>1
def os6:List Nat:=[0,1,2,4,5,6]
theorem JI (x:Itm):Xu UB (Sum.inr x.srt)=some (.str (sn x.sl)):=by
 cases x with
 | term u n l h=>cases u<;>kernel_rfl
 | _=>kernel_rfl
theorem Vz:kd_LONGEST.map (·.1)=os6.map λj=>Sum.inr (sn j):=by kernel_rfl
theorem GM (h:j<7)(h3:j≠3):Xu kd_LONGEST (Sum.inr (sn j))=some (.int (mo j)):=by
 rcases(show j=0∨j=1∨j=2∨j=4∨j=5∨j=6 by omega) with rfl|rfl|rfl|rfl|rfl|rfl<;>kernel_rfl
def o8 (z:Str)(q:Nat->Addr):List (Key×V):=[(Sum.inr (q_ "title"),.str z),(Sum.inr (q_ "counts"),.ref (q 3))]++os6.map λj=>(Sum.inr (sn j),.ref (q j))
theorem MY {q}:Xu (o8 z q) (Sum.inr (q_ "title"))=some (.str z):=by kernel_rfl
theorem Ec {q}(h:j<7):Xu (o8 z q) (Sum.inr (sn j))=some (.ref (q j)):=by
 rcases(show j=0∨j=1∨j=2∨j=3∨j=4∨j=5∨j=6 by omega) with rfl|rfl|rfl|rfl|rfl|rfl|rfl<;>kernel_rfl
inductive O7 (x:V)(H)(Q:VK):Prop
 | mk (z:Str) (h1:x=.str z) (h2:∀d q H',Same H H'->H d=none->H' d=some (.dK (o8 z q))->(∀j<7,H (q j)=none/\H' (q j)=some (.lst []))->(∀i<7,∀j<7,q i=q j->i=j)->Q (.ref d) H'):O7 x H Q
def d0 (z:Str)(q:Nat->Addr)(l:List Nat):List (Key×V):=[(Sum.inr (q_ "title"),.str z),(Sum.inr (q_ "counts"),.ref (q 3))]++l.map λj=>(Sum.inr (sn j),.ref (q j))
def sD (z:Str)(H:Hp)(d:Addr)(i:Nat)(σ:L2.St)(H':Hp):Prop:=∃(x2:Option V) (q:Nat->Addr),σ=[some (.str z),some (.ref d),x2]/\Same H H'/\H' d=some (.dK (d0 z q (os6.take i)))/\(∀j∈3::os6.take i,H (q j)=none/\H' (q j)=some (.lst []))/\∀a∈3::os6.take i,∀b∈3::os6.take i,q a=q b->a=b
theorem D5 (h:os6[i]?=some j):j<7/\j≠3/\j∉os6.take i/\os6.take (i+1)=os6.take i++[j]:=by
 have hi:i<6:=(AU.mp h).1;rcases(show i=0∨i=1∨i=2∨i=3∨i=4∨i=5 by omega) with rfl|rfl|rfl|rfl|rfl|rfl<;>cases h<;>exact⟨by decide,by decide,by decide,rfl⟩
theorem gP (T:Tx w K mg):LB P w K mg base 1 "new_draft" ["title"] (Sp1M O7):=by
 refine QI T 81 ["title","draft","name"] Zq λH Q dn hr h=>?_
 obtain⟨_,rfl,z,rfl,q⟩:=h;refine⟨_,(Qa (Ks 1 (PQ (Uo Qi (pu 0) (Uo Qi (Qq QE) Pu)) rfl rfl (λz=>nomatch z) (G8 rfl))) (Qa (Lx (PD T.cV) (Ky 2) (Qc (NI (ZM hr) (pu 1) (pu 2) (Qq QE) rfl))) (Qc (Qf (pu 1))))),?_⟩;left;intro d hd;simp only[Vi];left;refine⟨AZ _,λp hp=>?_⟩;have a5:p≠d:=λe=>by rw[e,Qb] at hp;cases hp
 have a9:H p=none:=by rw[Qk a5] at hp;exact hp
 refine⟨by rw[Qk a5.symm];exact Qb,[(Sum.inr (q_ "title"),.str z),(Sum.inr (q_ "counts"),.ref p)],rfl,G8 rfl,?_⟩;rw[show WG [] [(Sum.inr (q_ "title"),.str z),(Sum.inr (q_ "counts"),.ref p)]=d0 z (λ_=>p) [] from by kernel_rfl];have g:Same H (upd (upd (upd H d (.dK [])) p (.lst [])) d (.dK (d0 z (λ_=>p) []))):=λb o h=>by
  have h1:=Qj h hd;rw[Qk h1,Qk (Qj h a9),Qk h1];exact h
 show Va (pN kd_LONGEST) _ _ _ _ _;refine Ab (sD z H d) ⟨none,λ_=>p,rfl,g,Qb,λj _=>⟨a9,by rw[Qk a5];exact Qb⟩,λa ha b J _=>?_⟩ ?_ ?_
 ·have ha:a=3:=by simpa using ha
  have J:b=3:=by simpa using J
  rw[ha,J]
 ·rintro i kv _ H2 U ⟨x2,q',rfl,g2,hd2,hq,hinj⟩;have a8:(kd_LONGEST.map (·.1))[i]?=some kv.1:=by rw[AS,U];rfl
  rw [Vz,AS] at a8;obtain ⟨j,hj,ek⟩:=A8.mp a8;obtain ⟨j7,j3,jn,jt⟩:=D5 hj;have hi:i<6:=(AU.mp hj).1;rw [<-ek];left;simp only [L7];left;refine ⟨AZ _,fun p2 a6=>?_⟩;have n2:d≠p2:=Qj hd2 a6;have a7:H p2=none:=g2.free a6;refine ⟨d,_,rfl,DPut.k (k:=Sum.inr (sn j)) (by rw [Qk n2];exact hd2) ?_,?_⟩
  ·show([(Sum.inr (q_ "title"),V.str z),(Sum.inr (q_ "counts"),.ref (q' 3))]++(os6.take i).map λj=>((Sum.inr (sn j):Key),V.ref (q' j))).length<_;rw[Aq,As,Ig,AB];show 2+min i 6<_;omega
  ·have e1:Xu (d0 z q' (os6.take i)) (Sum.inr (sn j))=none:=by
    rcases(show i=0∨i=1∨i=2∨i=3∨i=4∨i=5 by omega) with rfl|rfl|rfl|rfl|rfl|rfl<;>cases hj<;>kernel_rfl
   have e2:d0 z q' (os6.take i)++[(Sum.inr (sn j),.ref p2)]=d0 z (λk=>if k=j then p2 else q' k) (os6.take (i+1)):=by
    rcases(show i=0∨i=1∨i=2∨i=3∨i=4∨i=5 by omega) with rfl|rfl|rfl|rfl|rfl|rfl<;>cases hj<;>kernel_rfl
   rw[Um _ e1,e2];have a0:∀k∈3::os6.take i,k≠j/\q' k≠p2/\q' k≠d:=λk U=>by
    have:=(hq k U).2;refine⟨λe=>?_,Qj this a6,YH this hd2 (by intro z;cases z)⟩;subst e;rcases AF.mp U with h|h
    ·exact j3 h
    ·exact jn h
   have a4:∀k∈3::os6.take (i+1),k=j∨k∈3::os6.take i:=λk U=>by
    rw[jt] at U;rcases AF.mp U with h|h
    ·exact .inr (AF.mpr (.inl h))
    ·rcases AK.mp h with h|h
     ·exact .inr (AE _ h)
     ·exact .inl (AA.mp h)
   refine⟨_,λk=>if k=j then p2 else q' k,rfl,λb o h=>?_,Qb,λk U=>?_,λa ha b J e=>?_⟩
   ·rw[Qk (λe=>by subst e;have:=g2 _ _ h;rw[hd2] at this;cases this;exact absurd hd (by rw[h];simp)),Qk (Qj h a7)];exact g2 _ _ h
   ·rcases a4 k U with rfl|U
    ·show H (if k=k then p2 else q' k)=none/\_=_;rw[An rfl];exact⟨a7,by show upd (upd H2 p2 (.lst [])) d _ (if k=k then p2 else q' k)=_;rw[An rfl,Qk n2.symm,Qb]⟩
    ·obtain⟨o1,o2,o3⟩:=a0 k U;show H (if k=j then p2 else q' k)=none/\upd (upd H2 p2 (.lst [])) d _ (if k=j then p2 else q' k)=_;rw[Am o1,Qk o3,Qk o2];exact hq k U
   ·have e:(if a=j then p2 else q' a)=if b=j then p2 else q' b:=e
    rcases a4 a ha with rfl|ha
    ·rcases a4 b J with rfl|J
     ·rfl
     ·obtain⟨o1,o2,_⟩:=a0 b J;rw[An rfl,Am o1] at e;exact absurd e.symm o2
    ·obtain⟨o1,o2,_⟩:=a0 a ha;rcases a4 b J with rfl|J
     ·rw[An rfl,Am o1] at e;exact absurd e o2
     ·obtain⟨o3,_,_⟩:=a0 b J;rw[Am o1,Am o3] at e;exact hinj a ha b J e
 ·rintro _ H2 ⟨x2,q',rfl,g2,hd2,hq,hinj⟩;left;have all:∀j<7,j∈3::os6.take kd_LONGEST.length:=by decide +kernel
  exact q d q' _ g2 hd hd2 (λj hj=>hq j (all j hj)) λa ha b J=>hinj a (all a ha) b (all b J)
structure DrR (K:W.Frag)(t:OP)(H:Hp)(d:Addr)(z:Str)(xs:List Itm)(q:Nat->Addr):Prop where
 hd:H d=some (.dK (o8 z q))
 hq:∀j<7,∃vs,H (q j)=some (.lst vs)/\All2 (PIt K t H) (xs.filter λx=>decide (x.sl=j)) vs
def X2 (xs:List Itm)(x:Itm):Prop:=match x with
 | .cnt z _ _=>∀y∈xs,∀z' r s,y=.cnt z' r s->z'≠z
 | .off l _ _=>(xs.filter λy=>decide (y.sl=4)).length<6/\∀y∈xs,∀l' r s,y=.off l' r s->l'<l
 | x=>((xs.filter λy=>decide (y.sl=x.sl)).length:Int)<mo x.sl
inductive ma (K)(t:OP)(x y z:V)(H:Hp)(Q:VK):Prop
 | mk (d:Addr) (tl:Str) (xs:List Itm) (q:Nat->Addr) (x':Itm) (a:Addr) (vs:List V) (h1:x=.ref d) (h2:y=.str x'.srt) (h3:z=.ref a) (h4:DrR K t H d tl xs q) (h5:Kv K H a vs) (h6:All2 (Pv K H) x'.ds vs) (h7:X2 xs x') (h8:xs.length<=1000) (h9:∀H',Same H H'->Q (.bl true) H'):ma K t x y z H Q
theorem Nu {x:Itm}(h:x.srt=q_ "counts"):∃z r s,x=.cnt z r s:=by
 cases x with
 | cnt z r s=>exact⟨z,r,s,rfl⟩
 | term u n l h'=>
  cases u with
  | false=>exact absurd h (show¬q_ "from"=q_ "counts" by decide +kernel)
  | true=>exact absurd h (show¬q_ "upto"=q_ "counts" by decide +kernel)
 | base=>exact absurd h (show¬q_ "base"=q_ "counts" by decide +kernel)
 | each=>exact absurd h (show¬q_ "each"=q_ "counts" by decide +kernel)
 | rent=>exact absurd h (show¬q_ "rent"=q_ "counts" by decide +kernel)
 | pay=>exact absurd h (show¬q_ "pay"=q_ "counts" by decide +kernel)
 | off=>exact absurd h (show¬q_ "off"=q_ "counts" by decide +kernel)
 | unt=>exact absurd h (show¬q_ "until"=q_ "counts" by decide +kernel)
 | rnd=>exact absurd h (show¬q_ "round"=q_ "counts" by decide +kernel)
theorem RZ {x:Itm}(h:x.srt=q_ "off"):∃l r s,x=.off l r s:=by
 cases x with
 | off l r s=>exact⟨l,r,s,rfl⟩
 | term u n l h'=>
  cases u with
  | false=>exact absurd h (show¬q_ "from"=q_ "off" by decide +kernel)
  | true=>exact absurd h (show¬q_ "upto"=q_ "off" by decide +kernel)
 | base=>exact absurd h (show¬q_ "base"=q_ "off" by decide +kernel)
 | each=>exact absurd h (show¬q_ "each"=q_ "off" by decide +kernel)
 | rent=>exact absurd h (show¬q_ "rent"=q_ "off" by decide +kernel)
 | pay=>exact absurd h (show¬q_ "pay"=q_ "off" by decide +kernel)
 | cnt=>exact absurd h (show¬q_ "counts"=q_ "off" by decide +kernel)
 | unt=>exact absurd h (show¬q_ "until"=q_ "off" by decide +kernel)
 | rnd=>exact absurd h (show¬q_ "round"=q_ "off" by decide +kernel)
theorem Jw {x:Itm}(h:x.sl=3):∃z r s,x=.cnt z r s:=by cases x<;>first|exact⟨_,_,_,rfl⟩|exact absurd h (by simp[Itm.sl])
theorem Gu {x:Itm}(h:x.sl=4):∃l r s,x=.off l r s:=by cases x<;>first|exact⟨_,_,_,rfl⟩|exact absurd h (by simp[Itm.sl])
def nW:Itm->Str
 | .cnt z _ _=>z
 | _=>q_ ""
theorem ZN {t}{d}{xs}{q}(hD:DrR K t H d z xs q){j:Nat}(hj:j<7):DGet H d (.str (sn j)) (some (.ref (q j))):=by
 have:=DGet.k (k:=(Sum.inr (sn j):Key)) hD.hd;rw[Ec hj] at this;exact this
def sS (fl:List Itm)(H:Hp)(i:Nat)(acc:List V)(σ':L2.St)(H':Hp):Prop:=∃x0 x1,σ'=[x0,x1]/\Same H H'/\acc=((fl.take i).map nW).map V.str
theorem YV {xs:List Itm}{x:Itm}(h:(xs.filter λx=>decide (x.sl=j))[i]?=some x):x∈xs/\x.sl=j:=by
 have:=Ik.mp (AG h);exact⟨this.1,IB this.2⟩
theorem Pz {t}{s:Int}(h:PIt K t H (.cnt z r s) v):∃x p,v=.ref x/\Kt K H x [.str z,.ref p]/\Kt K H p [.int r,.int s]:=by
 cases h with|cnt _ _ _ x p h hp=>exact⟨x,p,rfl,h,hp⟩
theorem Py {t}{l s:Int}(h:PIt K t H (.off l r s) v):∃x p,v=.ref x/\Kt K H x [.int l,.ref p]/\Kt K H p [.int r,.int s]:=by
 cases h with|off _ _ _ x p h hp=>exact⟨x,p,rfl,h,hp⟩
theorem gQ (T:Tx w K mg):LB P w K mg base 1 "fits_in" ["draft","sort","values"] (Sp3M (ma K t)):=by
 refine QI T 82 ["draft","sort","values"] Wp λH Q dn hr h=>?_
 obtain⟨_,_,_,rfl,d,tl,xs,q',x,a,vs,rfl,rfl,rfl,hD,hL,hA,hf,hx,q⟩:=h;refine⟨_,(Qa (Qn (Ku (QR K) (pu 1) Qi) (Qc (Qf (We (XB K rfl) (Ko K 2) (Lz ["title","rate"] [none,none] (L0 K rfl (Zb (ZM hr) (pu 0) Qi (λ_ _=>rfl))) (ON (n:=2) K rfl rfl (Qm (Ky 0) (Qm (Ky 1) QV))) QL (pu 0)) (by with_unfolding_all rfl)))) Qh) (Qa (Qn (Ku (QR K) (Ln K T.aA (Zb (ZM hr) (pu 0) (Wc T.bL (pu 1) (λ_ _=>rfl)) (λ_ _=>rfl))) (Wc T.cV (Wc T.bL (pu 1) (λ_ _=>rfl)) (λ_ _=>rfl))) (Qc (Qf ZF)) Qh) (Qa (Qn (PW.pt (Zu (Ku (QR K) (pu 1) Qi) (Zo (X9 (Zb (ZM hr) (pu 0) Qi (λ_ _=>rfl)) (λ_=>rfl))))) (Qc (Qf (OJ XY (Ko K 2) (LD K (LD K (Zb (ZM hr) (pu 0) Qi (λ_ _=>rfl)) OC) Qe)))) Qh) (Qc (Qf ZF))))),?_⟩;left;refine Qo (λc=>?_) (λc=>?_)
 ·obtain⟨z,r,s',rfl⟩:=Nu c;obtain⟨v,v2,rfl,h1,h2⟩:=nN hA;cases YO h1;refine QO hL (v:=.str z) rfl ?_;simp only[QX,Y3];left;simp only[Y3];left;obtain⟨ws,J,hW⟩:=hD.hq 3 (by decide);refine⟨d,_,rfl,ZN hD (j:=3) (by decide),q' 3,rfl,⟨_,G5 J⟩,?_⟩;have a7:(xs.filter λx=>decide (x.sl=3)).length<=xs.length:=Iw _ _;have a5:=hW.1;refine Zt (xs:=ws) (sS (xs.filter λx=>decide (x.sl=3)) H) ⟨none,none,rfl,G7 _,rfl⟩ (λi acc σ' H' _ h=>by obtain⟨_,_,_,g',_⟩:=h;exact g'.seq (G5 J)) (by omega) ?_ ?_
  ·rintro i v acc _ H2 hv a6 ⟨x0,x1,rfl,g,rfl⟩;obtain⟨y,hy,hP⟩:=hW.getV hv;obtain⟨_,U⟩:=YV hy;obtain⟨z2,r2,s2,rfl⟩:=Jw U;obtain⟨p,p2,rfl,hT,_⟩:=Pz hP;have a8:=g.sqT hT;left;simp only[Zw];left;exact CN.mk (Qt hv) (by rw[Aq,Av];omega) ⟨_,_,rfl,g,by rw[AX,hy,Az,Az];rfl⟩
  ·rintro acc _ H2 ⟨x0,x1,rfl,g,rfl⟩ p hp;rw[AJ (by omega)];refine Z0 (G5 Qb) ?_;rw[AV]
   ·exact q _ (g.trans (Qd hp _))
   ·intro hm;obtain⟨y,hy,e⟩:=Ii.mp hm;obtain⟨a4,a0⟩:=Ik.mp hy;obtain⟨z2,r2,s2,rfl⟩:=Jw (IB a0);exact hf _ a4 z2 r2 s2 rfl e
 have n3:x.sl≠3:=λe=>by
  obtain⟨z,r,s',rfl⟩:=Jw e;exact c rfl
 have a9:((xs.filter λy=>decide (y.sl=x.sl)).length:Int)<mo x.sl:=by
  cases x with
  | cnt=>exact absurd rfl n3
  | off=>exact Int.ofNat_lt.mpr hf.1
  | _=>exact hf
 simp only[Y3,Nm];left;obtain⟨ws,J,hW⟩:=hD.hq x.sl (Xn x);refine⟨Sum.inr x.srt,_,rfl,JI x,d,_,rfl,ZN hD (Xn x),?_⟩;refine Q7 (G5 J) ?_;left;refine⟨Sum.inr x.srt,_,rfl,JI x,Sum.inr (sn x.sl),_,rfl,GM (Xn x) n3,?_⟩;left;have a5:=hW.1;refine Qo (λc=>by omega) (λ_=>?_);refine Qo (λc2=>?_) (λ_=>q _ (G7 _));obtain⟨l,r,s',rfl⟩:=RZ c2;obtain⟨v,v2,rfl,h1,h2⟩:=nN hA;cases Zv h1;left;have J:H (q' 4)=some (.lst ws):=J;refine⟨d,_,rfl,ZN hD (j:=4) (by decide),_,.inl ⟨ws,G5 J,rfl⟩,?_⟩;rcases List.eq_nil_or_concat ws with rfl|⟨w0,v,rfl⟩
 ·exact q _ (G7 _)
 rw[An (by simp)];have J:=G5 (K:=K) J;rw[List.concat_eq_append] at J hW;refine QO hL (v:=.int l) rfl ⟨d,_,rfl,ZN hD (j:=4) (by decide),QO J (Q4 _ _) ?_⟩;obtain⟨y,hy,hP⟩:=hW.getV (i:=w0.length) (v:=v) (by rw[Ib (Au _),Ih];rfl);obtain⟨hm,U⟩:=YV (j:=4) hy;obtain⟨l2,r2,s2,rfl⟩:=Gu U;obtain⟨p,p2,rfl,hT,_⟩:=Py hP;refine Zg hT rfl ?_;left;rw[A5 (show l > l2 from hf.2 _ hm l2 r2 s2 rfl)];exact q _ (G7 _)
theorem FH {fs}(h:H p=some (.ins C dx fs))(k:H l=some (.lst vs)):l≠p:=λe=>by rw[e,h] at k;cases k
theorem BI (h:H p=some o)(k:H l=none):l≠p:=λe=>by rw[e,h] at k;cases k
theorem YW {fs}{f}(h:fs.length<=n):(QM f v fs).length<=n+1:=A4 (XH _ _ _) (Nat.succ_le_succ h)
theorem S7 (kl:H l=some (.lst vs))(q:∀l',H l'=none->Q (.ref l') (upd H l' (.lst vs))):Vp K [.ref l] H Q:=⟨l,vs,rfl,.inl (G5 kl),q⟩
theorem WY {f:Str}(ot:Oth p H0 H)(hp:H p=some (.ins C dx fs))(hp0:H0 p=some (.ins C dx []))(kl:H0 l=some (.lst vs)){Q:Hp->Prop}(c:Cls K C)(n:NoAttr K C f)(hl:fs.length<1000)
  (q:∀U H',H0 U=none->Oth p H0 H'->Oth p H H'->H' p=some (.ins C dx (QM f (.ref U) fs))->H' U=some (.lst vs)->U≠p->Q H') :
  Vp K [.ref l] H λx H1=>∃a C' dx' fs',V.ref p=.ref a/\H1 a=some (.ins C' dx' fs')/\Cls K C'/\NoAttr K C' f/\fs'.length<1000/\Q (upd H1 a (.ins C' dx' (QM f x fs'))):=by
 refine S7 (ot _ _ (FH hp0 kl) kl) λU J=>?_
 have np:=BI hp J;exact⟨p,C,dx,fs,rfl,by rw[Qk np.symm];exact hp,c,n,hl,q U _ (by cases e:H0 U with|none=>rfl|some u=>rw[ot _ _ np e] at J;cases J) (ot.new J).put ((Oth.refl p H).new J).put Qb (by rw[Qk np];exact Qb) np⟩
def kF (xtitle xparts xterms xpays xcounts xoffs xlimit xunit xway:V):List (Str×V):=QM "way" xway (QM "unit" xunit (QM "limit" xlimit (QM "offs" xoffs (QM "counts" xcounts (QM "pays" xpays (QM "terms" xterms (QM "parts" xparts (QM "title" xtitle []))))))))
theorem UD {g i}:(kF a b c d e f g h i).lookup (Str.ofString "title")=some a:=by kernel_rfl
theorem UF {g i}:(kF a b c d e f g h i).lookup (Str.ofString "parts")=some b:=by kernel_rfl
theorem UE {g i}:(kF a b c d e f g h i).lookup (Str.ofString "terms")=some c:=by kernel_rfl
theorem NS {g i}:(kF a b c d e f g h i).lookup (Str.ofString "pays")=some d:=by kernel_rfl
theorem MO {g i}:(kF a b c d e f g h i).lookup (Str.ofString "counts")=some e:=by kernel_rfl
theorem Wj {g i}:(kF a b c d e f g h i).lookup (Str.ofString "offs")=some f:=by kernel_rfl
theorem BV {g i}:(kF a b c d e f g h i).lookup (Str.ofString "limit")=some g:=by kernel_rfl
theorem VC {g i}:(kF a b c d e f g h i).lookup (Str.ofString "unit")=some h:=by kernel_rfl
theorem BU {g i}:(kF a b c d e f g h i).lookup (Str.ofString "way")=some i:=by kernel_rfl
inductive OA (C)(x nm pa te py co of li un wa:V)(H)(Q:VK):Prop
 | mk (p dx l1 l2 l3 l4 l5:Addr) (v1 v2 v3 v4 v5:List V) (h1:x=.ref p) (h2:H p=some (.ins C dx [])) (e1:pa=.ref l1) (k1:H l1=some (.lst v1)) (e2:te=.ref l2) (k2:H l2=some (.lst v2)) (e3:py=.ref l3) (k3:H l3=some (.lst v3)) (e4:co=.ref l4) (k4:H l4=some (.lst v4)) (e5:of=.ref l5) (k5:H l5=some (.lst v5))
   (h3:∀H' m1 m2 m3 m4 m5,Oth p H H'->H' p=some (.ins C dx (kF nm (.ref m1) (.ref m2) (.ref m3) (.ref m4) (.ref m5) li un wa))->H' m1=some (.lst v1)/\H m1=none->H' m2=some (.lst v2)/\H m2=none->H' m3=some (.lst v3)/\H m3=none->H' m4=some (.lst v4)/\H m4=none->H' m5=some (.lst v5)/\H m5=none->Q .non H'):OA C x nm pa te py co of li un wa H Q
theorem WD (T:Tx w K mg){f:Addr}(F:FunD K "__init__" "Kind.__init__" (mS 6000) f fd):FnOk P w K mg base OX 1 f fd ["self","title","parts","terms","pays","counts","offs","limit","unit","way"] (Ej (OA t.zE)):=by
 refine F.ok Wz DK (λcdv A outer s H vs Q E hr h=>?_);obtain⟨_,nm,_,_,_,_,_,li,un,wa,rfl,p,dx,l1,l2,l3,l4,l5,v1,v2,v3,v4,v5,rfl,hp,rfl,k1,rfl,k2,rfl,k3,rfl,k4,rfl,k5,q⟩:=h;refine⟨_,(Qa (QF K rfl (pu 0) (pu 1)) (Qa (QF K rfl (pu 0) (QD (Xi K rfl) (by rfl) T.aJ IA (Km (pu 2)))) (Qa (QF K rfl (pu 0) (QD (Xi K rfl) (by rfl) T.aJ IA (Km (pu 3)))) (Qa (QF K rfl (pu 0) (QD (Xi K rfl) (by rfl) T.aJ IA (Km (pu 4)))) (Qa (QF K rfl (pu 0) (QD (Xi K rfl) (by rfl) T.aJ IA (Km (pu 5)))) (Qa (QF K rfl (pu 0) (QD (Xi K rfl) (by rfl) T.aJ IA (Km (pu 6)))) (Qa (QF K rfl (pu 0) (pu 7)) (Qa (QF K rfl (pu 0) (pu 8)) (Qc (QF K rfl (pu 0) (pu 9))))))))))),?_⟩;left;refine X3 hp T.aB T.bM (by decide) ?_;have o1:=(Oth.refl p H).put (o:=.ins t.zE dx (QM "title" nm []));have i1:(upd H p (.ins t.zE dx (QM "title" nm []))) p=some (.ins t.zE dx (QM "title" nm [])):=Qb;have z1:(QM "title" nm []).length<=1:=XH _ _ _;generalize upd H p (.ins t.zE dx (QM "title" nm []))=H1 at *;left;refine WY o1 i1 hp k1 T.aB T.bN (by omega) λm1 H2 a7 o2 t2 i2 j1 J=>?_
 have z2:=YW (f:=Str.ofString "parts") (v:=.ref m1) z1;left;refine WY o2 i2 hp k2 T.aB T.bO (by omega) λm2 H3 a5 o3 t3 i3 j2 U=>?_
 have z3:=YW (f:=Str.ofString "terms") (v:=.ref m2) z2;left;refine WY o3 i3 hp k3 T.aB T.bP (by omega) λm3 H4 a8 o4 t4 i4 j3 a0=>?_
 have z4:=YW (f:=Str.ofString "pays") (v:=.ref m3) z3;left;refine WY o4 i4 hp k4 T.aB T.cW (by omega) λm4 H5 aa o5 t5 i5 j4 a4=>?_
 have z5:=YW (f:=Str.ofString "counts") (v:=.ref m4) z4;left;refine WY o5 i5 hp k5 T.aB T.aT (by omega) λm5 H6 a6 o6 t6 i6 j5 a9=>?_
 have z6:=YW (f:=Str.ofString "offs") (v:=.ref m5) z5;left;refine X3 i6 T.aB T.cX (by omega) ?_;have z7:=YW (f:=Str.ofString "limit") (v:=li) z6;left;refine X3 Qb T.aB T.bE (by omega) ?_;have z8:=YW (f:=Str.ofString "unit") (v:=un) z7;left;refine X3 Qb T.aB T.bQ (by omega) ?_;have pn:∀m,m≠p->∀(a b c o:HO),H6 m=some o->(upd (upd (upd H6 p a) p b) p c) m=some o:=λm np a b c o h=>by rw[Qk np,Qk np,Qk np];exact h
 exact q _ m1 m2 m3 m4 m5 o6.put.put.put Qb ⟨pn _ J _ _ _ _ (t6 _ _ J (t5 _ _ J (t4 _ _ J (t3 _ _ J j1)))),a7⟩ ⟨pn _ U _ _ _ _ (t6 _ _ U (t5 _ _ U (t4 _ _ U j2))),a5⟩ ⟨pn _ a0 _ _ _ _ (t6 _ _ a0 (t5 _ _ a0 j3)),a8⟩ ⟨pn _ a4 _ _ _ _ (t6 _ _ a4 j4),aa⟩ ⟨pn _ a9 _ _ _ _ j5,a6⟩
theorem gR (T:Tx w K mg):SI P w K mg base 1 t.zE ["self","title","parts","terms","pays","counts","offs","limit","unit","way"] [] (Sp10M (OA t.zE)):=by
 obtain⟨f,J,oc,od,an,sl,kV,U,pm,cd,ct,td,dn,a,i,l,c,k,d,mm,mk⟩:=T.kI;exact⟨f,_,_,(WD T (Tn (st:=(mS 6000)) l c k)).imp Sp10M.imp,U2 (fd:=(W.fnOf "__init__" "Kind.__init__" (ZD (mS 6000)) (Q9 (mS 6000)) (Qx (mS 6000)) (.ref J) kV U pm an cd ct)) (ps:=["self","title","parts","terms","pays","counts","offs","limit","unit","way"]) (ds:=[]) d 10 rfl (Hd.len10 (P:=λus=>∃e k,bindArgs _ ⟨us,[]⟩=Sem.load _ e k/\∀S,W.peek K S (k _)=some (List.zip _ (us++_))) (λ_ _ _ _ _ _ _ _ _ _=>⟨_,_,rfl,λ_=>rfl⟩)),.nil,⟨mm,a,i,mk⟩⟩
def cF (a b c:V):List (Str×V):=QM "titles" c (QM "each" b (QM "limit" a []))
def oF (a b:V):List (Str×V):=QM "caps" b (QM "kinds" a [])
def rF (a b c:V):List (Str×V):=QM "asked_for" c (QM "caps" b (QM "drafts" a []))
inductive Yr (C)(x y z u:V)(H)(Q:VK):Prop
 | mk (p dx l:Addr) (vs:List V) (h1:x=.ref p) (h2:H p=some (.ins C dx [])) (h3:u=.ref l) (h4:H l=some (.lst vs)) (h5:∀H' m,Oth p H H'->H' p=some (.ins C dx (cF y z (.ref m)))->H' m=some (.lst vs)->H m=none->Q .non H'):Yr C x y z u H Q
theorem gS (T:Tx w K mg):Kk P w K mg base 1 t.zF ["self","limit","each","titles"] (Sp4M (Yr t.zF)):=by
 refine U0 T 6100 ["self","limit","each","titles"] G4 λH Q dn hr h=>?_
 obtain⟨_,a,b,_,rfl,p,dx,l,vs,rfl,hp,rfl,U,q⟩:=h;refine⟨_,(Qa (QF K rfl (pu 0) (pu 1)) (Qa (QF K rfl (pu 0) (pu 2)) (Qc (QF K rfl (pu 0) (QD (Xi K rfl) (by rfl) T.aJ IA (Km (pu 3))))))),?_⟩;left;refine X3 hp T.aM T.bR (by decide) ?_;left;refine X3 Qb T.aM T.bS len1 ?_;left;refine WY (Oth.refl _ _).put.put Qb hp U T.aM T.bT len2 λm H2 fr J t2 i2 j2 np=>?_
 left;exact q _ m J i2 j2 fr
inductive WS (C)(x y z:V)(H)(Q:VK):Prop
 | mk (p dx l1 l2:Addr) (v1 v2:List V) (h1:x=.ref p) (h2:H p=some (.ins C dx [])) (e1:y=.ref l1) (k1:H l1=some (.lst v1)) (e2:z=.ref l2) (k2:H l2=some (.lst v2)) (h5:∀H' m1 m2,Oth p H H'->H' p=some (.ins C dx (oF (.ref m1) (.ref m2)))->H' m1=some (.lst v1)/\H m1=none->H' m2=some (.lst v2)/\H m2=none->Q .non H'):WS C x y z H Q
theorem gU (T:Tx w K mg):Kk P w K mg base 1 t.zG ["self","kinds","caps"] (Sp3M (WS t.zG)):=by
 refine U0 T 6200 ["self","kinds","caps"] Wp λH Q dn hr h=>?_
 obtain⟨_,_,_,rfl,p,dx,l1,l2,v1,v2,rfl,hp,rfl,k1,rfl,k2,q⟩:=h;refine⟨_,(Qa (QF K rfl (pu 0) (QD (Xi K rfl) (by rfl) T.aJ IA (Km (pu 1)))) (Qc (QF K rfl (pu 0) (QD (Xi K rfl) (by rfl) T.aJ IA (Km (pu 2)))))),?_⟩;left;refine WY (Oth.refl _ _) hp hp k1 T.aR T.bU (by decide) λm1 H2 U o2 t2 i2 j1 a0=>?_
 left;refine WY o2 i2 hp k2 T.aR T.bV len1 λm2 H3 J o3 t3 i3 j2 a4=>?_
 left;exact q _ m1 m2 o3 i3 ⟨t3 _ _ a0 j1,U⟩ ⟨j2,J⟩
inductive mT (C)(x:V)(H)(Q:VK):Prop
 | mk (p dx:Addr) (h1:x=.ref p) (h2:H p=some (.ins C dx [])) (h5:∀H' m1 m2 m3,Oth p H H'->H' p=some (.ins C dx (rF (.ref m1) (.ref m2) (.ref m3)))->H' m1=some (.lst [])/\H m1=none->H' m2=some (.lst [])/\H m2=none->H' m3=some (.lst [])/\H m3=none->m1≠m2->m1≠m3->m2≠m3->Q .non H'):mT C x H Q
theorem BH {f}{fs}(ot:Oth p H0 H)(hp:H p=some (.ins C dx fs)){D}{σ}{i:Nat}(c:Cls K C)(n:NoAttr K C f)(hl:fs.length<1000)
  (q:∀U H',H U=none->H0 U=none->Oth p H0 H'->Oth p H H'->H' p=some (.ins C dx (QM f (.ref U) fs))->H' U=some (.lst [])->U≠p->D.nx σ H') (e:σ[i]?=some (some (.ref p)):=by rfl):Pe K (Zp i) (HI W0) f D σ H:=by
 refine⟨AZ _,λU J=>?_⟩;have np:=BI hp J;show asVar σ[i]? _;rw[e];exact⟨p,C,dx,fs,rfl,by rw[Qk np.symm];exact hp,c,n,hl,q U _ J (by cases e:H0 U with|none=>rfl|some u=>rw[ot _ _ np e] at J;cases J) (ot.new J).put ((Oth.refl p H).new J).put Qb (by rw[Qk np];exact Qb) np⟩
theorem gV (T:Tx w K mg):Kk P w K mg base 1 t.zO ["self"] (Sp1M (mT t.zO)):=by
 refine U0 T 8400 ["self"] Zq λH Q dn hr h=>?_
 obtain⟨_,rfl,p,dx,rfl,hp,q⟩:=h;refine⟨_,(Qa (QF K rfl (pu 0) (Qq QE)) (Qa (QF K rfl (pu 0) (Qq QE)) (Qc (QF K rfl (pu 0) (Qq QE))))),?_⟩;left;refine BH (Oth.refl _ _) hp T.aD T.aQ (by decide) λm1 H1 z1 f1 o1 t1 i1 j1 J=>?_
 left;refine BH o1 i1 T.aD T.aZ len1 λm2 H2 z2 f2 o2 t2 i2 j2 U=>?_
 left;refine BH o2 i2 T.aD T.bF len2 λm3 H3 z3 f3 o3 t3 i3 j3 a0=>?_
 left;have k1:=t2 _ _ J j1;exact q _ m1 m2 m3 o3 i3 ⟨t3 _ _ J k1,f1⟩ ⟨t3 _ _ U j2,f2⟩ ⟨j3,f3⟩ (Qj j1 z2) (Qj k1 z3) (Qj j2 z3)
def KdR (K:W.Frag)(t:OP)(N:Addr->Prop)(H:Hp)(k:Str×List Itm)(v:V):Prop:=∃x dx li un wa,∃m:Nat->Addr,v=.ref x/\H x=some (.ins t.zE dx (kF (.str k.1) (.ref (m 0)) (.ref (m 1)) (.ref (m 2)) (.ref (m 3)) (.ref (m 4)) li un wa)) /\
 (∀j<5,N (m j)/\∃vs,H (m j)=some (.lst vs)/\All2 (PIt K t H) (k.2.filter λx=>decide (x.sl=j)) vs) /\
 (match k.2.filter λx=>decide (x.sl=5) with|.unt a::_=>li=.int a|_=>li=.non)/\match k.2.filter λx=>decide (x.sl=6) with|.rnd u z::_=>un=.int u/\wa=.str z|_=>un=.non
theorem Yx {t}(g:Kp N H H'){xs}{vs}(h:All2 (PIt K t H) xs vs):All2 (PIt K t H') xs vs:=⟨h.1,λi a b ha hb=>(h.2 i a b ha hb).kp g⟩
theorem KdR.kp {t}{k}(g:Kp N H H')(h:KdR K t N H k v):KdR K t N H' k v:=by
 obtain⟨x,dx,li,un,wa,m,e,h1,h2,U,h4⟩:=h;refine⟨x,dx,li,un,wa,m,e,g.ins h1,λj hj=>?_,U,h4⟩;obtain⟨J,vs,h5,h6⟩:=h2 j hj;exact⟨J,vs,g _ _ h5 (.inl J),Yx g h6⟩
inductive mZ (K)(t:OP)(x:V)(H:Hp)(Q:VK):Prop
 | mk (d:Addr) (z:Str) (xs:List Itm) (q:Nat->Addr) (h1:x=.ref d) (h2:DrR K t H d z xs q) (h3:∀v H',Same H H'->KdR K t (λb=>H b=none) H' (z,xs) v->Q v H'):mZ K t x H Q
theorem DrR.kp {t}{d}{xs}{q}(g:Same H H')(h:DrR K t H d z xs q):DrR K t H' d z xs q:=by
 refine⟨g _ _ h.hd,λj J=>?_⟩;obtain⟨vs,h1,h2⟩:=h.hq j J;exact⟨vs,g _ _ h1,Yx (N:=λ_=>True) (.of g) h2⟩
theorem ZL {x}{b}(hx:H x=none)(hd:H dx=none)(h:H b=some o):nU C x dx H b=some o:=by
 show upd (upd H dx (.own x)) x (.ins C dx []) b=some o;rw[Qk (Qj h hx),Qk (Qj h hd)];exact h
theorem XN {x}{b}(hx:H x=none)(hd:H dx=none)(h:nU C x dx H b=none):H b=none:=by
 cases e:H b with
 | none=>rfl
 | some o=>rw[ZL hx hd e] at h;cases h
theorem US {t}{d}{xs}{q}(hD:DrR K t H d z xs q):DGet H d (.str (q_ "title")) (some (.str z)):=by
 have:=DGet.k (k:=(Sum.inr (q_ "title"):Key)) hD.hd;rw[MY] at this;exact this
theorem Pw {t}{a:Int}(h:PIt K t H (.unt a) v):∃x,v=.ref x/\Kt K H x [.int a]:=by
 cases h with|unt _ x h=>exact⟨x,rfl,h⟩
theorem Px {t}{u:Int}(h:PIt K t H (.rnd u z) v):∃x,v=.ref x/\Kt K H x [.int u,.str z]:=by
 cases h with|rnd _ _ x h=>exact⟨x,rfl,h⟩
theorem HM {x:Itm}(h:x.sl=5):∃a,x=.unt a:=by cases x<;>first|exact⟨_,rfl⟩|exact absurd h (by simp[Itm.sl])
theorem HN {x:Itm}(h:x.sl=6):∃u z,x=.rnd u z:=by cases x<;>first|exact⟨_,_,rfl⟩|exact absurd h (by simp[Itm.sl])
theorem gW (T:Tx w K mg):LB P w K mg base 3 "kind_of" ["draft"] (Sp1M (mZ K t)):=by
 refine QI T 83 ["draft","limit","rounding"] Zq λH Q dn hr h=>?_
 obtain⟨_,rfl,d,z,xs,q',rfl,hD,q⟩:=h;refine⟨_,(Qa (Ks 1 (Yc (X9 (Zb (ZM hr) (pu 0) Qi (λ_ _=>rfl)) (λ_=>rfl)) (LD K (LD K (Zb (ZM hr) (pu 0) Qi (λ_ _=>rfl)) Qe) Qe) JD)) (Qa (Ks 2 (Yc (X9 (Zb (ZM hr) (pu 0) Qi (λ_ _=>rfl)) (λ_=>rfl)) (LD K (Zb (ZM hr) (pu 0) Qi (λ_ _=>rfl)) Qe) (Qz (Kq JD Qi)))) (Qc (Qf (PM (gR T) (LG hr) rfl T.eA (QJ (Zb (ZM hr) (pu 0) Qi (λ_ _=>rfl)) (QJ (Zb (ZM hr) (pu 0) Qi (λ_ _=>rfl)) (QJ (Zb (ZM hr) (pu 0) Qi (λ_ _=>rfl)) (QJ (Zb (ZM hr) (pu 0) Qi (λ_ _=>rfl)) (oR (Zb (ZM hr) (pu 0) Qi (λ_ _=>rfl)) (Zb (ZM hr) (pu 0) Qi (λ_ _=>rfl)) (pu 1) (Ko K 2) (Ko K 2))))))))))),?_⟩;generalize hM:RW (YG t.zE _ _ _ _)=M;have fin:∀(D:QY) (li un wa:V) (p:Addr) (H1:Hp),D.rt=Q->Same H H1->Kt K H1 p [un,wa]->(match xs.filter λx=>decide (x.sl=5) with|.unt a::_=>li=.int a|_=>li=.non)->(match xs.filter λx=>decide (x.sl=6) with|.rnd u z::_=>un=.int u/\wa=.str z|_=>un=.non)->M D [some (.ref d),some li,some (.ref p)] H1:=by
  subst hM;intro D li un wa p H1 a7 g1 hp c1 c2;have J:=hD.kp g1;simp only[T3,YG];left;simp only[Y3];left;obtain⟨v0,k0,a0⟩:=J.hq 0 (by decide);obtain⟨v1,k1,a1⟩:=J.hq 1 (by decide);obtain⟨v2,k2,a2⟩:=J.hq 2 (by decide);obtain⟨v3,k3,a3⟩:=J.hq 3 (by decide);obtain⟨v4,k4,a4⟩:=J.hq 4 (by decide);refine⟨d,_,rfl,US J,d,_,rfl,ZN J (j:=0) (by decide),d,_,rfl,ZN J (j:=1) (by decide),d,_,rfl,ZN J (j:=2) (by decide),d,_,rfl,ZN J (j:=3) (by decide),d,_,rfl,ZN J (j:=4) (by decide),?_⟩;left;intro x dx hx U _;refine⟨x,dx,q' 0,q' 1,q' 2,q' 3,q' 4,v0,v1,v2,v3,v4,rfl,XZ,rfl,ZL hx U k0,rfl,ZL hx U k1,rfl,ZL hx U k2,rfl,ZL hx U k3,rfl,ZL hx U k4,λH' m0 m1 m2 m3 m4 o aa b0 b1 b2 b3 b4=>⟨rfl,?_⟩⟩;have g2:=Zz hx U o;have fr:∀{b},nU t.zE x dx H1 b=none->H b=none:=λh=>g1.free (XN hx U h)
  have kp:∀{l:List Itm} {vs:List V},All2 (PIt K t H1) l vs->All2 (PIt K t H') l vs:=λh=>Yx (N:=λ_=>True) (.of g2) h
  rw[a7];refine q _ _ (g1.trans g2) ⟨x,dx,li,un,wa,λj=>match j with|0=>m0|1=>m1|2=>m2|3=>m3|_=>m4,rfl,aa,λj hj=>?_,c1,c2⟩;rcases(show j=0∨j=1∨j=2∨j=3∨j=4 by omega) with rfl|rfl|rfl|rfl|rfl
  ·exact⟨fr b0.2,v0,b0.1,kp a0⟩
  ·exact⟨fr b1.2,v1,b1.1,kp a1⟩
  ·exact⟨fr b2.2,v2,b2.1,kp a2⟩
  ·exact⟨fr b3.2,v3,b3.1,kp a3⟩
  ·exact⟨fr b4.2,v4,b4.1,kp a4⟩
 generalize hR:X5 (Y5 _ (Xd 2)) M=R;have a9:∀(D:QY) (li:V),D.rt=Q->(match xs.filter λx=>decide (x.sl=5) with|.unt a::_=>li=.int a|_=>li=.non)->R D [some (.ref d),some li,none] H:=by
  subst hR;intro D li a7 c1;left;simp only[Y3];left;obtain⟨v6,k6,a6⟩:=hD.hq 6 (by decide);refine⟨d,_,rfl,ZN hD (j:=6) (by decide),_,.inl ⟨v6,G5 k6,rfl⟩,?_⟩;cases e:v6 with
  | nil=>
   rw[Am (by simp)];refine⟨by decide,λp hp=>fin _ _ .non (.str (q_ "down")) p _ a7 (Qd hp _) (G6 Qb) c1 ?_⟩;have:=a6.1;rw[e] at this;rw[Gd this]
  | cons v r=>
   rw[An (by simp)];subst e;obtain⟨y,hy,hP⟩:=a6.getV (i:=0) (v:=v) rfl;obtain⟨_,a8⟩:=YV hy;obtain⟨u,z2,rfl⟩:=HN a8;obtain⟨p,rfl,hT⟩:=Px hP;refine⟨d,_,rfl,ZN hD (j:=6) (by decide),QO (G5 k6) (QZ (j:=0) rfl) ?_⟩;refine fin _ _ _ _ p _ a7 (G7 _) hT c1 ?_;cases e2:xs.filter λx=>decide (x.sl=6) with
   | nil=>rw[e2] at hy;cases hy
   | cons y2 r2=>rw[e2] at hy;cases hy;exact⟨rfl,rfl⟩
 left;simp only[Y3];left;obtain⟨v5,k5,a5⟩:=hD.hq 5 (by decide);refine⟨d,_,rfl,ZN hD (j:=5) (by decide),_,.inl ⟨v5,G5 k5,rfl⟩,?_⟩;cases e:v5 with
 | nil=>
  rw[Am (by simp)];refine a9 _ _ rfl ?_;have:=a5.1;rw[e] at this;rw[Gd this]
 | cons v r=>
  rw[An (by simp)];subst e;obtain⟨y,hy,hP⟩:=a5.getV (i:=0) (v:=v) rfl;obtain⟨_,a8⟩:=YV hy;obtain⟨u,rfl⟩:=HM a8;obtain⟨p,rfl,hT⟩:=Pw hP;refine⟨d,_,rfl,ZN hD (j:=5) (by decide),QO (G5 k5) (QZ (j:=0) rfl) (Zg hT rfl ?_)⟩;refine a9 _ _ rfl ?_;cases e2:xs.filter λx=>decide (x.sl=5) with
  | nil=>rw[e2] at hy;cases hy
  | cons y2 r2=>rw[e2] at hy;cases hy;rfl
abbrev Cp:=Int×Int×List Str
variable {cs:List Cp}
def CpR (K:W.Frag)(t:OP)(N:Addr->Prop)(H:Hp)(c:Cp)(v:V):Prop:=∃x dx l,v=.ref x/\H x=some (.ins t.zF dx (cF (.int c.1) (.int c.2.1) (.ref l)))/\H l=some (.lst (c.2.2.map V.str))/\N l
theorem CpR.kp {t}{c}(g:Kp N H H')(h:CpR K t N H c v):CpR K t N H' c v:=by
 obtain⟨x,dx,l,e,h1,h2,n⟩:=h;exact⟨x,dx,l,e,g.ins h1,g _ _ h2 (.inl n),n⟩
theorem YX {t}(g:Kp N H H')(h:All2 (CpR K t N H) cs vs):All2 (CpR K t N H') cs vs:=⟨h.1,λi a b ha hb=>(h.2 i a b ha hb).kp g⟩
structure RdS (K:W.Frag)(t:OP)(N:Addr->Prop)(ow:Addr->Nat)(H:Hp)(r dx a1 a2 a3:Addr)(ds:List Addr)(qs:Nat->Nat->Addr)(cvs:List V)(ks:List (Str×List Itm))(cs:List Cp)(as:List Str):Prop where
 hr:H r=some (.ins t.zO dx (rF (.ref a1) (.ref a2) (.ref a3)))
 h1:H a1=some (.lst (ds.map V.ref))
 h2:H a2=some (.lst cvs)
 h3:H a3=some (.lst (as.map V.str))
 n1:N a1
 n2:N a2
 n3:N a3
 dl:ds.length=ks.length
 dr:∀(i:Nat) d k,ds[i]?=some d->ks[i]?=some k->DrR K t H d k.1 k.2 (qs i)
 nq:∀i<ks.length,∀j<7,N (qs i j)
 cr:All2 (CpR K t (λl=>N l/\ow l=3) H) cs cvs
 o1:ow a1=0
 o2:ow a2=1
 o3:ow a3=2
 oq:∀i<ks.length,∀j<7,ow (qs i j)=10+7*i+j
theorem RdS.mono {t}{r}{ds}(g:Same H H')(h:RdS K t N ow H r dx a1 a2 a3 ds qs cvs ks cs as):RdS K t N ow H' r dx a1 a2 a3 ds qs cvs ks cs as:=
 ⟨g _ _ h.hr,g _ _ h.h1,g _ _ h.h2,g _ _ h.h3,h.n1,h.n2,h.n3,h.dl,λi d k J U=>(h.dr i d k J U).kp g,h.nq,YX (.of g) h.cr,h.o1,h.o2,h.o3,h.oq⟩
def nF (K:W.Frag)(t:OP)(N:Addr->Prop)(H:Hp)(r:Addr)(ks:List (Str×List Itm))(cs:List Cp)(as:List Str):Prop:=∃ow dx a1 a2 a3 ds qs cvs,RdS K t N ow H r dx a1 a2 a3 ds qs cvs ks cs as
theorem ZS:(rF a b c).lookup (Str.ofString "drafts")=some a:=by kernel_rfl
theorem Jh:(rF a b c).lookup (Str.ofString "caps")=some b:=by kernel_rfl
theorem Jz:(rF a b c).lookup (Str.ofString "asked_for")=some c:=by kernel_rfl
theorem Sj:(rF a b c).lookup (Str.ofString "titles_told")=none:=by kernel_rfl
theorem Pm:(rF a b c).lookup (Str.ofString "fits")=none:=by kernel_rfl
theorem Fb:(rF a b c).lookup (Str.ofString "caps_none_twice")=none:=by kernel_rfl
theorem Pk:(rF a b c).lookup (Str.ofString "take")=none:=by kernel_rfl
theorem Pj:(rF a b c).lookup (Str.ofString "office_told")=none:=by kernel_rfl
theorem K4:(cF a b c).lookup (Str.ofString "titles")=some c:=by kernel_rfl
theorem U1:(cF a b c).lookup (Str.ofString "limit")=some a:=by kernel_rfl
theorem Mf:(cF a b c).lookup (Str.ofString "each")=some b:=by kernel_rfl
inductive n9 (K)(t)(x:V)(H:Hp)(Q:VK):Prop
 | mk (N:Addr->Prop) (r:Addr) (ks:List (Str×List Itm)) (cs:List Cp) (as:List Str) (h1:x=.ref r) (h2:nF K t N H r ks cs as) (h3:ks.length<=1000) (h4:∀p H',Same H H'->H' p=some (.lst ((ks.map (·.1)).map V.str))->Q (.ref p) H'):n9 K t x H Q
def ro (ks:List (Str×List Itm))(H:Hp)(i:Nat)(acc:List V)(σ':L2.St)(H':Hp):Prop:=∃x0,σ'=[x0]/\Same H H'/\acc=((ks.take i).map (·.1)).map V.str
theorem cZ (T:Tx w K mg):Z7 P w K mg base 1 t.zO "titles_told" ["self"] (Sp1M (n9 K t)):=by
 refine Xq T 8401 ["self"] Zq λH Q dn hr h=>?_
 obtain⟨_,rfl,N,r,ks,cs,as,rfl,⟨ow,dx,a1,a2,a3,ds,qs,cvs,S⟩,hn,q⟩:=h;refine⟨_,(Qc (Qf (Lz ["draft"] [none] (L0 K rfl (LA K (pu 0))) (Ky 0) QL (Zb (ZM hr) (pu 0) Qi (λ_ _=>rfl))))),?_⟩;left;simp only[QX];left;refine QH S.hr T.aD T.aQ ZS ?_;have a4:=S.dl;refine⟨a1,rfl,⟨_,G5 S.h1⟩,Zt (xs:=ds.map V.ref) (ro ks H) ⟨none,rfl,G7 _,rfl⟩ (λi acc σ' H' _ h=>by obtain⟨_,_,g',_⟩:=h;exact g'.seq (G5 S.h1)) (by rw[As];omega) ?_ ?_⟩
 ·rintro i v acc _ H2 U a0 ⟨x0,rfl,g,rfl⟩;have J:=Qt U;rw[AS] at U;obtain⟨d,hd,rfl⟩:=A8.mp U;obtain⟨k,hk⟩:∃k,ks[i]?=some k:=⟨_,Ax (by rw[As] at J;omega)⟩
  have hD:=(S.dr i d k hd hk).kp g;simp only[Zw,Y3];left;refine⟨d,_,rfl,US hD,?_⟩;exact CN.mk J (by rw[Aq,Av];omega) ⟨_,rfl,g,by rw[AX,hk,Az,Az];rfl⟩
 ·rintro acc _ H2 ⟨x0,rfl,g,rfl⟩ p hp;rw[AJ (by rw[As];omega)];exact q _ _ (g.trans (Qd hp _)) Qb
inductive YD (K)(t)(x y:V)(H:Hp)(Q:VK):Prop
 | mk (N:Addr->Prop) (r a:Addr) (ns:List Str) (ks:List (Str×List Itm)) (cs:List Cp) (as:List Str) (h1:x=.ref r) (h1':y=.ref a) (h2:nF K t N H r ks cs as) (h3:Kv K H a (ns.map V.str)) (h4:(ns++(cs.map (·.2.2)).flatten).Nodup) (h5:(ns++(cs.map (·.2.2)).flatten).length<=100) (h6:∀H',Same H H'->Q (.bl true) H'):YD K t x y H Q
def sT (r a l:Addr)(ns:List Str)(cs:List Cp)(H:Hp)(i:Nat)(σ':L2.St)(H':Hp):Prop:=∃x3,σ'=[some (.ref r),some (.ref a),some (.ref l),x3]/\Same H H'/\H l=none/\H' l=some (.lst ((ns++((cs.take i).map (·.2.2)).flatten).map V.str))
theorem gX (T:Tx w K mg):Z7 P w K mg base 1 t.zO "caps_none_twice" ["self","titles"] (Sp2M (YD K t)):=by
 refine Xq T 8403 ["self","titles","capped","cap"] Zd λH Q dn hr h=>?_
 obtain⟨_,_,rfl,N,r,a,ns,ks,cs,as,rfl,rfl,⟨ow,dx,a1,a2,a3,ds,qs,cvs,S⟩,hL,nd,hn,q⟩:=h;refine⟨_,(Qa (Ks 2 (QD (Xi K rfl) (by rfl) T.aJ IA (Km (pu 1)))) (Qa (Lx (L0 K rfl (LA K (pu 0))) (Ky 3) (Qc (Qw (QA K rfl AL Gb Ga ZG (pu 2) (Km (LA K (pu 3))))))) (Qc (Qf (OJ (QR K) (QC La (by rfl) T.aA boot_len (Km (QD (M6 K rfl rfl) (by rfl) T.dY boot_set (Km (pu 2))))) (Ln K T.aA (pu 2))))))),?_⟩;left;refine⟨a,_,rfl,.inl hL,λl J=>?_⟩;have U:=Qd J (.lst (ns.map V.str));have a0:(upd H l (.lst (ns.map V.str))) l=some (.lst (ns.map V.str)):=Qb;generalize upd H l (.lst (ns.map V.str))=H1 at *;left;refine QH (U _ _ S.hr) T.aD T.aZ Jh ?_;have a7:=S.cr.1;refine⟨a2,rfl,⟨_,G5 (U _ _ S.h2)⟩,Z6 (xs:=cvs) (sT r a l ns cs H) ⟨none,rfl,U,J,by simpa using a0⟩ (λi σ' H' _ h=>by obtain⟨_,_,g',_⟩:=h;exact G5 (g' _ _ S.h2)) ?_ ?_⟩
 ·rintro i v _ H2 hv ⟨x3,rfl,g,_,hl2⟩;obtain⟨c,hc,hP⟩:=S.cr.getV hv;obtain⟨x,a6,l',rfl,hx,a5,_⟩:=hP;have sub:((cs.take (i+1)).map (·.2.2)).flatten=((cs.take i).map (·.2.2)).flatten++c.2.2:=by rw[AX,hc,Az,IC];simp
  have len:(ns++((cs.take (i+1)).map (·.2.2)).flatten).length<=100:=by
   refine A4 (List.Sublist.length_le ?_) hn;refine List.Sublist.append (List.Sublist.refl _) ?_
   conv=>rhs;rw [<-qx (i+1) cs]
   rw[Az,IC];exact List.sublist_append_left _ _
  left;refine⟨.inl ⟨rfl,_,G5 hl2⟩,QH (g _ _ hx) T.aM T.bT K4 ⟨l,l',_,_,rfl,rfl,hl2,g _ _ a5,?_,?_⟩⟩
  ·rw [sub,<-List.append_assoc] at len;rw [<-Aq,<-Az,As,AB];exact A4 len (by decide)
  ·refine⟨_,rfl,λb o h=>by rw[Qk (Qj h J)];exact g _ _ h,J,?_⟩;simp only[Qb,sub,Az,List.append_assoc]
 ·rintro _ H2 ⟨x3,rfl,g,_,hl2⟩;rw[AJ (by omega)] at hl2;left;refine⟨l,_,rfl,G5 hl2,nd,hn,λp hp=>⟨p,_,rfl,Qb,hn,?_⟩⟩;have a4:=Qj hl2 hp;refine Q7 (G5 (by rw[Qk a4];exact hl2)) ?_;left;rw[As,A5 rfl];exact q _ (g.trans (Qd hp _))
def KH (ks:List (Str×List Itm))(cs:List Cp):Row->Prop
 | .kind z=>ks.length<8/\z∉ks.map (·.1)
 | .cap _ _ ns=>cs.length<4/\(ns++(cs.map (·.2.2)).flatten).Nodup
 | .itm x=>∃ks0 z xs,ks=ks0++[(z,xs)]/\X2 xs x
structure Sml (n:Nat)(ks:List (Str×List Itm))(cs:List Cp)(as:List Str):Prop where
 k:ks.length<=n
 c:cs.length<=n
 a:as.length<=8*n
 x:∀k∈ks,k.2.length<=n
 m:∀c∈cs,c.2.2.length<=8
inductive Xs (K)(t)(x y z:V)(H:Hp)(Q:VK):Prop
 | mk (N:Addr->Prop) (r a:Addr) (vs:List V) (row:Row) (ks:List (Str×List Itm)) (cs:List Cp) (as:List Str) (h1:x=.ref r) (h2:y=.str row.srt) (h3:z=.ref a) (h4:nF K t N H r ks cs as) (h5:Kv K H a vs) (h6:All2 (Pv K H) row.ds vs) (h7:KH ks cs row) (h7':row.Ok) (h8:∃n,n<=100/\Sml n ks cs as) (h9:∀H',Same H H'->Q (.bl true) H'):Xs K t x y z H Q
theorem UO (h:∀c∈cs,c.2.2.length<=8):(cs.map (·.2.2)).flatten.length<=8*cs.length:=by
 induction cs with
 | nil=>simp
 | cons c r U=>
  have h1:=h c AH;have h2:=U λx J=>h x (AE _ J)
  rw[A3,List.flatten_cons,Aq,AN];omega
theorem Nt (x):(Row.itm x).srt≠q_ "kind"/\(Row.itm x).srt≠q_ "cap":=by
 cases x with
 | term u n l h'=>cases u;exact⟨show¬q_ "from"=q_ "kind" by decide +kernel,show¬q_ "from"=q_ "cap" by decide +kernel⟩;exact⟨show¬q_ "upto"=q_ "kind" by decide +kernel,show¬q_ "upto"=q_ "cap" by decide +kernel⟩
 | base=>exact⟨show¬q_ "base"=q_ "kind" by decide +kernel,show¬q_ "base"=q_ "cap" by decide +kernel⟩
 | each=>exact⟨show¬q_ "each"=q_ "kind" by decide +kernel,show¬q_ "each"=q_ "cap" by decide +kernel⟩
 | rent=>exact⟨show¬q_ "rent"=q_ "kind" by decide +kernel,show¬q_ "rent"=q_ "cap" by decide +kernel⟩
 | pay=>exact⟨show¬q_ "pay"=q_ "kind" by decide +kernel,show¬q_ "pay"=q_ "cap" by decide +kernel⟩
 | cnt=>exact⟨show¬q_ "counts"=q_ "kind" by decide +kernel,show¬q_ "counts"=q_ "cap" by decide +kernel⟩
 | off=>exact⟨show¬q_ "off"=q_ "kind" by decide +kernel,show¬q_ "off"=q_ "cap" by decide +kernel⟩
 | unt=>exact⟨show¬q_ "until"=q_ "kind" by decide +kernel,show¬q_ "until"=q_ "cap" by decide +kernel⟩
 | rnd=>exact⟨show¬q_ "round"=q_ "kind" by decide +kernel,show¬q_ "round"=q_ "cap" by decide +kernel⟩
theorem Ul {K}{H}:∀{ns:List Str}{vs},All2 (Pv K H) (ns.map D.str) vs->vs=ns.map V.str
 | [],vs,h=>Gd h.1.symm
 | n::ns,vs,h=>by
  match vs,h with
  | v::r,h=>
   have h0:=h.2 0 _ _ rfl rfl;rw[YO h0,Ul (ns:=ns) (vs:=r) ⟨by have:=h.1;simpa using this,λi a b J U=>h.2 (i+1) a b (by simpa using J) (by simpa using U)⟩];rfl
theorem Bk {a b:Int}(h:All2 (Pv K H) (.int a::.int b::ns.map D.str) vs):vs=.int a::.int b::ns.map V.str:=by
 match vs,h with
 | v::u::r,h=>
  rw[Zv (h.2 0 _ _ rfl rfl),Zv (h.2 1 _ _ rfl rfl),Ul (ns:=ns) (vs:=r) ⟨by have:=h.1;simpa using this,λi a b J U=>h.2 (i+2) a b (by simpa using J) (by simpa using U)⟩]
theorem NR {t}{r}{ds}{k}(S:RdS K t N ow H r dx a1 a2 a3 ds qs cvs (ks0++[k]) cs as):∃ds0 d,ds=ds0++[d]/\ds0.length=ks0.length/\DrR K t H d k.1 k.2 (qs ks0.length):=by
 have J:=S.dl;rw[Aq,Av] at J;rcases List.eq_nil_or_concat ds with rfl|⟨ds0,d,rfl⟩
 ·simp at J
 rw[List.concat_eq_append] at *;rw[Aq,Av] at J;have J:ds0.length=ks0.length:=by omega
 exact ⟨ds0,d,rfl,J,S.dr ks0.length d k (by rw [<-J];simp) (by simp)⟩
theorem gY (T:Tx w K mg):Z7 P w K mg base 2 t.zO "fits" ["self","sort","values"] (Sp3M (Xs K t)):=by
 refine Xq T 8402 ["self","sort","values"] Wp λH Q dn hr h=>?_
 obtain⟨_,_,_,rfl,N,r,a,vs,row,ks,cs,as,rfl,rfl,rfl,hR,hL,hA,J,ok,⟨n,hn,U⟩,q⟩:=h;refine⟨_,(Qa (Qn (Ku (QR K) (pu 1) Qi) (Qc (Qf (Xg (OJ Zi (Ln K T.aA (LA K (pu 0))) (XM T.eU)) (Yb (We (XB K rfl) (Ko K 2) (Zh (cZ T) (LG hr) T.aD (pu 0)) (by with_unfolding_all rfl)))))) Qh) (Qa (Qn (Ku (QR K) (pu 1) Qi) (Qc (Qf (Xg (OJ Zi (Ln K T.aA (LA K (pu 0))) (XM T.eW)) (Yb (ZJ (gX T) (LG hr) T.aD (pu 0) (Km (Zy (lY K rfl) (pu 2) (ZA Qe) Xy))))))) Qh) (Qc (Qf (Xg (OJ XY (Ln K T.aA (LA K (pu 0))) Qe) (Yb (Kn (gQ T) (Lu (LD K (LA K (pu 0)) OC) (pu 1) (pu 2))))))))),?_⟩;have a0:=hR;obtain⟨ow,dx,a1,a2,a3,ds,qs,cvs,S⟩:=a0;have a8:=S.dl;have a6:=S.cr.1;left;cases row with
 | kind z=>
  obtain⟨v,rfl,h1⟩:=o7 hA;cases YO h1;rw[An (show(Row.kind z).srt=Str.ofString "kind" from rfl)];refine QH S.hr T.aD T.aQ ZS (Q7 (G5 S.h1) ?_);rw[As];left;rw[An (by have:=J.1;omega)];refine QO hL (v:=.str z) rfl (Xm S.hr Sj ?_);left;have:=U.k;exact⟨N,r,ks,cs,as,rfl,hR,by omega,λp H' g hp=>Z0 (G5 hp) (by rw[AV J.2];exact q _ g)⟩
 | cap x y ns=>
  have e:=Bk hA;subst e;rw[Am (show¬(Row.cap x y ns).srt=Str.ofString "kind" from show¬q_ "cap"=q_ "kind" by decide +kernel),An (show(Row.cap x y ns).srt=Str.ofString "cap" from rfl)];refine QH S.hr T.aD T.aZ Jh (Q7 (G5 S.h2) ?_);left;rw[An (by have:=J.1;omega)];refine Xm S.hr Fb ?_;left;refine YF hL λp hp=>?_
  rw[show Yp (V.int x::V.int y::ns.map V.str) (some 2) none=ns.map V.str from JT _ 2];have g1:=Qd hp (.lst (ns.map V.str));have k1:=UO U.m;have k2:=J.1;have k3:=ok.2.2.2.2;exact⟨N,r,p,ns,ks,cs,as,rfl,rfl,⟨ow,dx,a1,a2,a3,ds,qs,cvs,S.mono g1⟩,G5 Qb,J.2,by rw[Aq];omega,λH' g=>q _ (g1.trans g)⟩
 | itm x=>
  obtain⟨e1,e2⟩:=Nt x;rw[Am e1,Am e2];obtain⟨ks0,z,xs,rfl,a4⟩:=J;obtain⟨a5,d,rfl,a7,hD⟩:=NR S;have h1:=G5 (K:=K) S.h1;refine QH S.hr T.aD T.aQ ZS (Q7 h1 ?_);left;rw[As,Aq,Av,An (by omega)];rw[Az] at h1;refine QH S.hr T.aD T.aQ ZS (QO h1 (Q4 _ _) ?_);have k1:xs.length<=n:=U.x (z,xs) (by simp);exact⟨d,z,xs,_,x,a,vs,rfl,rfl,rfl,hD,hL,hA,a4,by omega,λH' g=>q _ g⟩
def VW:List (Str×List Itm)->Itm->List (Str×List Itm)
 | [],_=>[]
 | [k],x=>[(k.1,k.2++[x])]
 | k::r,x=>k::VW r x
theorem Xk {z}{xs}{x}:∀{ks0},VW (ks0++[(z,xs)]) x=ks0++[(z,xs++[x])]
 | []=>rfl
 | [k]=>rfl
 | k::k2::r=>by
  show k::VW ((k2::r)++[(z,xs)]) x=_;rw[Xk (ks0:=k2::r)];rfl
def kS (ks:List (Str×List Itm)):Row->List (Str×List Itm)
 | .kind z=>ks++[(z,[])]
 | .itm x=>VW ks x
 | .cap ..=>ks
def cS (cs:List Cp):Row->List Cp
 | .cap a b ns=>cs++[(a,b,ns)]
 | _=>cs
def aS (as:List Str):Row->List Str
 | .cap _ _ ns=>as++ns
 | .itm (.cnt z _ _)=>as++[z]
 | _=>as
theorem U5:∀{ks}{x},(VW ks x).length=ks.length
 | [],_=>rfl
 | [_],_=>rfl
 | _::k2::r,x=>by show(VW (k2::r) x).length+1=_;rw[U5];rfl
theorem U4 {n:Nat}{x}:∀{ks},(∀k∈ks,k.2.length<=n)->∀k∈VW ks x,k.2.length<=n+1
 | [],_,k,J=>by cases J
 | [k0],h,k,J=>by
  have J:k=(k0.1,k0.2++[x]):=AA.mp J;subst J;have:=h k0 AH;rw[Aq,Av];omega
 | k0::k2::r,h,k,J=>by
  rcases AF.mp (show k∈k0::VW (k2::r) x from J) with rfl|J
  ·have:=h k AH;omega
  ·exact U4 (λy U=>h y (AE _ U)) k J
theorem Sml.step {row}(h:Sml n ks cs as)(ok:row.Ok):Sml (n+1) (kS ks row) (cS cs row) (aS as row):=by
 obtain⟨h1,h2,h3,h4,h5⟩:=h;cases row with
 | kind z=>
  refine⟨by show(ks++[(z,[])]).length<=_;rw[Aq,Av];omega,by show cs.length<=_;omega,by show as.length<=_;omega,λk J=>?_,h5⟩;rcases AK.mp J with J|J
  ·have:=h4 k J;omega
  ·rw[AA.mp J];exact AZ _
 | cap a b ns=>
  have:=ok.2.2.2.2;refine⟨by show ks.length<=_;omega,by show(cs++[(a,b,ns)]).length<=_;rw[Aq,Av];omega,by show(as++ns).length<=_;rw[Aq];omega,λk J=>by have:=h4 k J;omega,λc U=>?_⟩;rcases AK.mp U with U|U
  ·exact h5 c U
  ·rw[AA.mp U];exact this
 | itm x=>
  refine⟨by show(VW ks x).length<=_;rw[U5];omega,by show cs.length<=_;omega,?_,U4 h4,h5⟩;cases x with
  | cnt z r s=>show(as++[z]).length<=_;rw[Aq,Av];omega
  | _=>show as.length<=_;omega
def Sn (N:Addr->Prop)(H H':Hp):Prop:=∀b o,¬N b->H b=some o->H' b=some o
theorem Sn.of (g:Same H H'):Sn N H H':=λb o _ h=>g b o h
theorem Sn.trans (a:Sn N H H1)(b:Sn N H1 H2):Sn N H H2:=λc o n h=>b c o n (a c o n h)
theorem Sn.put {c}(n:N c):Sn N H (upd H c o):=λb u hn h=>by
 have:b≠c:=λe=>hn (by rw[e];exact n)
 rw[Qk this];exact h
theorem Q3 {c}{ws}(hc:H c=some (.lst ws))(h:∀b,N b->b≠c):Kp N H (upd H c o):=λb u e k=>by
 have:b≠c:=by
  rcases k with k|k
  ·exact h b k
  ·intro e2;subst e2;rw[hc] at e;exact k ws (AO e).symm
 rw[Qk this];exact e
theorem DrR.upd {t}{d}{xs}{q}{c}{ws}(h:DrR K t H d z xs q)(hc:H c=some (.lst ws))(hn:∀j<7,q j≠c):DrR K t (L2.upd H c o) d z xs q:=by
 have g:=Q3 (N:=λb=>b≠c) (o:=o) hc λb h=>h
 refine⟨g _ _ h.hd (.inr λvs e=>nomatch e),λj J=>?_⟩;obtain⟨vs,h1,h2⟩:=h.hq j J;exact⟨vs,g _ _ h1 (.inl (hn j J)),Yx g h2⟩
theorem DrR.add {t}{d}{xs}{q}{x}(h:DrR K t H d z xs q)(hc:H (q x.sl)=some (.lst vs))(hinj:∀i<7,∀j<7,q i=q j->i=j)(hv:PIt K t H x v):DrR K t (L2.upd H (q x.sl) (.lst (vs++[v]))) d z (xs++[x]) q:=by
 have g:=Q3 (N:=λb=>b≠q x.sl) (o:=.lst (vs++[v])) hc λb h=>h
 refine⟨g _ _ h.hd (.inr λvs e=>nomatch e),λj hj=>?_⟩;obtain⟨us,h1,h2⟩:=h.hq j hj;rw[IZ];by_cases e:x.sl=j
 ·subst e;rw[hc] at h1;cases h1;refine⟨_,Qb,?_⟩;rw[show[x].filter (λy=>decide (y.sl=x.sl))=[x] by simp];have h3:=Yx g h2;have hl:=h3.1;refine⟨by rw[Aq,Aq,hl];rfl,λi a b U J=>?_⟩;by_cases hi:i<vs.length
  ·rw[A7 (by omega)] at U;rw[A7 hi] at J;exact h3.2 i a b U J
  ·have a0:i<(vs++[v]).length:=(AU.mp J).1;rw[Aq,Av] at a0;have:i=vs.length:=by omega
   subst this;rw[Ib (by omega),hl,Ih] at U;rw[Ib (Au _),Ih] at J;cases U;cases J;exact hv.kp g
 ·refine⟨us,g _ _ h1 (.inl λe2=>e (hinj _ (Xn x) _ hj e2.symm)),?_⟩;rw[show[x].filter (λy=>decide (y.sl=j))=[] by simp[e],Ie];exact Yx g h2
inductive V1 (K)(t)(x y z:V)(H:Hp)(Q:VK):Prop
 | mk (N:Addr->Prop) (Hp:Hp) (r a:Addr) (vs:List V) (row:Row) (ks:List (Str×List Itm)) (cs:List Cp) (as:List Str) (h1:x=.ref r) (h2:y=.str row.srt) (h3:z=.ref a) (h4:nF K t N Hp r ks cs as) (g0:Same Hp H) (ha:Hp a=none) (h5:Kv K H a vs) (h6:All2 (Pv K H) row.ds vs) (h7:KH ks cs row) (hN:∀b,H b=none->N b) (h8:∃n,n<=100/\Sml n ks cs as) (h7':row.Ok) (h9:∀H',Sn N H H'->nF K t N H' r (kS ks row) (cS cs row) (aS as row)->Q .non H'):V1 K t x y z H Q
theorem GS {q:Nat->Addr}(h:∀j<7,ow (q j)=n+j):∀i<7,∀j<7,q i=q j->i=j:=λi hi j hj e=>by
 have h1:=h i hi;have h2:=h j hj;rw[e] at h1;omega
theorem RdS.lst_q {t}{r}{ds}(S:RdS K t N ow H r dx a1 a2 a3 ds qs cvs ks cs as){i j:Nat}(hi:i<ks.length)(hj:j<7):∃vs,H (qs i j)=some (.lst vs):=by
 obtain⟨vs,h,_⟩:=(S.dr i ds[i]! ks[i] (by rw[List.getElem!_eq_getElem?_getD,Ax (by rw[S.dl];exact hi)];rfl) (Ax hi)).hq j hj;exact⟨vs,h⟩
theorem VM {t}(h:All2 (CpR K t N H) cs vs)(hn:∀l us,H l=some (.lst us)->N l->N' l):All2 (CpR K t N' H) cs vs:=⟨h.1,λi a b J U=>by
 obtain⟨x,dx,l,e,h1,h2,n⟩:=h.2 i a b J U;exact⟨x,dx,l,e,h1,h2,hn _ _ h2 n⟩⟩
theorem RdS.reown {t}{r}{ds}{ow'}(S:RdS K t N ow H r dx a1 a2 a3 ds qs cvs ks cs as)(h:∀b vs,H b=some (.lst vs)->ow' b=ow b):RdS K t N ow' H r dx a1 a2 a3 ds qs cvs ks cs as:=
 ⟨S.hr,S.h1,S.h2,S.h3,S.n1,S.n2,S.n3,S.dl,S.dr,S.nq,VM S.cr λl us e n=>⟨n.1,by rw[h _ _ e];exact n.2⟩,by rw[h _ _ S.h1];exact S.o1,by rw[h _ _ S.h2];exact S.o2,by rw[h _ _ S.h3];exact S.o3,λi hi j J=>by
  obtain⟨vs,e⟩:=S.lst_q hi J;rw[h _ _ e];exact S.oq i hi j J⟩
theorem QP (ow:Addr->Nat){a b}(h:ow a≠ow b):a≠b:=λe=>h (by rw[e])
theorem RdS.up1 {t}{r}{ds}(S:RdS K t N ow H r dx a1 a2 a3 ds qs cvs ks cs as){d}{z}{q}(hD:DrR K t H d z [] q)(hq:∀j<7,N (q j)/\ow (q j)=10+7*ks.length+j):RdS K t N ow (upd H a1 (.lst (ds.map V.ref++[.ref d]))) r dx a1 a2 a3 (ds++[d]) (λi=>if i=ks.length then q else qs i) cvs (ks++[(z,[])]) cs as:=by
 have a0:=S.dl;have o1:=S.o1;have o2:=S.o2;have o3:=S.o3;have kc:Kp (λl=>N l/\ow l=3) H (upd H a1 (.lst (ds.map V.ref++[.ref d]))):=Q3 S.h1 λb hb=>QP ow (by rw[hb.2,o1];decide)
 refine⟨by rw[Qk (YH S.hr S.h1 (by intro z;cases z))];exact S.hr,by rw[Qb,Az];rfl,by rw[Qk (QP ow (by rw[o1,o2];decide))];exact S.h2,by rw[Qk (QP ow (by rw[o1,o3];decide))];exact S.h3,S.n1,S.n2,S.n3,by rw[Aq,Aq,a0];rfl,λi d' k U hk=>?_,λi hi j J=>?_,YX kc S.cr,o1,o2,o3,λi hi j J=>?_⟩
 ·have hi:i<(ks++[(z,([]:List Itm))]).length:=(AU.mp hk).1;rw[Aq,Av] at hi;by_cases e:i=ks.length
  ·subst e;rw [<-a0,Ib (Au _),Ih] at U;rw [Ib (Au _),Ih] at hk;cases U;cases hk;simp only [if_true];exact hD.upd S.h1 fun j J=>QP ow (by rw [(hq j J).2,o1];omega)
  ·rw[A7 (by omega)] at U hk;simp only[Am e];exact(S.dr i d' k U hk).upd S.h1 λj J=>QP ow (by rw[S.oq i (by omega) j J,o1];omega)
 ·rw[Aq,Av] at hi;by_cases e:i=ks.length
  ·subst e;simp only[if_true];exact(hq j J).1
  ·simp only[Am e];exact S.nq i (by omega) j J
 ·rw[Aq,Av] at hi;by_cases e:i=ks.length
  ·subst e;simp only[if_true];exact(hq j J).2
  ·simp only[Am e];exact S.oq i (by omega) j J
theorem RdS.up3 {t}{r}{ds}(S:RdS K t N ow H r dx a1 a2 a3 ds qs cvs ks cs as)(as':List Str):RdS K t N ow (upd H a3 (.lst (as'.map V.str))) r dx a1 a2 a3 ds qs cvs ks cs as':=by
 have o1:=S.o1;have o2:=S.o2;have o3:=S.o3;have kc:Kp (λl=>N l/\ow l=3) H (upd H a3 (.lst (as'.map V.str))):=Q3 S.h3 λb hb=>QP ow (by rw[hb.2,o3];decide)
 exact⟨by rw[Qk (YH S.hr S.h3 (by intro z;cases z))];exact S.hr,by rw[Qk (QP ow (by rw[o1,o3];decide))];exact S.h1,by rw[Qk (QP ow (by rw[o2,o3];decide))];exact S.h2,Qb,S.n1,S.n2,S.n3,S.dl,λi d k hd J=>(S.dr i d k hd J).upd S.h3 λj U=>QP ow (by rw[S.oq i (AU.mp J).1 j U,o3];omega),S.nq,YX kc S.cr,o1,o2,o3,S.oq⟩
theorem RdS.up2 {t}{r}{ds}(S:RdS K t N ow H r dx a1 a2 a3 ds qs cvs ks cs as){c}{v}(hc:CpR K t (λl=>N l/\ow l=3) H c v):RdS K t N ow (upd H a2 (.lst (cvs++[v]))) r dx a1 a2 a3 ds qs (cvs++[v]) ks (cs++[c]) as:=by
 have o1:=S.o1;have o2:=S.o2;have o3:=S.o3;have kc:Kp (λl=>N l/\ow l=3) H (upd H a2 (.lst (cvs++[v]))):=Q3 S.h2 λb J=>QP ow (by rw[J.2,o2];decide)
 refine⟨by rw[Qk (YH S.hr S.h2 (by intro z;cases z))];exact S.hr,by rw[Qk (QP ow (by rw[o1,o2];decide))];exact S.h1,Qb,by rw[Qk (QP ow (by rw[o2,o3];decide))];exact S.h3,S.n1,S.n2,S.n3,S.dl,λi d k hd hk=>(S.dr i d k hd hk).upd S.h2 λj hj=>QP ow (by rw[S.oq i (AU.mp hk).1 j hj,o2];omega),S.nq,?_,o1,o2,o3,S.oq⟩;have h:=YX kc S.cr;have hl:=h.1;refine⟨by rw[Aq,Aq,hl];rfl,λi a b U J=>?_⟩;by_cases hi:i<cvs.length
 ·rw[A7 (by omega)] at U;rw[A7 hi] at J;exact h.2 i a b U J
 ·have a0:i<(cvs++[v]).length:=(AU.mp J).1;rw[Aq,Av] at a0;have:i=cvs.length:=by omega
  subst this;rw[Ib (by omega),hl,Ih] at U;rw[Ib (Au _),Ih] at J;cases U;cases J;exact hc.kp kc
theorem RdS.upx {t}{r}{ds}{xs}(S:RdS K t N ow H r dx a1 a2 a3 ds qs cvs (ks0++[(z,xs)]) cs as){x}{v}{vs}(hv:H (qs ks0.length x.sl)=some (.lst vs))(hx:PIt K t H x v):RdS K t N ow (upd H (qs ks0.length x.sl) (.lst (vs++[v]))) r dx a1 a2 a3 ds qs cvs (ks0++[(z,xs++[x])]) cs as:=by
 have o1:=S.o1;have o2:=S.o2;have o3:=S.o3;have J:∀y:List Itm,(ks0++[(z,y)]).length=ks0.length+1:=λy=>by rw[Aq];rfl
 have oq:ow (qs ks0.length x.sl)=10+7*ks0.length+x.sl:=S.oq _ (by rw[J];omega) _ (Xn x);have kc:Kp (λl=>N l/\ow l=3) H (upd H (qs ks0.length x.sl) (.lst (vs++[v]))):=Q3 hv λb hb=>QP ow (by rw[hb.2,oq];omega)
 refine⟨by rw[Qk (YH S.hr hv (by intro z;cases z))];exact S.hr,by rw[Qk (QP ow (by rw[o1,oq];omega))];exact S.h1,by rw[Qk (QP ow (by rw[o2,oq];omega))];exact S.h2,by rw[Qk (QP ow (by rw[o3,oq];omega))];exact S.h3,S.n1,S.n2,S.n3,by rw[S.dl,J,J],λi d k hd hk=>?_,λi hi j U=>S.nq i (by rw[J] at *;exact hi) j U,YX kc S.cr,o1,o2,o3,λi hi j U=>S.oq i (by rw[J] at *;exact hi) j U⟩;have hi:=(AU.mp hk).1;rw[J] at hi;by_cases e:i=ks0.length
 ·subst e;have hD:=S.dr ks0.length d (z,xs) hd (by simp);have ek:k=(z,xs++[x]):=by simpa using hk.symm
  subst ek;exact hD.add hv (GS λj U=>S.oq _ (by rw[J];omega) j U) hx
 ·rw[A7 (by omega)] at hk;refine(S.dr i d k hd (by rw[A7 (by omega)];exact hk)).upd hv λj U=>QP ow ?_
  rw[S.oq i (by rw[J];omega) j U,oq];have:=Xn x;omega
theorem GE (ow:Addr->Nat)(q:Nat->Addr)(n:Nat)(hinj:∀i<7,∀j<7,q i=q j->i=j):∃ow':Addr->Nat,(∀j<7,ow' (q j)=n+j)/\∀b,(∀j<7,q j≠b)->ow' b=ow b:=by
 classical
 refine⟨λb=>if h:∃j,j<7/\q j=b then n+Classical.choose h else ow b,λj J=>?_,λb U=>?_⟩
 ·have h:∃i,i<7/\q i=q j:=⟨j,J,rfl⟩
  simp only[dif_pos h];have c:=qU h;rw[hinj _ c.1 _ J c.2]
 ·have h:¬∃j,j<7/\q j=b:=λ⟨j,J,e⟩=>U j J e
  simp only[dif_neg h]
theorem Nv {a c}(h:Kv K H a xs)(n:a≠c):Kv K (upd H c o) a xs:=by
 rcases h with (h|⟨u,h⟩)|h
 ·exact .inl (.inl (by rw[Qk n];exact h))
 ·exact .inl (.inr ⟨u,by rw[Qk n];exact h⟩)
 ·exact .inr h
theorem gZ (T:Tx w K mg):Z7 P w K mg base 5 t.zO "take" ["self","sort","values"] (Sp3M (V1 K t)):=by
 refine Xq T 8404 ["self","sort","values"] Wp λH Q dn hr h=>?_
 obtain⟨_,_,_,rfl,N,Hp,r,a,vs,row,ks,cs,as,rfl,rfl,rfl,⟨ow,dx,a1,a2,a3,ds,qs,cvs,S0⟩,g0,ha,hL,hA,hf,hN,⟨n,hn,sm⟩,ok,q⟩:=h;refine⟨_,(Qc (Qn (Ku (QR K) (pu 1) Qi) (Qc (Qw (QA K rfl AL A0 A1 Qv (LA K (pu 0)) (Km (Kn (gP T) (Km (Ko K 2))))))) (Qc (Qn (Ku (QR K) (pu 1) Qi) (Qa (Qw (QA K rfl AL A0 A1 Qv (LA K (pu 0)) (Km (YR (gS T) (LG hr) rfl T.eB (Lu (Ko K 2) (Ko K 2) (Zy (lY K rfl) (pu 2) (ZA Qe) Xy)))))) (Qc (Qw (QA K rfl AL Gb Ga ZG (LA K (pu 0)) (Km (Zy (lY K rfl) (pu 2) (ZA Qe) Xy)))))) (Qa (Qw (QA K rfl AL A0 A1 Qv (Zb (ZM hr) (LD K (LA K (pu 0)) OC) (Wc T.bL (pu 1) (λ_ _=>rfl)) (λ_ _=>rfl)) (Km (Kn (gM T) (Kq (pu 1) (pu 2)))))) (Qc (Qn (Ku (QR K) (pu 1) Qi) (Qc (Qw (QA K rfl AL A0 A1 Qv (LA K (pu 0)) (Km (Ko K 2))))) Qh))))))),?_⟩;have S:=S0.mono g0;have ak:=S.dl;have aj:=S.cr.1;have s1:=sm.k;have s2:=sm.c;have s3:=sm.a;left;cases row with
 | kind z=>
  obtain ⟨v,rfl,h1⟩:=o7 hA;cases YO h1;rw [An (show (Row.kind z).srt=Str.ofString "kind" from rfl)];refine QH S.hr T.aD T.aQ ZS ⟨.inl ⟨rfl,_,G5 S.h1⟩,QO hL (v:=.str z) rfl ⟨z,rfl,fun d q' H1 J ai ab hq a6=>?_⟩⟩;refine ⟨a1,_,_,rfl,rfl,J _ _ S.h1,by rw [As,AB];omega,?_⟩;refine q _ ((Sn.of J).trans (Sn.put S.n1)) ?_;obtain ⟨ow',w1,w2⟩:=GE ow q' (10+7*ks.length) a6;have S1:=(S.reown (ow':=ow') fun b vs hb=>w2 b fun j hj e=>by rw [<-e,(hq j hj).1] at hb;cases hb).mono J;exact ⟨ow',dx,a1,a2,a3,_,_,cvs,S1.up1 ⟨ab,fun j hj=>⟨[],(hq j hj).2,rfl,fun i a b ha=>by simp at ha⟩⟩ fun j hj=>⟨hN _ (hq j hj).1,w1 j hj⟩⟩
 | cap x y ns=>
  have e:=Bk hA;subst e;rw[Am (show¬(Row.cap x y ns).srt=Str.ofString "kind" from show¬q_ "cap"=q_ "kind" by decide +kernel),An (show(Row.cap x y ns).srt=Str.ofString "cap" from rfl)];refine QH S.hr T.aD T.aZ Jh ⟨.inl ⟨rfl,_,G5 S.h2⟩,?_⟩;simp only[YG];left;refine QO hL (QZ (j:=0) rfl) (QO hL (QZ (j:=1) rfl) (YF hL λp hp=>?_));rw[show Yp (V.int x::V.int y::ns.map V.str) (some 2) none=ns.map V.str from JT _ 2];have J:=Qd hp (.lst (ns.map V.str));have aa:(upd H p (.lst (ns.map V.str))) p=some (.lst (ns.map V.str)):=Qb;generalize upd H p (.lst (ns.map V.str))=H1 at *;intro c dc hc a4 _;refine⟨c,dc,p,_,rfl,XZ,rfl,ZL hc a4 aa,λH2 m o hx hm a0=>⟨rfl,?_⟩⟩;have g2:=Zz hc a4 o;have U:=J.trans g2;have a0:H m=none:=J.free (XN hc a4 a0);refine⟨a2,_,_,rfl,rfl,U _ _ S.h2,by rw[AB];omega,?_⟩;have w2:∀b,b≠m->(λb=>if b=m then 3 else ow b) b=ow b:=λb hb=>Am hb
  have S2:=((S.reown (ow':=λb=>if b=m then 3 else ow b) λb vs hb=>w2 b (Qj hb a0)).mono U).up2 (c:=(x,y,ns)) (v:=.ref c) ⟨c,dc,m,rfl,hx,hm,hN _ a0,An rfl⟩;refine QH S2.hr T.aD T.bF Jz ⟨.inl ⟨rfl,_,G5 S2.h3⟩,?_⟩;have a8:a≠a2:=λe=>by rw[e,S0.h2] at ha;cases ha
  have ae:a3≠a:=fun e=>by rw [<-e,S0.h3] at ha;cases ha
  refine YF (Nv (U.seq hL) a8) λp2 a9=>?_
  rw [show Yp (V.int x :: V.int y :: ns.map V.str) (some 2) none=ns.map V.str from JT _ 2];have g3:=Qd a9 (.lst (ns.map V.str));have S3:=(S2.mono g3).up3 (as++ns);have l8:=ok.2.2.2.2;refine ⟨a3,p2,_,_,rfl,rfl,g3 _ _ S2.h3,Qb,by rw [As,As,AB];omega,?_⟩;rw [<-Az];exact q _ ((((Sn.of U).trans (Sn.put S.n2)).trans (Sn.of g3)).trans (Sn.put S.n3)) ⟨_,_,_,_,_,_,_,_,S3⟩
 | itm x=>
  obtain⟨e1,e2⟩:=Nt x;rw[Am e1,Am e2];obtain⟨ks0,z,xs,rfl,ao⟩:=hf;obtain⟨ag,d,rfl,ar,hD⟩:=NR S;simp only[Y3,Nm];left;have h1:=G5 (K:=K) S.h1;rw[Az] at h1;refine QH S.hr T.aD T.aQ ZS (QO h1 (Q4 _ _) ?_);obtain⟨us,hu,hU⟩:=hD.hq x.sl (Xn x);refine⟨Sum.inr x.srt,_,rfl,JI x,d,_,rfl,ZN hD (Xn x),.inl ⟨rfl,_,G5 hu⟩,x,a,vs,rfl,rfl,hL,hA,λv H1 J hP=>?_⟩;have af:(xs.filter λy=>decide (y.sl=x.sl)).length=us.length:=hU.1;have aq:xs.length<=n:=sm.x (z,xs) (by simp);have ah:(xs.filter λy=>decide (y.sl=x.sl)).length<=xs.length:=Iw _ _;refine⟨_,_,_,rfl,rfl,J _ _ hu,by rw[AB];omega,?_⟩;have S1:=(S.mono J).upx (J _ _ hu) hP;have a5:ks0.length<(ks0++[(z,xs)]).length:=by rw[Aq];exact IF _
  have nq:=S.nq ks0.length a5 x.sl (Xn x);have na:a≠qs ks0.length x.sl:=λe=>by
   obtain ⟨ws,hw⟩:=S0.lst_q a5 (Xn x);rw [<-e,ha] at hw;cases hw
  have a7:=(Sn.of (N:=N) J).trans (Sn.put (o:=.lst (us++[v])) nq);have ek:kS (ks0++[(z,xs)]) (.itm x)=ks0++[(z,xs++[x])]:=Xk;rw[ek] at q;refine Qo (λc=>?_) (λc=>?_)
  ·obtain⟨z2,r2,s2,rfl⟩:=Nu c;obtain⟨v1,v2,rfl,p1,p2⟩:=nN hA;cases YO p1;refine QH S1.hr T.aD T.bF Jz ⟨.inl ⟨rfl,_,G5 S1.h3⟩,QO (Nv (J.seq hL) na) (v:=.str z2) rfl ⟨a3,_,_,rfl,rfl,S1.h3,by rw[As,AB];omega,?_⟩⟩;have S3:=S1.up3 (as++[z2]);rw[Az] at S3;exact q _ (a7.trans (Sn.put S.n3)) ⟨_,_,_,_,_,_,_,_,S3⟩
  ·have ea:aS as (.itm x)=as:=by
    cases x with
    | cnt=>exact absurd rfl c
    | _=>rfl
   rw[ea] at q;exact q _ a7 ⟨_,_,_,_,_,_,_,_,S1⟩
def OfR (K:W.Frag)(t:OP)(N:Addr->Prop)(H:Hp)(v:V)(ks:List (Str×List Itm))(cs:List Cp):Prop:=∃x dx m1 m2 kvs cvs,v=.ref x/\H x=some (.ins t.zG dx (oF (.ref m1) (.ref m2)))/\N m1/\N m2/\H m1=some (.lst kvs)/\H m2=some (.lst cvs)/\All2 (KdR K t N H) ks kvs/\All2 (CpR K t N H) cs cvs
theorem OfR.kp {t}(g:Kp N H H')(h:OfR K t N H v ks cs):OfR K t N H' v ks cs:=by
 obtain⟨x,dx,m1,m2,kvs,cvs,e,h1,U,J,h2,h3,h4,h5⟩:=h;exact⟨x,dx,m1,m2,kvs,cvs,e,g.ins h1,U,J,g _ _ h2 (.inl U),g _ _ h3 (.inl J),⟨h4.1,λi a b ha hb=>(h4.2 i a b ha hb).kp g⟩,YX g h5⟩
theorem KdR.imp {t}{k}(h:KdR K t N H k v)(hn:∀b,N b->N' b):KdR K t N' H k v:=by
 obtain⟨x,dx,li,un,wa,m,e,h1,h2,U,h4⟩:=h;exact⟨x,dx,li,un,wa,m,e,h1,λj J=>⟨hn _ (h2 j J).1,(h2 j J).2⟩,U,h4⟩
inductive U9 (K)(t)(x:V)(H:Hp)(Q:VK):Prop
 | mk (N:Addr->Prop) (r:Addr) (ks:List (Str×List Itm)) (cs:List Cp) (as:List Str) (h1:x=.ref r) (h2:nF K t N H r ks cs as) (h3:∀z∈as,z∈ks.map (·.1)) (h4:ks.length<=1000) (hN:∀b,H b=none->N b) (h9:∀v H',Same H H'->OfR K t N H' v ks cs->Q v H'):U9 K t x H Q
def sV (r:Addr)(H:Hp)(i:Nat)(σ':L2.St)(H':Hp):Prop:=∃x1,σ'=[some (.ref r),x1]/\Same H H'
def sH (K:W.Frag)(t:OP)(N:Addr->Prop)(ks:List (Str×List Itm))(H:Hp)(i:Nat)(acc:List V)(σ':L2.St)(H':Hp):Prop:=∃x0,σ'=[x0]/\Same H H'/\All2 (KdR K t N H') (ks.take i) acc
theorem hJ (T:Tx w K mg):Z7 P w K mg base 5 t.zO "office_told" ["self"] (Sp1M (U9 K t)):=by
 refine Xq T 8405 ["self","title"] Zq λH Q dn hr h=>?_
 obtain⟨_,rfl,N,r,ks,cs,as,rfl,hR,ha,hk,hN,q⟩:=h;have a7:=hR;obtain⟨ow,dx,a1,a2,a3,ds,qs,cvs,S⟩:=a7;have aa:=S.dl;refine⟨_,(Qa (Lx (L0 K rfl (LA K (pu 0))) (Ky 1) (Qc (Qn (ZY (XB K rfl) (pu 1) (Zh (cZ T) (LG hr) T.aD (pu 0)) (by with_unfolding_all rfl)) (Qc XI) Qh))) (Qc (Qf (YR (gU T) (LG hr) rfl T.eD (Kq (Lz ["draft"] [none] (L0 K rfl (LA K (pu 0))) (Ky 0) QL (Kn (gW T) (Km (pu 0)))) (LA K (pu 0))))))),?_⟩;left;refine QH S.hr T.aD T.bF Jz ⟨a3,rfl,⟨_,G5 S.h3⟩,Z6 (xs:=as.map V.str) (sV r H) ⟨none,rfl,G7 _⟩ (λi σ' H' _ h=>by obtain⟨_,_,g'⟩:=h;exact g'.seq (G5 S.h3)) ?_ ?_⟩
 ·rintro i v _ H2 hv ⟨x1,rfl,g⟩;rw[AS] at hv;obtain⟨z,hz,rfl⟩:=A8.mp hv;have U:=S.mono g;left;refine Xm U.hr Sj ?_;left;refine⟨N,r,ks,cs,as,rfl,⟨ow,dx,a1,a2,a3,ds,qs,cvs,U⟩,hk,λp H' g2 hp=>Z0 (G5 hp) ?_⟩;rw[A5 (ha z (AG hz))];left;exact⟨_,rfl,g.trans g2⟩
 ·rintro _ H2 ⟨x1,rfl,g⟩;have U:=S.mono g;left;simp only[YG];left;simp only[QX];left;refine QH U.hr T.aD T.aQ ZS ⟨a1,rfl,⟨_,G5 U.h1⟩,Zt (xs:=ds.map V.ref) (sH K t N ks H2) ⟨none,rfl,G7 _,rfl,λi a b h=>by simp at h⟩ (λi acc σ' H' _ h=>by obtain⟨_,_,g',_⟩:=h;exact g'.seq (G5 U.h1)) (by rw[As];omega) ?_ ?_⟩
  ·rintro i v acc _ H3 hv a9 ⟨x0,rfl,g3,hA⟩;have a5:=Qt hv;rw[AS] at hv;obtain⟨d,hd,rfl⟩:=A8.mp hv;obtain⟨k,hk⟩:∃k,ks[i]?=some k:=⟨_,Ax (by rw[As] at a5;omega)⟩
   have hD:=(U.dr i d k hd hk).kp g3;simp only[Zw];left;refine⟨d,k.1,k.2,_,rfl,hD,λv H4 g4 hK=>?_⟩;exact CN.mk a5 (by rw[Aq,Av];omega) ⟨_,rfl,g3.trans g4,K9 hA (λa b h=>KdR.kp (.of g4) h) hk (hK.imp λb hb=>hN b ((g.trans g3).free hb))⟩
  ·rintro acc _ H3 ⟨x0,rfl,g3,hA⟩ p hp;rw[AJ (by rw[As];omega)] at hA;have g4:=Qd hp (.lst acc);have a6:(upd H3 p (.lst acc)) p=some (.lst acc):=Qb;generalize upd H3 p (.lst acc)=H4 at *;have J:=g3.trans g4;left;refine QH (J _ _ U.hr) T.aD T.aZ Jh ?_;left;intro x a4 hx a0 _;refine⟨x,a4,p,a2,acc,cvs,rfl,XZ,rfl,ZL hx a0 a6,rfl,ZL hx a0 (J _ _ U.h2),λH5 m1 m2 o a8 b1 b2=>⟨rfl,?_⟩⟩;have g5:=Zz hx a0 o;have fr:∀{b},nU t.zG x a4 H4 b=none->N b:=λh=>hN _ ((g.trans J).free (XN hx a0 h))
   refine q _ _ ((g.trans J).trans g5) ⟨x,a4,m1,m2,acc,cvs,rfl,a8,fr b1.2,fr b2.2,b1.1,b2.1,⟨hA.1,λi a b h1 h2=>KdR.kp (.of (g4.trans g5)) (hA.2 i a b h1 h2)⟩,?_⟩;exact VM (YX (.of (J.trans g5)) U.cr) λl us _ n=>n.1
def run:List (Str×List Itm)->List Cp->List Str->List Row->List (Str×List Itm)×List Cp×List Str
 | ks,cs,as,[]=>(ks,cs,as)
 | ks,cs,as,r::rs=>run (kS ks r) (cS cs r) (aS as r) rs
def TZ:List (Str×List Itm)->List Cp->List Row->Prop
 | _,_,[]=>True
 | ks,cs,r::rs=>r.Ok/\KH ks cs r/\TZ (kS ks r) (cS cs r) rs
def Row.tx (r:Row):Str:=Txt.join blank (r.srt::r.ws)
theorem V9 {r:Row}(ok:r.Ok):Txt.split r.tx blank=r.srt::r.ws:=Gr (by simp) λz hz=>(r.plain ok z hz).2.2
theorem Vg {r:Row}(ok:r.Ok):r.ws.length<=10:=by
 cases r with
 | kind z=>exact G8 rfl
 | cap a b ns=>have:=ok.2.2.2.2;show ns.length+1+1<=10;omega
 | itm x=>cases x<;>exact G8 rfl
theorem Hu {r:Row}(ok:r.Ok):r.tx.length<=100000:=by
 have h:=BW blank (r.srt::r.ws);have h1:=Vg ok;have h2:((r.srt::r.ws).map (·.length)).sum<=(r.srt::r.ws).length*1000:=by
  have:∀l:List Str,(∀z∈l,z.length<=1000)->(l.map (·.length)).sum<=l.length*1000:=by
   intro l
   induction l with
   | nil=>simp
   | cons x l U=>
    intro h;have h1:=h x AH;have h2:=U λy hy=>h y (AE _ hy)
    simp only[A3,List.sum_cons,AN];omega
  exact this _ λz hz=>(r.plain ok z hz).2.1
 have J:blank.length=1:=rfl;rw[J,AN] at h;rw[AN] at h2;show(Txt.join blank (r.srt::r.ws)).length<=_;omega
inductive V5 (K)(t)(x:V)(H:Hp)(Q:VK):Prop
 | mk (a:Addr) (rs:List Row) (ks:List (Str×List Itm)) (cs:List Cp) (as:List Str) (h1:x=.ref a) (h2:Kv K H a (rs.map λr=>.str r.tx)) (h3:rs.length<=80) (h4:TZ [] [] rs) (h5:run [] [] [] rs=(ks,cs,as)) (h6:∀z∈as,z∈ks.map (·.1)) (h7:∀v H',Same H H'->OfR K t (λb=>H b=none) H' v ks cs->Q v H'):V5 K t x H Q
def rq (K:W.Frag)(t:OP)(a r:Addr)(rs:List Row)(fin:List (Str×List Itm)×List Cp×List Str)(H:Hp)(i:Nat)(σ':L2.St)(H':Hp):Prop:=∃x2 x3 x4 x5,σ'=[some (.ref a),some (.ref r),x2,x3,x4,x5]/\Same H H'/\∃ks cs as,nF K t (λb=>H b=none) H' r ks cs as/\Sml i ks cs as/\TZ ks cs (rs.drop i)/\run ks cs as (rs.drop i)=fin
theorem d5 (T:Tx w K mg):LB P w K mg base 7 "read" ["rows"] (Sp1M (V5 K t)):=by
 refine QI T 85 ["rows","reader","place","row","words","values"] Zq λH Q dn hr h=>?_
 obtain⟨_,rfl,a,rs,ks,cs,as,rfl,hL,hn,a7,a5,af,q⟩:=h;refine⟨_,(Qa (Ks 1 (PL (gV T) (LG hr) rfl T.eK)) (Qa (Lx (PF K rfl rfl T.dU (Km (pu 0))) (ON (n:=2) K rfl rfl (Qm (Ky 2) (Qm (Ky 3) QV))) (Qa (Ks 4 (QA K rfl Gc Jb Jc JF (pu 3) (Km Qi))) (Qa (Bm ⟨rfl,rfl,rfl⟩ rfl T.aK (Pt (i:=5) dn rfl (Or.inl rfl) (Pq (fX T) (LG hr) rfl rfl (Km (pu 4)))) (λea=>(Qc XI))) (Qa (Qn (Zc (QN (ZJ (gY T) (LG hr) T.aD (pu 1) (Kq (Ko K 4) (pu 5))))) (Qc XI) Qh) (Qc (Qw (ZJ (gZ T) (LG hr) T.aD (pu 1) (Kq (Ko K 4) (pu 5))))))))) (Qc (Qf (Zh (hJ T) (LG hr) T.aD (pu 1)))))),?_⟩;left;simp only[YG];left;intro r dx U J _;refine⟨r,dx,rfl,XZ,λH1 m1 m2 m3 o ae b1 b2 b3 a9 ag aa=>⟨rfl,?_⟩⟩;have g1:=Zz U J o;have R1:nF K t (λb=>H b=none) H1 r [] [] []:=by
  refine⟨λb=>if b=m1 then 0 else if b=m2 then 1 else 2,dx,m1,m2,m3,[],λ_ _=>0,[],ae,b1.1,b2.1,b3.1,XN U J b1.2,XN U J b2.2,XN U J b3.2,rfl,λi d k h=>by simp at h,λi h=>by simp at h,⟨rfl,λi a b h=>by simp at h⟩,An rfl,?_,?_,λi h=>by simp at h⟩
  ·simp only[Am a9.symm,if_true]
  ·simp only[Am ag.symm,Am aa.symm]
 simp only[Ss];left;refine⟨a,rfl,⟨_,g1.seq hL⟩,Ac (xs:=rs.map λr=>.str r.tx) (rq K t a r rs (ks,cs,as) H) ⟨none,none,none,none,rfl,g1,[],[],[],R1,⟨Au _,Au _,Au _,λk h=>by simp at h,λk h=>by simp at h⟩,a7,a5⟩ (λi σ' H' _ h=>by obtain⟨_,_,_,_,_,g',_⟩:=h;exact g'.seq hL) ?_ ?_⟩
 ·rintro i v _ H2 p hv ⟨x2,x3,x4,x5,rfl,g,ks1,cs1,as1,R,sm,ac,ru⟩ hp;rw[AS] at hv;obtain⟨row,a0,rfl⟩:=A8.mp hv;have hi:i<rs.length:=(AU.mp a0).1;have ed:rs.drop i=row::rs.drop (i+1):=by rw[List.drop_eq_getElem_cons hi,(AU.mp a0).2]
  rw[ed] at ac ru;obtain⟨ok,fi,ac⟩:=ac;have g2:=Qd hp (.tup [.int (i:Nat),.str row.tx]);have hT:Kt K (upd H2 p (.tup [.int (i:Nat),.str row.tx])) p [.int (i:Nat),.str row.tx]:=G6 Qb;generalize upd H2 p (.tup [.int (i:Nat),.str row.tx])=H3 at *;left;rw[QS];have sp:=V9 ok;have wl:=Vg ok;refine⟨by trivial,row.tx,blank,rfl,rfl,by decide,by rw[AB];exact A4 (Hu ok) (by decide),by rw[sp,AB,AN];omega,λp2 ab=>?_⟩;rw[sp];have g3:=Qd ab (.lst ((row.srt::row.ws).map V.str));have hw:Kv K (upd H3 p2 (.lst ((row.srt::row.ws).map V.str))) p2 ((row.srt::row.ws).map V.str):=G5 Qb;generalize upd H3 p2 (.lst ((row.srt::row.ws).map V.str))=H4 at *;left;simp only[LU,pW,Gk];left;refine⟨row,p2,rfl,hw,ok,λp3 vs H5 g4 hz a8 hA=>?_⟩;have a4:=(g2.trans g3).trans g4;have h0:Nd ((row.srt::row.ws).map V.str) 0=some (.str row.srt):=QZ (j:=0) rfl;obtain⟨ow,a6,a1,a2,a3,ds,qs,cvs,S⟩:=id R;have S5:=S.mono a4;left;refine Xm S5.hr Pm ?_;left;refine QO (g4.seq hw) h0 ⟨_,r,p3,vs,row,ks1,cs1,as1,rfl,rfl,rfl,⟨ow,a6,a1,a2,a3,ds,qs,cvs,S5⟩,G5 a8,hA,fi,ok,⟨i,by omega,sm⟩,λH6 g6=>?_⟩;left;refine Xm (S5.mono g6).hr Pk ?_;left;have gg:=g.trans (a4.trans g6);refine QO ((g4.trans g6).seq hw) h0 ⟨_,H2,r,p3,vs,row,ks1,cs1,as1,rfl,rfl,rfl,R,a4.trans g6,(g2.trans g3).free hz,G5 (g6 _ _ a8),⟨hA.1,λi a b h1 h2=>(hA.2 i a b h1 h2).mono g6⟩,fi,λb hb=>gg.free hb,⟨i,by omega,sm⟩,ok,λH7 sn R7=>?_⟩;exact⟨_,_,_,_,rfl,λb o h=>sn b o (λe=>by have e:H b=none:=e;rw[h] at e;cases e) (gg b o h),_,_,_,R7,sm.step ok,ac,ru⟩
 ·rintro _ H2 ⟨x2,x3,x4,x5,rfl,g,ks1,cs1,as1,R,sm,ac,ru⟩;rw[List.drop_eq_nil_of_le (by rw[As];exact Au _)] at ru;cases ru;obtain⟨ow,a6,a1,a2,a3,ds,qs,cvs,S⟩:=id R;left;refine Xm S.hr Pj ?_;left;have:=sm.k;rw[As] at this;exact⟨_,r,ks,cs,as,rfl,R,af,by omega,λb hb=>g.free hb,λv H' g' hO=>q _ _ (g.trans g') hO⟩
theorem bG (T:Tx w K mg):LB P w K mg base 1 "_law_cell" ["_law_script","_law_k"] (Sp2M (YZ K)):=by
 refine QI T 89 ["_law_script","_law_k"] Zd λH Q dn hr h=>?_
 obtain⟨_,_,rfl,a,ns,k,rfl,rfl,J,U,q⟩:=h;refine⟨_,(Qa (Qn (Ku Zi (pu 1) (Ln K T.aA (pu 0))) (Qc (Qf (LD K (pu 0) (pu 1)))) Qh) (Qc (Qf Qe))),?_⟩;left;rw[As];refine Qo (λc=>?_) (λc=>?_)
 ·obtain⟨n,rfl⟩:=Iv U;have hn:n<ns.length:=by omega
  refine QO J (v:=.int (ns.getD n 0)) ?_ ?_
  ·refine QZ ?_;rw[AS,Ax hn,pF,Ax hn];rfl
  ·exact q
 ·have e:ns.getD k.toNat 0=0:=by
   rw[pF,Il (by omega)];rfl
  unfold cl at q;rw[e] at q;exact q
theorem hX (T:Tx w K mg):LB P w K mg base 1 "_law_common" ["_law_one","_law_other"] (Sp2M X1):=by
 refine QI T 92 ["_law_one","_law_other"] Zd λH Q dn hr h=>?_
 obtain⟨_,_,rfl,a,b,rfl,rfl,q⟩:=h;refine⟨_,(Qa (Ks 0 (QC Wo (by rfl) T.bB boot_abs (Km (pu 0)))) (Qa (Ks 1 (QC Wo (by rfl) T.bB boot_abs (Km (pu 1)))) (Qa (JB Q0g (Ku XY (pu 1) Qe) (Qc (Fe (i:=0) (j:=1) rfl dn rfl rfl (by decide) rfl rfl (Kq (pu 1) (Qg Qp (pu 0) (pu 1))) rfl))) (Qc (Qf (pu 0)))))),?_⟩;left;refine⟨λm J H'=>∃(a' b':Int),J=[some (.int a'),some (.int b')]/\H'=H/\0<=a'/\0<=b'/\b'.toNat=m/\Int.gcd a' b'=Int.gcd a b,⟨_,_,_,rfl,rfl,VX a,VX b,rfl,NW a b⟩,?_⟩;rintro m _ _ ⟨a',b',rfl,rfl,ha',hb',rfl,hg⟩;left;by_cases U:b'=0
 ·subst U;rw [Am (by simp)];have e:(Int.gcd a' 0:Int)=a':=UL ha';rw [hg] at e;rw [<-e];exact q
 ·rw[An (by omega)];refine⟨λJ H'=>∃m',m'<b'.toNat/\∃(a'' b'':Int),J=[some (.int a''),some (.int b'')]/\H'=_/\0<=a''/\0<=b''/\b''.toNat=m'/\Int.gcd a'' b''=Int.gcd a b,λ_ _ h=>h,?_⟩;refine⟨by omega,(a' % b').toNat,?_,b',a' % b',rfl,rfl,hb',AY _ U,rfl,?_⟩
  ·have:=A6 a' (b:=b') (by omega);have:=AY a' U;omega
  ·rw[UM ha' (by omega)];exact hg
theorem b8 (T:Tx w K mg):LB P w K mg base 2 "_law_made" ["_law_top","_law_bottom"] (Sp2M OB):=by
 refine QI T 93 ["_law_top","_law_bottom","_law_common_here"] Zd λH Q dn hr h=>?_
 obtain⟨_,_,rfl,t,b,rfl,rfl,U,hs,q⟩:=h;refine⟨_,(Qa (Ks 2 (Kn (hX T) (Kq (pu 0) (pu 1)))) (Qa (Qn (Ku Zi (pu 1) Qe) (Qc (Ks 2 (JC XW (pu 2)))) Qh) (Qc (Qf (Qz (Kq (Qg QB (pu 0) (pu 2)) (Qg QB (pu 1) (pu 2)))))))),?_⟩;left;refine⟨_,_,rfl,rfl,?_⟩;left;have hg:=VH (t:=t) U;have hl:=B3 (t:=t) U;have J:CDivB (L1 t b):=⟨hg,hs.le hl⟩
 by_cases hn:b<0
 ·rw[An hn];have e:-(Int.gcd t b:Int)=L1 t b:=by unfold L1;rw[An hn]
  rw[e];refine⟨J,J,by decide,q⟩
 ·rw[Am hn];have e:(Int.gcd t b:Int)=L1 t b:=by unfold L1;rw[Am hn]
  rw[e];refine⟨J,J,by decide,q⟩
inductive OI (x y:V)(H)(Q:VK):Prop
 | mk (c k:Int) (h1:x=.int c) (h2:y=.int k) (h3:0<=k/\k<=7) (h4:∀(i:Int) H',Same H H'->0<=i->i<1000000000039->Q (.int i) H'):OI x y H Q
theorem Ll {i:Int}(h:0<=i)(h':i<1000000000000000)(hm:60<=m:=by decide):Bd m i:=(show Bd 60 i by unfold Bd;omega).mono hm
theorem aC (T:Tx w K mg):LB P w K mg base 1 "_law_mixed" ["_law_cell_here","_law_k"] (Sp2M OI):=by
 refine QI T 91 ["_law_cell_here","_law_k","_law_prime"] Zd λH Q dn hr h=>?_
 obtain⟨_,_,rfl,c,k,rfl,rfl,hk,q⟩:=h;refine⟨_,(Qa (Ks 2 (LD K (Qq (lU Qe Qe Qe Qe)) (Qg Qp (pu 1) Qe))) (Qc (Qf (Qg Qp (Qg JE (Qg JE (Qg Qu (Qg Qu (Qg Qp (pu 0) Qe) (Qg JE Qe (pu 1))) Qe) (pu 2)) (pu 2)) Qe)))),?_⟩;left;refine⟨by decide,λp hp=>⟨trivial,?_⟩⟩;have g:=Qd hp (.lst [V.int 48271,V.int 16807,V.int 69621,V.int 39373]);have kp:(upd H p (.lst [V.int 48271,V.int 16807,V.int 69621,V.int 39373])) p=some (.lst [V.int 48271,V.int 16807,V.int 69621,V.int 39373]):=Qb;generalize upd H p (.lst [V.int 48271,V.int 16807,V.int 69621,V.int 39373])=H1 at *;obtain⟨v,hv,v0,v1⟩:∃v:Int,Nd [V.int 48271,V.int 16807,V.int 69621,V.int 39373] (k % 4)=some (.int v)/\0<=v/\v<=100000:=by
  rcases(show k % 4=0∨k % 4=1∨k % 4=2∨k % 4=3 by omega) with e|e|e|e<;>rw[e]
  ·exact⟨48271,rfl,by decide,by decide⟩
  ·exact⟨16807,rfl,by decide,by decide⟩
  ·exact⟨69621,rfl,by decide,by decide⟩
  ·exact⟨39373,rfl,by decide,by decide⟩
 refine QO (G5 kp) hv ⟨trivial,⟨Ll (by decide) (by decide),Ll (by omega) (by omega)⟩,?_⟩;left;have m0:=AY c (show(1000000000039:Int)≠0 by decide);have m1:=A6 c (show 0<(1000000000039:Int) by decide);have U:Bd 60 (c % 1000000000039+7*k+3):=Ll (by omega) (by omega);have J:Bd 60 v:=Ll v0 (by omega);refine⟨⟨U.mono (by decide),J.mono (by decide)⟩,⟨(U.mul J).mono (by decide),J.mono (by decide)⟩,trivial,q _ _ g (AY _ (by decide)) (A6 _ (by decide))⟩
inductive W6 (x:V)(H)(Q:VK):Prop
 | mk (c:Int) (h1:x=.int c) (h2:0<=c/\c<1000000000039) (h3:∀z:Str,Xv z->Q (.str z) H):W6 x H Q
def abc:Str:=Str.ofString "abcdefghijklmnopqrstuvwxyz"
theorem VY:abc.length=26:=by decide
theorem Rv:abc.length<=1000:=by rw[VY];decide
def Lt (z:Str):Prop:=∀c∈z.cps.toList,W2 c=true
theorem Ru:Lt abc:=by
 have:∀c∈abc.cps.toList,W2 c=true:=by decide +kernel
 exact this
theorem BN {c:Nat}(h:W2 c=true):Lt ⟨#[c]⟩:=λd hd=>by
 have hd:d∈[c]:=hd;rw[AA.mp hd];exact h
theorem GJ {a b}(ha:Lt a)(hb:Lt b):Lt (a++b):=λc hc=>by
 rw[Wq] at hc;rcases AK.mp hc with h|h
 ·exact ha c h
 ·exact hb c h
theorem So (h1:1<=z.length)(h2:z.length<=8)(h:Lt z):Xv z:=by
 show(decide (1<=z.length)&&decide (z.length<=8)&&z.cps.toList.all W2)=true;rw[A5 h1,A5 h2,Io.mpr h];rfl
theorem D7 {n:Int}(h0:0<=n)(h1:n<=8):PySem.MulOk "a" n/\((Txt.mul "a" n).length:Int)=n/\Lt (Txt.mul "a" n):=by
 have e:(Str.ofString "a").length=1:=by decide
 have J:∀m:Nat,m<9->(Txt.mul "a" (m:Int)).length=m/\(Txt.mul "a" (m:Int)).cps.toList.all W2=true:=by decide +kernel
 refine⟨⟨?_,?_,?_⟩,?_⟩
 ·rw[Bool.or_eq_false_iff];exact⟨AV (by omega),AV (by omega)⟩
 ·intro hn _;rw[e];rcases(show n=1∨n=2∨n=3∨n=4∨n=5∨n=6∨n=7∨n=8 by omega) with rfl|rfl|rfl|rfl|rfl|rfl|rfl|rfl<;>decide
 ·intro hn _;rw[e];rcases(show n=1∨n=2∨n=3∨n=4∨n=5∨n=6∨n=7∨n=8 by omega) with rfl|rfl|rfl|rfl|rfl|rfl|rfl|rfl<;>decide
 ·obtain⟨m,rfl⟩:=Iv h0;obtain⟨k1,k2⟩:=J m (by omega);exact⟨by rw[k1],Io.mp k2⟩
def sE (c:Int)(H:Hp)(i:Nat)(σ':L2.St)(H':Hp):Prop:=∃(z:Str) (k0:Option V) (s a:Int),σ'=[some (.int c),some (.str abc),some (.int s),some (.int a),some (.str z),k0]/\H'=H/\z.length=i/\Lt z
theorem d6 (T:Tx w K mg):LB P w K mg base 1 "_law_name" ["_law_cell_here"] (Sp1M W6):=by
 refine QI T 95 ["_law_cell_here","_law_letters","_law_size","_law_at","_law_text","_law_k"] Zq λH Q dn hr h=>?_
 obtain⟨_,rfl,c,rfl,hc,q⟩:=h;refine⟨_,(Qa (Ks 1 Qi) (Qa (Ks 2 (Qg Qu Qe (Qg Qp (pu 0) Qe))) (Qa (Ks 3 (Qg Qp (Qg QB (pu 0) Qe) (pu 2))) (Qa (Qn (Ku (QR K) (Qg Qp (Qg QB (pu 0) Qe) Qe) Qe) (Qc (Qf (Qg Qu (Qg Qu (Qg Wf Qi (pu 3)) (LD K (pu 1) (Qg Qp (Qg QB (pu 0) Qe) Qe))) (Qg Wf Qi (Qg ZK (Qg ZK (pu 2) (pu 3)) Qe))))) Qh) (Qa (Ks 4 Qi) (Qa (Lx (XJ rfl T.aY (Km (pu 2))) (Ky 5) (Qc (Ks 4 (Qg Qu (pu 4) (LD K (pu 1) (Qg Qp (Qg QB (pu 0) (Qg Qu Qe (Qg Wf (Qg Wf Qe (pu 5)) (pu 5)))) Qe)))))) (Qc (Qf (pu 4))))))))),?_⟩;left;have s0:=AY c (show(8:Int)≠0 by decide);have s1:=A6 c (show 0<(8:Int) by decide);have a0:=AY (c.fdiv 8) (show 1+c % 8≠0 by omega);have a1:=A6 (c.fdiv 8) (show 0<1+c % 8 by omega);generalize c.fdiv 8 % (1+c % 8)=at' at *;have cd:∀j:Int,0<j->j<1000000->CDivB j:=λj h1 h2=>⟨by omega,(Ll (m:=60) (by omega) (by omega)).mono (by decide)⟩
 refine⟨trivial,cd _ (by decide) (by decide),by omega,cd _ (by decide) (by decide),trivial,Qo (λ_=>?_) (λ_=>?_)⟩
 ·obtain⟨o1,l1,t1⟩:=D7 a0 (show at'<=8 by omega);obtain⟨o2,l2,t2⟩:=D7 (n:=1+c % 8-at'-1) (by omega) (by omega);refine⟨o1,cd _ (by decide) (by decide),trivial,?_⟩;have d0:=AY (c.fdiv 128) (show(26:Int)≠0 by decide);have d1:=A6 (c.fdiv 128) (show 0<(26:Int) by decide);refine E3 (z:=abc) Rv d0 (by rw[VY];exact d1) λU J=>?_
  have hy:(⟨#[U]⟩:Str).length=1:=rfl;left;refine⟨Za (by omega),o2,?_⟩;left;exact⟨Za (by rw[QQ];omega),q _ (So (by rw[QQ,QQ];omega) (by rw[QQ,QQ];omega) (GJ (GJ t1 (BN (Ru _ J))) t2))⟩
 ·refine⟨by omega,by omega,B4 (sE c H) ⟨"",none,_,_,rfl,rfl,rfl,λc hc=>by cases hc⟩ ?_ ?_⟩
  ·rintro i _ H2 hi ⟨z,k0,s,a,rfl,rfl,hz,hlt⟩;have a4:i<8:=by omega
   have a5:(0:Int)<=27*(0+(i:Int))*(0+(i:Int))/\27*(0+(i:Int))*(0+(i:Int))<=10000:=by
    rcases(show i=0∨i=1∨i=2∨i=3∨i=4∨i=5∨i=6∨i=7 by omega) with rfl|rfl|rfl|rfl|rfl|rfl|rfl|rfl<;>decide
   left;refine⟨⟨Ll (by decide) (by decide),Ll (by omega) (by omega)⟩,⟨Ll (by omega) (by omega),Ll (by omega) (by omega)⟩,?_⟩;generalize 27*(0+(i:Int))*(0+(i:Int))=ii at *;left;have d0:=AY (c.fdiv (128+ii)) (show(26:Int)≠0 by decide);have d1:=A6 (c.fdiv (128+ii)) (show 0<(26:Int) by decide);refine⟨cd _ (by omega) (by omega),trivial,E3 (z:=abc) Rv d0 (by rw[VY];exact d1) λU J=>?_⟩;have hy:(⟨#[U]⟩:Str).length=1:=rfl;left;exact⟨Za (by omega),z++⟨#[U]⟩,_,_,_,rfl,rfl,by rw[QQ];omega,GJ hlt (BN (Ru _ J))⟩
  ·rintro _ H2 ⟨z,k0,s,a,rfl,rfl,hz,hlt⟩;left;exact q _ (So (by omega) (by omega) hlt)
inductive V6 (K:W.Frag)(x y:V)(H)(Q:VK):Prop
 | mk (c k:Int) (h1:x=.int c) (h2:y=.int k) (h3:0<=k/\k<=2) (h4:∀p r s H',Same H H'->Zn r s->H' p=some (.tup [.int r,.int s])->Q (.ref p) H'):V6 K x y H Q
theorem Up (i:Int):∃v,Nd [a,b] (i % 2)=some v/\(v=a∨v=b):=by
 rcases(show i % 2=0∨i % 2=1 by omega) with e|e<;>rw[e]
 ·exact⟨a,rfl,.inl rfl⟩
 ·exact⟨b,rfl,.inr rfl⟩
theorem Bp (i:Int):∃v,Nd [a,b,c] (i % 3)=some v/\(v=a∨v=b∨v=c):=by
 rcases(show i % 3=0∨i % 3=1∨i % 3=2 by omega) with e|e|e<;>rw[e]
 ·exact⟨a,rfl,.inl rfl⟩
 ·exact⟨b,rfl,.inr (.inl rfl)⟩
 ·exact⟨c,rfl,.inr (.inr rfl)⟩
theorem Mx {t b:Int}(h0:0<=t)(h1:t<=9999)(h2:1<=b)(h3:b<=9999):Zn (fnum t b) (fden t b):=by
 have J:b≠0:=by omega
 have n1:=NZ (t:=t) J;have n2:=N2 (t:=t) J;have p:=UP (t:=t) J;have U:0<=fnum t b:=by
  have e:=N3 (t:=t) J;have h:0<=fnum t b*b:=by rw[e];exact Int.mul_nonneg h0 (by omega)
  exact Int.nonneg_of_mul_nonneg_left h (by omega)
 exact⟨U,by omega,by omega,by omega,UQ J⟩
theorem b9 (T:Tx w K mg):LB P w K mg base 3 "_law_rate" ["_law_cell_here","_law_k"] (Sp2M (V6 K)):=by
 refine QI T 97 ["_law_cell_here","_law_k","_law_top","_law_bottom"] Zd λH Q dn hr h=>?_
 obtain⟨_,_,rfl,c,k,rfl,rfl,hk,q⟩:=h;refine⟨_,(Qa (Ks 2 (Qg Qp (Kn (aC T) (Kq (pu 0) (pu 1))) (LD K (Qq (Kq Qe Qe)) (Qg Qp (Kn (aC T) (Kq (pu 0) Qe)) Qe)))) (Qa (Ks 3 (Qg Qu Qe (Qg Qp (Kn (aC T) (Kq (pu 0) (Qg Qu (pu 1) Qe))) (LD K (Qq (Kq Qe Qe)) (Qg Qp (Kn (aC T) (Kq (pu 0) Qe)) Qe))))) (Qa (Qn (Ku (QR K) (Qg Qp (Qg QB (Kn (aC T) (Kq (pu 0) Qe)) Qe) Qe) Qe) (Qc (Qf (LD K (Qq (Kq (Qz (Kq Qe Qe)) (Qz (Kq Qe Qe)))) (Qg Qp (Kn (aC T) (Kq (pu 0) (pu 1))) Qe)))) Qh) (Qc (Qf (Kn (b8 T) (Kq (pu 2) (pu 3)))))))),?_⟩;left;refine⟨c,k,rfl,rfl,by omega,λm1 H1 g1 b2 ao=>?_⟩;left;refine⟨by decide,λp1 aj=>⟨c,3,rfl,rfl,by omega,λm2 H2 g2 b6 aq=>?_⟩⟩;have ab:=(g1.trans (Qd aj _)).trans g2;have k1:=g2 _ _ (Qb (H:=H1) (a:=p1) (o:=.lst [.int 40,.int 10000]));left;obtain⟨v1,ai,a8⟩:=Up (a:=.int 40) (b:=.int 10000) m2;obtain⟨w1,rfl,a4,b5⟩:∃w:Int,v1=.int w/\0<w/\w<=10000:=by rcases a8 with rfl|rfl;exact⟨_,rfl,by decide,by decide⟩;exact⟨_,rfl,by decide,by decide⟩
 refine⟨trivial,QO (G5 k1) ai ?_⟩;left;have t0:=AY m1 (show w1≠0 by omega);have t1:=A6 m1 a4;refine⟨a4,c,k+1,rfl,rfl,by omega,λm3 H3 g3 az aw=>?_⟩;generalize m1 % w1=top at *;left;refine⟨by decide,λp2 af=>⟨c,3,rfl,rfl,by omega,λm4 H4 g4 au av=>?_⟩⟩;have a9:=((ab.trans g3).trans (Qd af _)).trans g4;have k2:=g4 _ _ (Qb (H:=H3) (a:=p2) (o:=.lst [.int 12,.int 9999]));left;obtain⟨v2,ag,a6⟩:=Up (a:=.int 12) (b:=.int 9999) m4;obtain⟨w2,rfl,a5,b3⟩:∃w:Int,v2=.int w/\0<w/\w<=9999:=by rcases a6 with rfl|rfl;exact⟨_,rfl,by decide,by decide⟩;exact⟨_,rfl,by decide,by decide⟩
 refine⟨trivial,QO (G5 k2) ag ?_⟩;left;have b0:=AY m3 (show w2≠0 by omega);have b1:=A6 m3 a5;refine⟨a5,c,3,rfl,rfl,by omega,λm5 H5 g5 ay ax=>?_⟩;generalize m3 % w2=bot at *;have a7:=a9.trans g5;left;refine⟨⟨by decide,(Ll (m:=60) (by decide) (by decide)).mono (by decide)⟩,trivial,Qo (λ_=>?_) (λ_=>?_)⟩
 ·refine⟨by decide,λJ ak=>⟨by decide,λU aa=>⟨by decide,λp5 ah=>⟨c,k,rfl,rfl,by omega,λm6 H6 g6 ar b4=>?_⟩⟩⟩⟩;have ga:=Qd ak (.tup [.int 9999,.int 1]);have ka:=Qb (H:=H5) (a:=J) (o:=.tup [.int 9999,.int 1]);generalize upd H5 J (.tup [.int 9999,.int 1])=Ha at *;have gb:=Qd aa (.tup [.int 1,.int 9999]);have kb:=Qb (H:=Ha) (a:=U) (o:=.tup [.int 1,.int 9999]);generalize upd Ha U (.tup [.int 1,.int 9999])=Hb at *;have gc:=Qd ah (.lst [.ref J,.ref U]);have kc:=Qb (H:=Hb) (a:=p5) (o:=.lst [.ref J,.ref U]);generalize upd Hb p5 (.lst [.ref J,.ref U])=Hc at *;left;obtain⟨v3,ae,a0⟩:=Up (a:=.ref J) (b:=.ref U) m6;refine⟨trivial,QO (G5 (g6 _ _ kc)) ae ?_⟩;have gg:=a7.trans (((ga.trans gb).trans gc).trans g6);rcases a0 with rfl|rfl
  ·exact q _ _ _ _ gg ⟨by decide,by decide,by decide,by decide,by decide⟩ (((gb.trans gc).trans g6) _ _ ka)
  ·exact q _ _ _ _ gg ⟨by decide,by decide,by decide,by decide,by decide⟩ ((gc.trans g6) _ _ kb)
 ·refine⟨top,1+bot,rfl,rfl,by omega,(Ll (m:=60) (by omega) (by omega)).mono (by decide),λp hp=>?_⟩;exact q _ _ _ _ (a7.trans (Qd hp _)) (Mx t0 (by omega) (by omega) (by omega)) Qb
inductive V2 (K)(x:V)(H)(Q:VK):Prop
 | mk (p:Addr) (r s:Int) (h1:x=.ref p) (h2:Kt K H p [.int r,.int s]) (h3:Zn r s) (h4:Q (.str (Q6 r s)) H):V2 K x H Q
theorem i7 (T:Tx w K mg):LB P w K mg base 1 "_law_shown" ["_law_rate_here"] (Sp1M (V2 K)):=by
 refine QI T 98 ["_law_rate_here"] Zq λH Q dn hr h=>?_
 obtain⟨_,rfl,p,r,s',rfl,hT,ok,q⟩:=h;refine⟨_,(Qa (Qn (Ku (QR K) (Ko K 0) Qe) (Qc (Qf (QD Zm (by rfl) T.aI boot_str (Km (Ko K 0))))) Qh) (Qc (Qf (Qg Qu (Qg Qu (QD Zm (by rfl) T.aI boot_str (Km (Ko K 0))) Qi) (QD Zm (by rfl) T.aI boot_str (Km (Ko K 0))))))),?_⟩;obtain⟨J,r1,s0,s1,_⟩:=ok;have l1:(nt r).length<=100:=len_num J (by omega);have U:(nt s').length<=100:=len_num (n:=s') (by omega) (by omega);unfold Q6 at q;left;refine Qo (λe=>?_) (λe=>?_)
 ·rw[An e] at q;left;exact .inl ⟨r,rfl,Yk J (by omega),q⟩
 ·rw[Am e] at q;left;refine .inl ⟨r,rfl,Yk J (by omega),?_⟩;left;rw[Gs];refine⟨Za (by show(nt r).length+1<=1000;omega),?_⟩;left;refine .inl ⟨s',rfl,Yk (by omega) (by omega),?_⟩;left;exact⟨Za (show(Str.ofString (toString r)++sla).length+(nt s').length<=1000 by rw[QQ];show(nt r).length+1+(nt s').length<=1000;omega),q⟩
inductive Ys (K:W.Frag)(x:V)(H)(Q:VK):Prop
 | mk (c:Int) (h1:x=.int c) (h4:∀p l h H',Same H H'->Ve l h->H' p=some (.tup [.int l,.int h])->Q (.ref p) H'):Ys K x H Q
theorem cH (T:Tx w K mg):LB P w K mg base 2 "_law_ages" ["_law_cell_here"] (Sp1M (Ys K)):=by
 refine QI T 99 ["_law_cell_here","_law_low"] Zq λH Q dn hr h=>?_
 obtain⟨_,rfl,c,rfl,q⟩:=h;refine⟨_,(Qa (Ks 1 (Qg Qp (Kn (aC T) (Kq (pu 0) Qe)) Qe)) (Qa (Qn (Ku (QR K) (Qg Qp (Kn (aC T) (Kq (pu 0) Qe)) Qe) Qe) (Qc (Qf (Qz (Kq (LD K (Qq (Kq (pu 1) Qe)) (Qg Qp (Kn (aC T) (Kq (pu 0) Qe)) Qe)) Qe)))) Qh) (Qc (Qf (Qz (Kq (pu 1) (Qg Qu (pu 1) (Qg Qp (Kn (aC T) (Kq (pu 0) Qe)) (Qg ZK Qe (pu 1)))))))))),?_⟩;left;refine⟨c,1,rfl,rfl,by omega,λm1 H1 g1 ae aa=>?_⟩;left;have t0:=AY m1 (show(151:Int)≠0 by decide);have t1:=A6 m1 (show(0:Int)<151 by decide);generalize m1 % 151=low at *;refine⟨trivial,c,3,rfl,rfl,by omega,λm2 H2 g2 af ab=>?_⟩;have J:=g1.trans g2;left;refine⟨trivial,Qo (λ_=>?_) (λ_=>?_)⟩
 ·refine⟨by decide,λp1 a9=>⟨c,2,rfl,rfl,by omega,λm3 H3 g3 a6 a5=>?_⟩⟩;have k1:=g3 _ _ (Qb (H:=H2) (a:=p1) (o:=.lst [.int low,.int 150]));have a0:=(J.trans (Qd a9 _)).trans g3;left;obtain⟨v1,a8,U⟩:=Up (a:=.int low) (b:=.int 150) m3;obtain⟨w1,rfl,a4,a7⟩:∃w:Int,v1=.int w/\0<=w/\w<=150:=by rcases U with rfl|rfl;exact⟨_,rfl,by omega,by omega⟩;exact⟨_,rfl,by decide,by decide⟩
  refine⟨trivial,QO (G5 k1) a8 ?_⟩;left;exact⟨by decide,λp hp=>q _ _ _ _ (a0.trans (Qd hp _)) ⟨a4,a7,by decide⟩ Qb⟩
 ·refine⟨c,2,rfl,rfl,by omega,λm3 H3 g3 a6 a5=>?_⟩;left;have d0:=AY m3 (show(151-low:Int)≠0 by omega);have d1:=A6 m3 (show(0:Int)<151-low by omega);exact⟨by omega,by decide,λp hp=>q _ _ _ _ ((J.trans g3).trans (Qd hp _)) ⟨t0,by omega,by omega⟩ Qb⟩
inductive mj (x y:V)(H)(Q:VK):Prop
 | mk (c k:Int) (h1:x=.int c) (h2:y=.int k) (h3:0<=k/\k<=6) (h4:∀n H',Same H H'->ZR n->Q (.int n) H'):mj x y H Q
theorem bA (T:Tx w K mg):LB P w K mg base 2 "_law_amount" ["_law_cell_here","_law_k"] (Sp2M mj):=by
 refine QI T 100 ["_law_cell_here","_law_k","_law_number"] Zd λH Q dn hr h=>?_
 obtain⟨_,_,rfl,c,k,rfl,rfl,hk,q⟩:=h;refine⟨_,(Qa (Ks 2 (Kn (aC T) (Kq (pu 0) (pu 1)))) (Qa (Qn (Ku (QR K) (Qg Qp (pu 2) Qe) Qe) (Qc (Qf (Qg Xh Qe Qe))) Qh) (Qc (Qf (Qg Qp (Qg QB (pu 2) Qe) (LD K (Qq (Lu Qe Qe (Qg Qu (Qg Xh Qe Qe) Qe))) (Qg Qp (Kn (aC T) (Kq (pu 0) (Qg Qu (pu 1) Qe))) Qe))))))),?_⟩;left;refine⟨c,k,rfl,rfl,by omega,λm1 H1 g1 a8 a6=>?_⟩;left;refine⟨trivial,Qo (λ_=>?_) (λ_=>?_)⟩
 ·refine⟨by unfold Kz;decide,q _ _ g1 ⟨by decide,by decide⟩⟩
 ·refine⟨⟨by decide,(Ll (m:=60) (by decide) (by decide)).mono (by decide)⟩,by unfold Kz;decide,by decide,λp1 a5=>⟨c,k+1,rfl,rfl,by omega,λm2 H2 g2 aa a7=>?_⟩⟩;have k1:=g2 _ _ (Qb (H:=H1) (a:=p1) (o:=.lst [.int 4,.int 60,.int (10 ^ Int.toNat 9+1)]));have a0:=(g1.trans (Qd a5 _)).trans g2;left;obtain⟨v1,a4,U⟩:=Bp (a:=.int 4) (b:=.int 60) (c:=.int (10 ^ Int.toNat 9+1)) m2;obtain⟨w1,rfl,J,a9⟩:∃w:Int,v1=.int w/\0<w/\w<=1000000001:=by
   rcases U with rfl|rfl|rfl
   ·exact⟨_,rfl,by decide,by decide⟩
   ·exact⟨_,rfl,by decide,by decide⟩
   ·exact⟨_,rfl,by decide,by decide⟩
  refine⟨trivial,QO (G5 k1) a4 ?_⟩;left;have d0:=AY (m1.fdiv 6) (show(w1:Int)≠0 by omega);have d1:=A6 (m1.fdiv 6) J;exact⟨J,q _ _ a0 ⟨d0,by omega⟩⟩
inductive Vb (K:W.Frag)(x y:V)(H)(Q:VK):Prop
 | mk (c m:Int) (h1:x=.int c) (h2:y=.int m) (h3:1<=m/\m<=8) (h4:∀a (ns:List Str) H',Same H H'->H a=none->H' a=some (.lst (ns.map V.str))->ns.Nodup->(∀z∈ns,Xv z)->1<=ns.length->ns.length<=8->Q (.ref a) H'):Vb K x y H Q
def words8:List Str:=[q_ "kind",q_ "cap",q_ "off",q_ "counts",q_ "base",q_ "round",q_ "until",q_ "pay"]
theorem words8_nd:words8.Nodup:=by decide +kernel
theorem Mq:∀z∈words8,Xv z:=by
 have:∀z∈words8,VF (.str z)=true:=by decide +kernel
 exact this
def sA (c m:Int)(l:Addr)(H:Hp)(i:Nat)(σ':L2.St)(H':Hp):Prop:=∃(x3 x4:Option V) (ns:List Str),σ'=[some (.int c),some (.int m),some (.ref l),x3,x4]/\Same H H'/\H l=none/\H' l=some (.lst (ns.map V.str))/\ns.Nodup/\(∀z∈ns,Xv z)/\ns.length<=i/\(1<=i->1<=ns.length)
theorem i8 (T:Tx w K mg):LB P w K mg base 2 "_law_pool" ["_law_cell_here","_law_most"] (Sp2M (Vb K)):=by
 refine QI T 101 ["_law_cell_here","_law_most","_law_pool_here","_law_k","_law_title"] Zd λH Q dn hr h=>?_
 obtain⟨_,_,rfl,c,m,rfl,rfl,U,q⟩:=h;refine⟨_,(Qa (Ks 2 (Qq QE)) (Qa (Qn (Ku (QR K) (Qg Qp (Qg QB (pu 0) Qe) Qe) Qe) (Qc (Qf (Zy (lY K rfl) (Qq (QJ Qi (QJ Qi (QJ Qi (oR Qi Qi Qi Qi Qi))))) Xy (ZA (pu 1))))) Qh) (Qa (Lx (XJ rfl T.aY (Km (pu 1))) (Ky 3) (Qa (Ks 4 (Kn (d6 T) (Km (Kn (aC T) (Kq (Qg Qu (Qg QB (pu 0) Qe) (Qg Qr (pu 3) (pu 3))) (pu 3)))))) (Qc (Qn (ZY (XB K rfl) (pu 4) (pu 2) (by with_unfolding_all rfl)) (Qc (Qw (QA K rfl AL A0 A1 Qv (pu 2) (Km (pu 4))))) Qh)))) (Qc (Qf (pu 2)))))),?_⟩;left;refine⟨by decide,λl hl=>?_⟩;have g1:=Qd hl (.lst []);have a4:=Qb (H:=H) (a:=l) (o:=.lst []);generalize upd H l (.lst [])=H1 at *;left;obtain⟨k,rfl⟩:=Iv (show 0<=m by omega);have cd:∀j:Int,0<j->j<1000000->CDivB j:=λj h1 h2=>⟨by omega,(Ll (m:=60) (by omega) (by omega)).mono (by decide)⟩
 refine⟨cd _ (by decide) (by decide),trivial,Qo (λ_=>?_) (λ_=>?_)⟩
 ·refine⟨by decide,λp hp=>YF (G5 Qb) λp2 a0=>?_⟩;refine q p2 (words8.take k) _ (g1.trans ((Qd hp _).trans (Qd a0 _))) ((g1.trans (Qd hp _)).free a0) ?_ (words8_nd.sublist (List.take_sublist _ _)) (λz hz=>Mq z (List.mem_of_mem_take hz)) ?_ ?_
  ·rw[Qb,GX,List.map_take];rfl
  ·rw[Ig];show 1<=min k 8;omega
  ·rw[Ig];exact Nat.min_le_right _ _
 ·refine⟨by omega,by omega,B4 (sA c k l H) ⟨none,none,[],rfl,g1,hl,a4,qT,(λz hz=>by cases hz),Au _,λh=>by omega⟩ ?_ ?_⟩
  ·rintro i _ H2 hi ⟨x3,x4,ns,rfl,g,_,hl2,nd,ok,len,pos⟩;have a5:i<8:=by omega
   have sq:(0:Int)<=(0+(i:Int))*(0+(i:Int))/\(0+(i:Int))*(0+(i:Int))<=100:=by
    rcases(show i=0∨i=1∨i=2∨i=3∨i=4∨i=5∨i=6∨i=7 by omega) with rfl|rfl|rfl|rfl|rfl|rfl|rfl|rfl<;>decide
   left;refine⟨cd _ (by decide) (by decide),⟨Ll (by omega) (by omega),Ll (by omega) (by omega)⟩,?_⟩;left;refine⟨_,_,rfl,rfl,by omega,λn H3 g3 n0 n1=>⟨n,rfl,⟨n0,n1⟩,λz hz=>?_⟩⟩;have J:=g3 _ _ hl2;have gg:=g.trans g3;left;refine Z0 (G5 J) ?_;left;refine Qo (λU=>?_) (λU=>?_)
   ·refine ⟨.inl ⟨rfl,_,G5 J⟩,l,_,_,rfl,rfl,J,by rw [As,AB];omega,?_⟩;refine ⟨_,_,ns++[z],rfl,fun b o h=>by rw [Qk (Qj h hl)];exact gg _ _ h,hl,by rw [Qb,Az];rfl,Iq.mpr ⟨nd,by simp,fun a ha b hb e=>U (by rw [AA.mp hb] at e;rw [<-e];exact ha)⟩,fun y hy=>?_,by rw [Aq,Av];omega,fun _=>by rw [Aq,Av];omega⟩;rcases AK.mp hy with hy | hy
    ·exact ok y hy
    ·rw[AA.mp hy];exact hz
   ·have U:z∈ns:=Classical.not_not.mp U;exact⟨_,_,ns,rfl,gg,hl,J,nd,ok,by omega,λ_=>List.length_pos_of_mem U⟩
  ·rintro _ H2 ⟨x3,x4,ns,rfl,g,_,hl2,nd,ok,len,pos⟩;left;exact q l ns _ g hl hl2 nd ok (pos (by omega)) (by omega)
inductive LIt (K)(H):Itm->V->Prop
 | base (a:Int) (x:Addr) (h:Kt K H x [.str (q_ "base"),.int a]):LIt K H (.base a) (.ref x)
 | each (a l h':Int) (x:Addr) (h:Kt K H x [.str (q_ "each"),.int a,.int l,.int h']):LIt K H (.each a l h') (.ref x)
 | rent (r s m:Int) (x p:Addr) (h:Kt K H x [.str (q_ "rent"),.ref p,.int m]) (hp:Kt K H p [.int r,.int s]):LIt K H (.rent r s m) (.ref x)
 | from' (n l h':Int) (x:Addr) (h:Kt K H x [.str (q_ "from"),.int n,.int l,.int h']):LIt K H (.term false n l h') (.ref x)
 | upto (n l h':Int) (x:Addr) (h:Kt K H x [.str (q_ "upto"),.int n,.int l,.int h']):LIt K H (.term true n l h') (.ref x)
 | pay (r s l h':Int) (x p:Addr) (h:Kt K H x [.ref p,.int l,.int h']) (hp:Kt K H p [.int r,.int s]):LIt K H (.pay r s l h') (.ref x)
 | cnt (z:Str) (r s:Int) (x p:Addr) (h:Kt K H x [.str z,.ref p]) (hp:Kt K H p [.int r,.int s]):LIt K H (.cnt z r s) (.ref x)
 | off (l r s:Int) (x p:Addr) (h:Kt K H x [.int l,.ref p]) (hp:Kt K H p [.int r,.int s]):LIt K H (.off l r s) (.ref x)
 | unt (a:Int):LIt K H (.unt a) (.int a)
 | rnd (u:Int) (z:Str) (x:Addr) (h:Kt K H x [.int u,.str z]):LIt K H (.rnd u z) (.ref x)
theorem LIt.kp (g:Kp N H H'){x}{v}(h:LIt K H x v):LIt K H' x v:=by
 cases h with
 | base a x h=>exact .base a x (g.sqT h)
 | each a l h' x h=>exact .each a l h' x (g.sqT h)
 | rent r s m x p h hp=>exact .rent r s m x p (g.sqT h) (g.sqT hp)
 | from' n l h' x h=>exact .from' n l h' x (g.sqT h)
 | upto n l h' x h=>exact .upto n l h' x (g.sqT h)
 | pay r s l h' x p h hp=>exact .pay r s l h' x p (g.sqT h) (g.sqT hp)
 | cnt z r s x p h hp=>exact .cnt z r s x p (g.sqT h) (g.sqT hp)
 | off l r s x p h hp=>exact .off l r s x p (g.sqT h) (g.sqT hp)
 | unt a=>exact .unt a
 | rnd u z x h=>exact .rnd u z x (g.sqT h)
theorem Wi (g:Kp N H H'){xs}{vs}(h:All2 (LIt K H) xs vs):All2 (LIt K H') xs vs:=⟨h.1,λi a b ha hb=>(h.2 i a b ha hb).kp g⟩
inductive Vc (K)(x:V)(H)(Q:VK):Prop
 | mk (c:Int) (h1:x=.int c) (h2:∀x' v H',Same H H'->x'.Ok->x'.sl=0->LIt K H' x' v->Q v H'):Vc K x H Q
theorem i9 (T:Tx w K mg):LB P w K mg base 4 "_law_part" ["_law_cell_here"] (Sp1M (Vc K)):=by
 refine QI T 102 ["_law_cell_here","_law_amount_here","_law_low","_law_high","_law_way"] Zq λH Q dn hr h=>?_
 obtain⟨_,rfl,c,rfl,q⟩:=h;refine⟨_,(Qa (Ks 1 (Kn (bA T) (Kq (pu 0) Qe))) (Qa (YQ (Kn (cH T) (Km (pu 0))) (ON (n:=2) K rfl rfl (Qm (Ky 2) (Qm (Ky 3) QV)))) (Qa (Ks 4 (Qg Qp (Qg QB (Kn (aC T) (Kq (pu 0) Qe)) Qe) Qe)) (Qa (Qn (Ku (QR K) (pu 4) Qe) (Qc (Qf (Qz (Kq Qi (pu 1))))) Qh) (Qa (Qn (Ku (QR K) (pu 4) Qe) (Qc (Qf (Qz (lU Qi (pu 1) (pu 2) (pu 3))))) Qh) (Qc (Qf (Qz (Lu Qi (Kn (b9 T) (Kq (pu 0) Qe)) (pu 1)))))))))),?_⟩;left;refine⟨c,3,rfl,rfl,by omega,λn H1 g1 hn=>?_⟩;left;refine⟨c,rfl,λp l h' H2 g2 ha hp=>?_⟩;have hT:=G6 (K:=K) hp;left;refine⟨c,0,rfl,rfl,by omega,λm H3 g3 m0 m1=>?_⟩;have U:=(g1.trans g2).trans g3;left;refine⟨⟨by decide,(Ll (m:=60) (by decide) (by decide)).mono (by decide)⟩,trivial,Qo (λ_=>?_) (λ_=>Qo (λ_=>?_) (λ_=>?_))⟩
 ·exact⟨by decide,λp4 J=>q (.base n) _ _ (U.trans (Qd J _)) hn rfl (.base n p4 (G6 Qb))⟩
 ·exact⟨by decide,λp4 J=>q (.each n l h') _ _ (U.trans (Qd J _)) ⟨hn,ha⟩ rfl (.each n l h' p4 (G6 Qb))⟩
 ·refine⟨c,0,rfl,rfl,by omega,λp5 r s' H4 g4 a0 a4=>?_⟩;left;exact⟨by decide,λp4 J=>q (.rent r s' n) _ _ ((U.trans g4).trans (Qd J _)) ⟨a0,hn⟩ rfl (.rent r s' n p4 p5 (G6 Qb) ((Qd J _).sqT (G6 a4)))⟩
inductive V0 (K)(x:V)(H)(Q:VK):Prop
 | mk (c:Int) (h1:x=.int c) (h2:∀x' v H',Same H H'->x'.Ok->x'.sl=1->LIt K H' x' v->Q v H'):V0 K x H Q
theorem iA (T:Tx w K mg):LB P w K mg base 3 "_law_term" ["_law_cell_here"] (Sp1M (V0 K)):=by
 refine QI T 103 ["_law_cell_here","_law_low","_law_high","_law_many"] Zq λH Q dn hr h=>?_
 obtain⟨_,rfl,c,rfl,q⟩:=h;refine⟨_,(Qa (YQ (Kn (cH T) (Km (pu 0))) (ON (n:=2) K rfl rfl (Qm (Ky 1) (Qm (Ky 2) QV)))) (Qa (Ks 3 (Qg Qp (Qg QB (Kn (aC T) (Kq (pu 0) Qe)) Qe) Qe)) (Qa (Qn (Ku (QR K) (Qg Qp (Kn (aC T) (Kq (pu 0) Qe)) Qe) Qe) (Qc (Ks 3 Qe)) Qh) (Qc (Qf (Qz (lU (LD K (Qq (Kq Qi Qi)) (Qg Qp (Kn (aC T) (Kq (pu 0) Qe)) Qe)) (pu 3) (pu 1) (pu 2)))))))),?_⟩;left;refine⟨c,rfl,λp l h' H2 g2 ha hp=>?_⟩;have hT:=G6 (K:=K) hp;left;refine⟨c,3,rfl,rfl,by omega,λm H3 g3 m0 m1=>?_⟩;have U:=g2.trans g3;have fin:∀(n:Int) (J:Hp),Same H J->0<=n/\n<=60->2<=sizeLine/\∀p,J p=none->OI (.int c) (.int 0) (upd J p (.lst [.str "from",.str "upto"])) λx H1=>sI (λx j=>0<j) (λi j=>V.int (i % j)) x (.int 2) H1 λy H2=>lF K (.ref p) y H2 λx H1=>4<=sizeLine/\∀p,H1 p=none->Q (.ref p) (upd H1 p (.tup [x,.int n,.int l,.int h'])):=λn J g4 hn=>by
  refine⟨by decide,λp1 a6=>⟨c,0,rfl,rfl,by omega,λm2 H5 g5 _ _=>?_⟩⟩;have k1:=g5 _ _ (Qb (H:=J) (a:=p1) (o:=.lst [.str "from",.str "upto"]));have g6:=(g4.trans (Qd a6 _)).trans g5;left;obtain⟨v1,a5,a4⟩:=Up (a:=.str "from") (b:=.str "upto") m2;refine⟨trivial,QO (G5 k1) a5 ⟨by decide,λp2 a0=>?_⟩⟩;rcases a4 with rfl|rfl
  ·exact q (.term false n l h') _ _ (g6.trans (Qd a0 _)) ⟨hn,ha⟩ rfl (.from' n l h' p2 (G6 Qb))
  ·exact q (.term true n l h') _ _ (g6.trans (Qd a0 _)) ⟨hn,ha⟩ rfl (.upto n l h' p2 (G6 Qb))
 left;have d0:=AY (m.fdiv 2) (show(61:Int)≠0 by decide);have d1:=A6 (m.fdiv 2) (show(0:Int)<61 by decide);refine⟨⟨by decide,(Ll (m:=60) (by decide) (by decide)).mono (by decide)⟩,trivial,c,2,rfl,rfl,by omega,λm2 J g4 _ _=>?_⟩;left;refine⟨trivial,Qo (λ_=>fin 60 _ (U.trans g4) ⟨by decide,by decide⟩) (λ_=>fin _ _ (U.trans g4) ⟨d0,by omega⟩)⟩
def Wv (K:W.Frag)(H:Hp)(z:Str)(v:V):Prop:=(v=.str z∨(∃n,v=.int n/\ZR n/\z=nt n)∨∃p r s,v=.ref p/\Kt K H p [.int r,.int s]/\Zn r s/\z=Q6 r s)/\z.length<=1000
inductive O1 (K)(x:V)(H)(Q:VK):Prop
 | mk (a:Addr) (vs:List V) (zs:List Str) (h1:x=.ref a) (h2:Kt K H a vs) (h3:All2 (Wv K H) zs vs) (h4:zs.length<=20) (h5:∀H',Same H H'->Q (.str (Txt.join blank zs)) H'):O1 K x H Q
def qq (a l:Addr)(zs:List Str)(H:Hp)(i:Nat)(σ':L2.St)(H':Hp):Prop:=∃x2,σ'=[some (.ref a),some (.ref l),x2]/\Same H H'/\H l=none/\H' l=some (.lst ((zs.take i).map V.str))
theorem aV (T:Tx w K mg):LB P w K mg base 2 "_law_words" ["_law_row"] (Sp1M (O1 K)):=by
 refine QI T 104 ["_law_row","_law_words_here","_law_one"] Zq λH Q dn hr h=>?_
 obtain⟨_,rfl,a,vs,zs,rfl,hT,U,hn,q⟩:=h;refine⟨_,(Qa (Ks 1 (Qq QE)) (Qa (Lx (C7 K rfl (pu 0)) (Ky 2) (Qc (Qn (QN (QC (UI K rfl) (by rfl) T.aP boot_isinstance (Kq (pu 2) (WU T.bD boot_tuple)))) (Qc (Qw (QA K rfl AL A0 A1 Qv (pu 1) (Km (Kn (i7 T) (Km (pu 2))))))) (Qc (Qw (QA K rfl AL A0 A1 Qv (pu 1) (Km (QD Zm (by rfl) T.aI boot_str (Km (pu 2)))))))))) (Qc (Qf (QA K rfl Gc Gi Ja (Vx K rfl) Qi (Km (pu 1))))))),?_⟩;left;refine⟨by decide,λl J=>?_⟩;have g1:=Qd J (.lst []);have a4:=Qb (H:=H) (a:=l) (o:=.lst []);generalize upd H l (.lst [])=H1 at *;left;have a5:=U.1;refine⟨a,rfl,⟨_,g1.sqT hT⟩,To (xs:=vs) (qq a l zs H) ⟨none,rfl,g1,J,a4⟩ (λi σ' H' _ h=>by obtain⟨_,_,g',_⟩:=h;exact g'.sqT hT) ?_ ?_⟩
 ·rintro i v _ H2 hv ⟨x2,rfl,g,_,hl2⟩;obtain⟨z,hz,hw,a6⟩:=U.getV hv;have hi:i<vs.length:=Qt hv;have st:(zs.take (i+1)).map V.str=(zs.take i).map V.str++[V.str z]:=by rw[AX,hz,Az];rfl
  have ln:((zs.take i).map V.str).length<sizeLine:=by rw[As,Ig,AB];omega
  have fin:∀x:V,qq a l zs H (i+1) [some (.ref a),some (.ref l),some x] (upd H2 l (.lst ((zs.take i).map V.str++[.str z]))):=λx=>⟨_,rfl,λb o h=>by rw[Qk (Qj h J)];exact g _ _ h,J,by rw[Qb,st]⟩
  rcases hw with rfl|⟨n,rfl,hn',rfl⟩|⟨p,r,s',rfl,hp,ok,rfl⟩
  ·left;refine Jr (.str z) (by rfl) ?_;left;exact⟨.inl ⟨rfl,_,G5 hl2⟩,.inr ⟨z,rfl,l,_,_,rfl,rfl,hl2,ln,fin _⟩⟩
  ·left;exact⟨.inl ⟨rfl,_,G5 hl2⟩,.inl ⟨n,rfl,Yk hn'.1 (by have:=hn'.2;omega),l,_,_,rfl,rfl,hl2,ln,fin _⟩⟩
  ·have a0:=g.sqT hp;left;exact⟨.inl ⟨rfl,_,G5 hl2⟩,p,r,s',rfl,a0,ok,l,_,_,rfl,rfl,hl2,ln,fin _⟩
 ·rintro _ H2 ⟨x2,rfl,g,_,hl2⟩;rw[AJ (by omega)] at hl2;left;rw[QS];refine⟨by trivial,blank,l,zs,rfl,rfl,G5 hl2,?_,q _ g⟩;have:∀l:List Str,(∀z∈l,z.length<=1000)->(l.map (·.length)).sum<=l.length*1000:=by
   intro l
   induction l with
   | nil=>simp
   | cons x l ih=>
    intro h;have h1:=h x AH;have h2:=ih λy hy=>h y (AE _ hy)
    simp only[A3,List.sum_cons,AN];omega
  have h1:=this zs λz hz=>by
   obtain⟨k,hk⟩:=I8 hz;obtain⟨v,_,hw⟩:=U.get hk;exact hw.2
  have h2:blank.length=1:=rfl;rw[h2];omega
inductive mY (K)(x y:V)(H)(Q:VK):Prop
 | mk (a:Addr) (c:Int) (xs:List Itm) (vs:List V) (h1:x=.ref a) (h2:y=.int c) (h3:Kv K H a vs) (h4:All2 (LIt K H) xs vs) (h5:∀x∈xs,x.sl=4/\x.Ok) (h6:∀n H',Same H H'->0<=n->Q (.int n) H'):mY K x y H Q
theorem NP {l s:Int}(h:LIt K H (.off l r s) v):∃x p,v=.ref x/\Kt K H x [.int l,.ref p]/\Kt K H p [.int r,.int s]:=by
 cases h with|off _ _ _ x p h hp=>exact⟨x,p,rfl,h,hp⟩
theorem NQ {s:Int}(h:LIt K H (.cnt z r s) v):∃x p,v=.ref x/\Kt K H x [.str z,.ref p]/\Kt K H p [.int r,.int s]:=by
 cases h with|cnt _ _ _ x p h hp=>exact⟨x,p,rfl,h,hp⟩
theorem Xe {r}(h1:Kv K H p vs)(h2:Kv K H r [])(q:Q (.bl vs.isEmpty) H):DM K (.ref p) (.ref r) H Q:=by
 cases vs with
 | nil=>
  have U:Rep K H (.lst []) (.ref p):=.lst h1 rfl λi d x e _=>by simp at e
  have r2:Rep K H (.lst []) (.ref r):=.lst h2 rfl λi d x e _=>by simp at e
  have J:DB 30 (.lst []):=.lst λd hd=>by cases hd
  exact .inl (T4 U r2 J ⟨λ_=>rfl,λ_=>rfl⟩ q)
 | cons v r'=>exact .inr ⟨p,r,_,_,rfl,rfl,h1,h2,by simp,q⟩
theorem iB (T:Tx w K mg):LB P w K mg base 2 "_law_limit" ["_law_offs","_law_cell_here"] (Sp2M (mY K)):=by
 refine QI T 105 ["_law_offs","_law_cell_here","_law_step"] Zd λH Q dn hr h=>?_
 obtain⟨_,_,rfl,a,c,xs,vs,rfl,rfl,hL,hA,hx,q⟩:=h;refine⟨_,(Qa (Ks 2 (Qg Qu Qe (Qg Qp (Kn (aC T) (Kq (pu 1) Qe)) (LD K (Qq (Lu Qe (Qg Xh Qe Qe) (Qg Xh Qe Qe))) (Qg Qp (Kn (aC T) (Kq (pu 1) Qe)) Qe))))) (Qa (Qn (Ku (QR K) (Qg Qp (Qg QB (Kn (aC T) (Kq (pu 1) Qe)) Qe) Qe) Qe) (Qc (Qf (Qg Xh Qe Qe))) Qh) (Qa (Qn (Ku (WT K) (pu 0) (Qq QE)) (Qc (Qf (Qg ZK (pu 2) Qe))) Qh) (Qc (Qf (Qg Qu (LD K (LD K (pu 0) OC) Qe) (pu 2))))))),?_⟩;left;refine⟨c,1,rfl,rfl,by omega,λm1 H1 g1 a1 b1=>?_⟩;left;refine⟨by unfold Kz;decide,by unfold Kz;decide,by decide,λp1 aa=>⟨c,2,rfl,rfl,by omega,λm2 H2 g2 a2 b2=>?_⟩⟩;have k1:=g2 _ _ (Qb (H:=H1) (a:=p1) (o:=.lst [.int 3,.int (10 ^ Int.toNat 4),.int (10 ^ Int.toNat 8)]));have a7:=(g1.trans (Qd aa _)).trans g2;left;obtain⟨v1,a9,a0⟩:=Bp (a:=.int 3) (b:=.int (10 ^ Int.toNat 4)) (c:=.int (10 ^ Int.toNat 8)) m2;obtain⟨w1,rfl,a5⟩:∃w:Int,v1=.int w/\0<w:=by
  rcases a0 with rfl|rfl|rfl
  ·exact⟨_,rfl,by decide⟩
  ·exact⟨_,rfl,by decide⟩
  ·exact⟨_,rfl,by decide⟩
 refine⟨trivial,QO (G5 k1) a9 ?_⟩;left;have d0:=AY m1 (show(w1:Int)≠0 by omega);refine⟨a5,c,2,rfl,rfl,by omega,λm3 H3 g3 a3 b3=>?_⟩;generalize m1 % w1=st at *;have U:=a7.trans g3;left;refine⟨⟨by decide,(Ll (m:=60) (by decide) (by decide)).mono (by decide)⟩,trivial,Qo (λ_=>⟨by unfold Kz;decide,q _ _ U (by decide)⟩) (λ_=>⟨by decide,λp2 a8=>?_⟩)⟩;have J:=U.trans (Qd a8 (.lst []));refine Xe (J.seq hL) (G5 Qb) ?_;left;rcases List.eq_nil_or_concat vs with rfl|⟨w0,v,rfl⟩
 ·refine Qo (λ_=>?_) (λe=>absurd rfl e);exact q _ _ J (by omega)
 ·rw[List.concat_eq_append] at *;refine Qo (λe=>absurd e (by simp)) (λ_=>?_);obtain⟨y,hy,hP⟩:=hA.getV (i:=w0.length) (v:=v) (by rw[Ib (Au _),Ih];rfl);obtain⟨a4,a6⟩:=hx y (AG hy);obtain⟨l2,r2,s2,rfl⟩:=Gu a4;obtain⟨p,p3,rfl,hT,_⟩:=NP hP;refine QO (J.seq hL) (Q4 _ _) (Zg (J.sqT hT) rfl ?_);left;have:=a6.1.1;exact q _ _ J (by omega)
theorem Me (K){X}(h:X.K=K):OpR X (binaryOp .Add) (Bj K):=by subst h;exact P0
structure KL (K:W.Frag)(H:Hp)(p:Addr)(z:Str)(xs:List Itm)(q:Nat->Addr):Prop where
 hp:H p=some (.tup [.str z,.ref (q 0),.ref (q 1),.ref (q 2),.ref (q 3),.ref (q 4),.ref (q 5),.ref (q 6)])
 hq:∀j<7,∃vs,H (q j)=some (.lst vs)/\All2 (LIt K H) (xs.filter λx=>decide (x.sl=j)) vs
theorem KL.mono {xs}{q}(g:Same H H')(h:KL K H p z xs q):KL K H' p z xs q:=by
 refine⟨g _ _ h.hp,λj J=>?_⟩;obtain⟨vs,h1,h2⟩:=h.hq j J;exact⟨vs,g _ _ h1,Wi (N:=λ_=>True) (.of g) h2⟩
theorem KL.upd {xs}{q}{c}{ws}(h:KL K H p z xs q)(hc:H c=some (.lst ws))(hn:∀j<7,q j≠c):KL K (L2.upd H c o) p z xs q:=by
 have g:=Q3 (N:=λb=>b≠c) (o:=o) hc λb h=>h
 refine⟨g _ _ h.hp (.inr λvs e=>nomatch e),λj J=>?_⟩;obtain⟨vs,h1,h2⟩:=h.hq j J;exact⟨vs,g _ _ h1 (.inl (hn j J)),Wi g h2⟩
theorem KL.add {xs}{q}{x}(h:KL K H p z xs q)(hc:H (q x.sl)=some (.lst vs))(hinj:∀i<7,∀j<7,q i=q j->i=j)(hv:LIt K H x v):KL K (L2.upd H (q x.sl) (.lst (vs++[v]))) p z (xs++[x]) q:=by
 have g:=Q3 (N:=λb=>b≠q x.sl) (o:=.lst (vs++[v])) hc λb h=>h
 refine⟨g _ _ h.hp (.inr λvs e=>nomatch e),λj hj=>?_⟩;obtain⟨us,h1,h2⟩:=h.hq j hj;rw[IZ];by_cases e:x.sl=j
 ·subst e;rw[hc] at h1;cases h1;refine⟨_,Qb,?_⟩;rw[show[x].filter (λy=>decide (y.sl=x.sl))=[x] by simp];have h3:=Wi g h2;have hl:=h3.1;refine⟨by rw[Aq,Aq,hl];rfl,λi a b U J=>?_⟩;by_cases hi:i<vs.length
  ·rw[A7 (by omega)] at U;rw[A7 hi] at J;exact h3.2 i a b U J
  ·have a0:i<(vs++[v]).length:=(AU.mp J).1;rw[Aq,Av] at a0;have:i=vs.length:=by omega
   subst this;rw[Ib (by omega),hl,Ih] at U;rw[Ib (Au _),Ih] at J;cases U;cases J;exact hv.kp g
 ·refine⟨us,g _ _ h1 (.inl λe2=>e (hinj _ (Xn x) _ hj e2.symm)),?_⟩;rw[show[x].filter (λy=>decide (y.sl=j))=[] by simp[e],Ie];exact Wi g h2
theorem qa (a b):Txt.join blank [a,b]=a++blank++b:=StrLaws.glued_eq_join blank [a,b]
theorem rK (a b c):Txt.join blank [a,b,c]=a++blank++(b++blank++c):=StrLaws.glued_eq_join blank [a,b,c]
theorem Vf (h:z.length<=1000):Wv K H z (.str z):=⟨.inl rfl,h⟩
theorem Y1 {n:Int}(h:ZR n):Wv K H (nt n) (.int n):=⟨.inr (.inl ⟨n,rfl,h,rfl⟩),(Q8 h).2.1⟩
theorem LN {s:Int}(h:Zn r s)(hp:Kt K H p [.int r,.int s]):Wv K H (Q6 r s) (.ref p):=⟨.inr (.inr ⟨p,r,s,rfl,hp,h,rfl⟩),(Z4 h).2.1⟩
theorem Q5 {R:α->V->Prop}:All2 R [] []:=⟨rfl,λi a b h=>by simp at h⟩
theorem Ql {R:α->V->Prop}{a:α}{l:List α}(h:R a v)(t:All2 R l vs):All2 R (a::l) (v::vs):=⟨by rw[AN,AN,t.1],λi=>by
 cases i with
 | zero=>intro x y J U;cases J;cases U;exact h
 | succ j=>intro x y J U;exact t.2 j x y (by simpa using J) (by simpa using U)⟩
theorem XA {l h:Int}(a:Ve l h):ZR l/\ZR h:=⟨⟨a.1,by have:=a.2;omega⟩,⟨by have:=a;unfold Ve at this;omega,by have:=a.2;omega⟩⟩
theorem FL {x}(h:LIt K H x v)(ok:x.Ok)(hs:x.sl=0∨x.sl=1):∃a us,v=.ref a/\Kt K H a us/\All2 (Wv K H) (x.srt::x.ws) us:=by
 cases h with
 | base n a h=>exact⟨a,_,rfl,h,Ql (Vf (Ze _ (Xw (.itm _))).2.1) (Ql (Y1 ok) Q5)⟩
 | each n l h' a h=>exact⟨a,_,rfl,h,Ql (Vf (Ze _ (Xw (.itm _))).2.1) (Ql (Y1 ok.1) (Ql (Y1 (XA ok.2).1) (Ql (Y1 (XA ok.2).2) Q5)))⟩
 | rent r s m a p h hp=>exact⟨a,_,rfl,h,Ql (Vf (Ze _ (Xw (.itm _))).2.1) (Ql (LN ok.1 hp) (Ql (Y1 ok.2) Q5))⟩
 | from' n l h' a h=>exact⟨a,_,rfl,h,Ql (Vf (Ze _ (Xw (.itm _))).2.1) (Ql (Y1 ⟨ok.1.1,by have:=ok.1.2;omega⟩) (Ql (Y1 (XA ok.2).1) (Ql (Y1 (XA ok.2).2) Q5)))⟩
 | upto n l h' a h=>exact⟨a,_,rfl,h,Ql (Vf (Ze _ (Xw (.itm _))).2.1) (Ql (Y1 ⟨ok.1.1,by have:=ok.1.2;omega⟩) (Ql (Y1 (XA ok.2).1) (Ql (Y1 (XA ok.2).2) Q5)))⟩
 | _=>simp[Itm.sl] at hs
inductive mU (K)(x y z:V)(H)(Q:VK):Prop
 | mk (p pl:Addr) (c:Int) (tl:Str) (xs:List Itm) (q:Nat->Addr) (ns:List Str) (h1:x=.ref p) (h2:y=.ref pl) (h3:z=.int c) (h4:KL K H p tl xs q) (h5:∀i<7,∀j<7,q i=q j->i=j) (h6:Kv K H pl (ns.map V.str)) (h6':∀j<7,q j≠pl) (h7:∀z∈ns,Xv z) (h8:1<=ns.length/\ns.length<=8) (h9:∀y∈xs,y.Ok) (h10:xs.length<=200)
   (q0:∀H',Same H H'->Q (.str (q_ "")) H')
   (q1:∀x v vs H1 H',Same H H1->x.Ok->X2 xs x->(∀z r s,x=.cnt z r s->z∈ns)->H1 (q x.sl)=some (.lst vs)->LIt K H1 x v->Same (upd H1 (q x.sl) (.lst (vs++[v]))) H'->Q (.str (Row.itm x).tx) H'):mU K x y z H Q
theorem FK {x}(h:LIt K H x v)(ok:x.Ok)(hs:x.sl=2∨x.sl=3∨x.sl=4):∃a us,v=.ref a/\Kt K H a us/\us≠[]/\All2 (Wv K H) x.ws us:=by
 cases h with
 | pay r s l h' a p h hp=>exact⟨a,_,rfl,h,by simp,Ql (LN ok.1 hp) (Ql (Y1 (XA ok.2).1) (Ql (Y1 (XA ok.2).2) Q5))⟩
 | cnt z r s a p h hp=>exact⟨a,_,rfl,h,by simp,Ql (Vf (ZE ok.1).2.1) (Ql (LN ok.2 hp) Q5)⟩
 | off l r s a p h hp=>exact⟨a,_,rfl,h,by simp,Ql (Y1 ok.1) (Ql (LN ok.2 hp) Q5)⟩
 | _=>simp[Itm.sl] at hs
theorem Wv.kp (g:Kp N H H'){z}{v}(h:Wv K H z v):Wv K H' z v:=by
 obtain⟨h|h|⟨p,r,s,e,hp,ok,e2⟩,l⟩:=h
 ·exact⟨.inl h,l⟩
 ·exact⟨.inr (.inl h),l⟩
 ·exact⟨.inr (.inr ⟨p,r,s,e,g.sqT hp,ok,e2⟩),l⟩
theorem LM (g:Kp N H H'){zs}{vs}(h:All2 (Wv K H) zs vs):All2 (Wv K H') zs vs:=⟨h.1,λi a b ha hb=>(h.2 i a b ha hb).kp g⟩
theorem Yn {xs}{x}(h3:x.sl≠3)(h4:x.sl≠4)(h:((xs.filter λy=>decide (y.sl=x.sl)).length:Int)<mo x.sl):X2 xs x:=by
 cases x with
 | cnt=>exact absurd rfl h3
 | off=>exact absurd rfl h4
 | _=>exact h
theorem Pd (a b c:Str):a++b++c=a++(b++c):=Vl (by rw[Wq,Wq,Wq,Wq,List.append_assoc])
theorem Hs (a:Int):(Row.itm (.unt a)).tx=Str.ofString "until "++nt a:=by
 show Txt.join blank [q_ "until",nt a]=_;rw[qa,show Str.ofString "until "=q_ "until"++blank by decide +kernel]
theorem Ht (u:Int)(z):(Row.itm (.rnd u z)).tx=Str.ofString "round "++nt u++Str.ofString " "++z:=by
 show Txt.join blank [q_ "round",nt u,z]=_;rw[rK,show Str.ofString "round "=q_ "round"++blank by decide +kernel,QS];simp only[Pd]
def sC (fl:List Itm)(n:Int)(H:Hp)(i:Nat)(acc:List V)(σ':L2.St)(H':Hp):Prop:=∃x0,σ'=[x0,some (.int n)]/\Same H H'/\(acc=[]->∀y∈fl.take i,∀l r s,y=.off l r s->l<n)
def rG (fl:List Itm)(H:Hp)(i:Nat)(acc:List V)(σ':L2.St)(H':Hp):Prop:=∃x0,σ'=[x0]/\Same H H'/\acc=((fl.take i).map nW).map V.str
theorem iC (T:Tx w K mg):LB P w K mg base 5 "_law_put" ["_law_last","_law_pool_here","_law_cell_here"] (Sp3M (mU K)):=by
 refine QI T 106 ["_law_last","_law_pool_here","_law_cell_here","_law_way","_law_low","_law_high","_law_title","_law_limit_here","_law_unit"] Wp λH Q dn hr h=>?_
 obtain⟨_,_,_,rfl,p,pl,c,tl,xs,q',ns,rfl,rfl,rfl,U,c1,hP,c4,bw,cb,b6,bg,q0,q1⟩:=h;refine⟨_,(Qa (Ks 3 (Qg Qp (pu 2) Qe)) (Qa (Qn (PW.pt (Zu (Ku Zi (pu 3) Qe) (Zo (Ku Zi (Ln K T.aA (Ko K 0)) Qe)))) (Qa (Qw (QA K rfl AL A0 A1 Qv (Ko K 0) (Km (Kn (i9 T) (Km (pu 2)))))) (Qc (Qf (Kn (aV T) (Km (LD K (Ko K 0) OC)))))) Qh) (Qa (Qn (PW.pt (Zu (Ku (QR K) (pu 3) Qe) (Zo (Ku Zi (Ln K T.aA (Ko K 0)) Qe)))) (Qa (Qw (QA K rfl AL A0 A1 Qv (Ko K 0) (Km (Kn (iA T) (Km (pu 2)))))) (Qc (Qf (Kn (aV T) (Km (LD K (Ko K 0) OC)))))) Qh) (Qa (Qn (PW.pt (Zu (Ku (QR K) (pu 3) Qe) (Zo (Ku Zi (Ln K T.aA (Ko K 0)) Qe)))) (Qa (YQ (Kn (cH T) (Km (pu 2))) (ON (n:=2) K rfl rfl (Qm (Ky 4) (Qm (Ky 5) QV)))) (Qa (Qw (QA K rfl AL A0 A1 Qv (Ko K 0) (Km (Qz (Lu (Kn (b9 T) (Kq (pu 2) Qe)) (pu 4) (pu 5)))))) (Qc (Qf (Kn (aV T) (Km (Qg (Me K rfl) (Qz (Km Qi)) (LD K (Ko K 0) OC)))))))) Qh) (Qa (Ks 6 (LD K (pu 1) (Qg Qp (Kn (aC T) (Kq (pu 2) Qe)) (Ln K T.aA (pu 1))))) (Qa (Qn (PW.pt (Zu (Ku (QR K) (pu 3) Qe) (Zo (ZY (XB K rfl) (pu 6) (Lz ["_law_one"] [none] (L0 K rfl (Ko K 0)) (Ky 0) QL (Ko K 0)) (by with_unfolding_all rfl))))) (Qa (Qw (QA K rfl AL A0 A1 Qv (Ko K 0) (Km (Qz (Kq (pu 6) (Kn (b9 T) (Kq (pu 2) Qe))))))) (Qc (Qf (Kn (aV T) (Km (Qg (Me K rfl) (Qz (Km Qi)) (LD K (Ko K 0) OC))))))) Qh) (Qa (Ks 7 (Kn (iB T) (Kq (Ko K 0) (pu 2)))) (Qa (Qn (PW.pt (Zu (Ku (QR K) (pu 3) Qe) (Zu (Ku Zi (Ln K T.aA (Ko K 0)) Qe) (Zu (Ku ZU (pu 7) (Qg Xh Qe Qe)) (Zo (Ku (WT K) (Lz ["_law_one","_law_limit_here"] [none,some 7] (L0 K rfl (Ko K 0)) (Ky 0) (Wa (Ku GC (Ko K 0) (pu 1))) (pu 0)) (Qq QE))))))) (Qa (Qw (QA K rfl AL A0 A1 Qv (Ko K 0) (Km (Qz (Kq (pu 7) (Kn (b9 T) (Kq (pu 2) Qe))))))) (Qc (Qf (Kn (aV T) (Km (Qg (Me K rfl) (Qz (Km Qi)) (LD K (Ko K 0) OC))))))) Qh) (Qa (Qn (PW.pt (Zu (Ku (QR K) (pu 3) Qe) (Zo (Ku (WT K) (Ko K 0) (Qq QE))))) (Qa (Qw (QA K rfl AL A0 A1 Qv (Ko K 0) (Km (Kn (bA T) (Kq (pu 2) Qe))))) (Qc (Qf (Qg Qu Qi (QD Zm (by rfl) T.aI boot_str (Km (LD K (Ko K 0) Qe))))))) Qh) (Qa (Qn (PW.pt (Zu (Ku (QR K) (pu 3) Qe) (Zo (Ku (WT K) (Ko K 0) (Qq QE))))) (Qa (Ks 8 (QC (M9 rfl) (by rfl) T.dW boot_max (Kq Qe (Kn (bA T) (Kq (pu 2) Qe))))) (Qa (Qw (QA K rfl AL A0 A1 Qv (Ko K 0) (Km (Qz (Kq (pu 8) (LD K (Qq (Lu Qi Qi Qi)) (Qg Qp (Kn (aC T) (Kq (pu 2) Qe)) Qe))))))) (Qc (Qf (Qg Qu (Qg Qu (Qg Qu Qi (QD Zm (by rfl) T.aI boot_str (Km (pu 8)))) Qi) (LD K (LD K (Ko K 0) Qe) Qe)))))) Qh) (Qc (Qf Qi)))))))))))),?_⟩;have au:∀j,(xs.filter λy=>decide (y.sl=j)).length<=200:=λj=>A4 (Iw _ _) bg
 have ar:∀(x:Itm) (v:V) (vs:List V) (H1:Hp),Same H H1->x.Ok->X2 xs x->(x.sl=0∨x.sl=1)->LIt K H1 x v->H1 (q' x.sl)=some (.lst vs)->O1 K v (upd H1 (q' x.sl) (.lst (vs++[v]))) Q:=λx v vs H1 g ok fi hs a7 hv=>by
  obtain⟨a,us,rfl,hS,hA⟩:=FL a7 ok hs;have kp:=Q3 (N:=λb=>b≠q' x.sl) (o:=.lst (vs++[.ref a])) hv λb h=>h
  refine⟨a,us,x.srt::x.ws,rfl,kp.sqT hS,LM kp hA,by have:=Vg (r:=.itm x) ok;show x.ws.length+1<=20;have:x.ws.length<=10:=this;omega,λH' g'=>q1 x _ vs H1 H' g ok fi (λz r s e=>by subst e;simp[Itm.sl] at hs) hv a7 g'⟩
 have ae:∀(x:Itm) (v:V) (vs:List V) (H1 H2:Hp) (p1:Addr),Same H H1->x.Ok->X2 xs x->(∀z r s,x=.cnt z r s->z∈ns)->(x.sl=2∨x.sl=3∨x.sl=4)->LIt K H1 x v->H1 (q' x.sl)=some (.lst vs)->Same (upd H1 (q' x.sl) (.lst (vs++[v]))) H2->H2 p1=some (.tup [.str x.srt])->Bj K (.ref p1) v H2 λy H3=>O1 K y H3 Q:=λx v vs H1 H2 p1 g ok fi hc hs a7 hv g2 a0=>by
  obtain⟨a,us,rfl,hS,ne,hA⟩:=FK a7 ok hs;have kp:=(Q3 (N:=λb=>b≠q' x.sl) (o:=.lst (vs++[.ref a])) hv λb h=>h).trans (.of g2);have c9:x.ws.length<=10:=Vg (r:=.itm x) ok;have c5:=hA.1;refine⟨p1,a,_,us,rfl,rfl,G6 a0,kp.sqT hS,by simp,by rw[AB];show 1+us.length<=_;omega,λe=>absurd e ne,λ_ p2 aa=>?_⟩;have g3:=Qd aa (.tup ([.str x.srt]++us));exact⟨p2,_,x.srt::x.ws,rfl,G6 Qb,Ql (Vf (Ze _ (Xw (.itm x))).2.1) (LM (kp.trans (.of g3)) hA),by show x.ws.length+1<=20;omega,λH' g'=>q1 x _ vs H1 H' g ok fi hc hv a7 (g2.trans (g3.trans g'))⟩
 generalize br:X5 (Jv (Ub (uB (OK (sEq K) (Zp 3) (tC (V.int 7)))) _) _ _) _=R9;generalize b3:X5 (Jv (Ub (uB (OK (sEq K) (Zp 3) (tC (V.int 6)))) _) _ _) _=R8;generalize bz:X5 (Jv (Ub (uB (OK (sEq K) (Zp 3) (tC (V.int 5)))) _) _ _) _=R7;generalize b4:X5 (Y5 _ (Xd 7)) _=R6;generalize bo:X5 (Jv (Ub (uB (OK (sEq K) (Zp 3) (tC (V.int 4)))) _) _ _) _=R5;generalize bp:X5 (Y5 _ (Xd 6)) _=R4;generalize bc:X5 (Jv (Ub (uB (OK (sEq K) (Zp 3) (tC (V.int 3)))) _) _ _) _=R3;generalize bu:X5 (Jv (Ub (uB (OK (sEq K) (Zp 3) (tC (V.int 2)))) _) _ _) _=R2;have aj:∀(D:QY) (x4 x5 x6 x7 x8:Option V) (H1:Hp),D.rt=Q->Same H H1->R9 D [some (.ref p),some (.ref pl),some (.int c),some (.int (c % 8)),x4,x5,x6,x7,x8] H1:=by
  subst br;intro D x4 x5 x6 x7 x8 H1 hD g;have hT:=G6 (K:=K) (g _ _ U.hp);left;rw[hD];refine Qo (λ_=>?_) (λ_=>q0 _ g);obtain⟨v6,k6,a6⟩:=U.hq 6 (by decide);refine Zg hT rfl ⟨by decide,λp1 a0=>?_⟩;have g1:=g.trans (Qd a0 (.lst []));refine Xe (G5 (g1 _ _ k6)) (G5 Qb) ?_;left;refine Qo (λe=>?_) (λ_=>q0 _ g1);have e6:v6=[]:=by simpa using e
  subst e6;generalize upd H1 p1 (.lst [])=H1' at *;refine⟨c,3,rfl,rfl,by omega,λn H2 g2 hn=>⟨1,n,rfl,?_⟩⟩;have a8:=g1.trans g2;have hu:1<=(if n > 1 then n else 1)/\(if n > 1 then n else 1)<=1000000000:=by have:=hn.2;split<;>omega
  generalize (if n > 1 then n else 1)=u at *;refine Zg (G6 (a8 _ _ U.hp)) rfl ⟨.inl ⟨rfl,_,G5 (a8 _ _ k6)⟩,by decide,λp2 aa=>⟨c,1,rfl,rfl,by omega,λm H3 g3 _ _=>?_⟩⟩;have kw:=g3 _ _ (Qb (H:=H2) (a:=p2) (o:=.lst [.str "down",.str "up",.str "near"]));have bh:=(a8.trans (Qd aa _)).trans g3;left;obtain⟨w1,bf,b5⟩:=Bp (a:=.str "down") (b:=.str "up") (c:=.str "near") m;obtain⟨zw,rfl,hz⟩:∃z,w1=.str z/\JN z=true:=by
   rcases b5 with rfl|rfl|rfl
   ·exact⟨_,rfl,by decide +kernel⟩
   ·exact⟨_,rfl,by decide +kernel⟩
   ·exact⟨_,rfl,by decide +kernel⟩
  refine⟨trivial,QO (G5 kw) bf ⟨by decide,λp3 c0=>?_⟩⟩;have g4:=bh.trans (Qd c0 (.tup [.int u,.str zw]));have k3:=Qb (H:=H3) (a:=p3) (o:=.tup [.int u,.str zw]);generalize upd H3 p3 (.tup [.int u,.str zw])=H4 at *;have kq:=g4 _ _ k6;have lu:(nt u).length<=100:=len_num (by omega) (by omega);have lz:=(KU hz).2.1;have lr:(Str.ofString "round ").length=6:=by decide +kernel
  have lb:(Str.ofString " ").length=1:=by decide +kernel
  refine⟨q' 6,[],_,rfl,rfl,kq,by rw[AB];decide,.inl ⟨u,rfl,Yk (by omega) (by omega),?_⟩⟩;left;have c6:(Str.ofString (toString u)).length<=100:=lu;have kp:=Q3 (N:=λb=>b≠q' 6) (o:=.lst ([]++[.ref p3])) kq λb h=>h
  refine⟨Za (by omega),Za (by rw[QQ];omega),Zg (kp.sqT (G6 (g4 _ _ U.hp))) rfl (QO (G5 Qb) (v:=.ref p3) rfl (Zg (kp.sqT (G6 k3)) rfl ?_))⟩;left;refine⟨by rw[AB,QQ,QQ];omega,?_⟩;have fi:X2 xs (.rnd u zw):=Yn (by simp[Itm.sl]) (by simp[Itm.sl]) (by
   have:=a6.1;show((xs.filter λy=>decide (y.sl=6)).length:Int)<1;rw[this];decide)
  have:=q1 (.rnd u zw) (.ref p3) [] H4 _ g4 ⟨hu,hz⟩ fi (λz r s e=>nomatch e) kq (.rnd u zw p3 (G6 k3)) (G7 _);rw[Ht] at this;exact this
 have a9:∀(D:QY) (x4 x5 x6 x7 x8:Option V) (H1:Hp),D.rt=Q->Same H H1->R8 D [some (.ref p),some (.ref pl),some (.int c),some (.int (c % 8)),x4,x5,x6,x7,x8] H1:=by
  subst b3;intro D x4 x5 x6 x7 x8 H1 hD g;have hT:=G6 (K:=K) (g _ _ U.hp);left;refine Qo (λ_=>?_) (λ_=>aj _ _ _ _ _ _ _ hD g);obtain⟨v5,k5,a5⟩:=U.hq 5 (by decide);refine Zg hT rfl ⟨by decide,λp1 a0=>?_⟩;have g1:=g.trans (Qd a0 (.lst []));refine Xe (G5 (g1 _ _ k5)) (G5 Qb) ?_;left;refine Qo (λe=>?_) (λ_=>aj _ _ _ _ _ _ _ hD g1);have e5:v5=[]:=by simpa using e
  subst e5;generalize upd H1 p1 (.lst [])=H1' at *;refine Zg (G6 (g1 _ _ U.hp)) rfl ⟨.inl ⟨rfl,_,G5 (g1 _ _ k5)⟩,c,3,rfl,rfl,by omega,λn H2 g2 hn=>?_⟩;have a8:=g1.trans g2;have kq:=a8 _ _ k5;have kp:=Q3 (N:=λb=>b≠q' 5) (o:=.lst ([]++[.int n])) kq λb h=>h
  refine⟨q' 5,[],_,rfl,rfl,kq,by rw[AB];decide,Zg (kp.sqT (G6 (a8 _ _ U.hp))) rfl (QO (G5 Qb) (v:=.int n) rfl (.inl ⟨n,rfl,Yk hn.1 (by have:=hn.2;omega),?_⟩))⟩;left;have lu:(Str.ofString (toString n)).length<=100:=len_num hn.1 (by have:=hn.2;omega);have lr:(Str.ofString "until ").length=6:=by decide +kernel
  have fi:X2 xs (.unt n):=Yn (by simp[Itm.sl]) (by simp[Itm.sl]) (by
   have:=a5.1;show((xs.filter λy=>decide (y.sl=5)).length:Int)<1;rw[this];decide)
  have:=q1 (.unt n) (.int n) [] H2 _ a8 hn fi (λz r s e=>nomatch e) kq (.unt n) (G7 _);rw[Hs] at this;rw[hD];exact⟨Za (by omega),this⟩
 have ay:∀(D:QY) (n:Int) (x4 x5 x6 x8:Option V) (H1:Hp),D.rt=Q->Same H H1->0<=n->R7 D [some (.ref p),some (.ref pl),some (.int c),some (.int (c % 8)),x4,x5,x6,some (.int n),x8] H1:=by
  subst bz;intro D n x4 x5 x6 x8 H1 hD g hn;have hT:=G6 (K:=K) (g _ _ U.hp);left;refine Qo (λ_=>?_) (λ_=>a9 _ _ _ _ _ _ _ hD g);obtain⟨v4,k4,a4⟩:=U.hq 4 (by decide);refine Zg hT rfl (Q7 (G5 (g _ _ k4)) ?_);left;rw[hD];have bt:=a4.1;have c3:=au 4;refine Qo (λl6=>⟨by unfold Kz;decide,Qo (λbq=>?_) (λ_=>a9 _ _ _ _ _ _ _ hD g)⟩) (λ_=>a9 _ _ _ _ _ _ _ hD g);simp only[QX];left;refine⟨q' 4,rfl,⟨_,G5 (g _ _ k4)⟩,Zt (xs:=v4) (sC (xs.filter λx=>decide (x.sl=4)) n H1) ⟨none,rfl,G7 _,λ_ y hy=>by simp at hy⟩ (λi acc σ' H' _ h=>by obtain⟨_,_,g',_⟩:=h;exact(g.trans g').seq (G5 k4)) (by omega) ?_ ?_⟩
  ·rintro i v acc _ H2 hv az ⟨x0,rfl,g',hz⟩;obtain⟨y,hy,aw⟩:=a4.getV hv;obtain⟨_,J⟩:=YV hy;obtain⟨l2,r2,s2,rfl⟩:=Gu J;obtain⟨p5,p6,rfl,ax,_⟩:=NP aw;have bj:=(g.trans g').sqT ax;left;refine Qo (λ_=>?_) (λc8=>?_)
   ·exact CN.mk (Qt hv) (by rw[Aq,Av];omega) ⟨_,rfl,g',λe=>absurd e (by simp)⟩
   ·refine CN.mk (Qt hv) (by omega) ⟨_,rfl,g',λe y b1 l r s e2=>?_⟩;rw[AX,hy] at b1;rcases AK.mp b1 with h|h
    ·exact hz e y h l r s e2
    ·have:y=.off l2 r2 s2:=by simpa using h
     rw[this] at e2;cases e2;omega
  ·rintro acc _ H2 ⟨x0,rfl,g',hz⟩ p1 a0;have ga:=(g.trans g').trans (Qd a0 (.lst acc));have ka:=Qb (H:=H2) (a:=p1) (o:=.lst acc);generalize upd H2 p1 (.lst acc)=H3 at *;refine⟨by decide,λp2 aa=>?_⟩;have gb:=ga.trans (Qd aa (.lst []));refine Xe (G5 (Qd aa _ _ _ ka)) (G5 Qb) ?_;left;refine Qo (λe=>?_) (λ_=>a9 _ _ _ _ _ _ _ hD gb);have e4:acc=[]:=by simpa using e
   rw[AJ (by omega)] at hz;have hz:=hz e4;generalize upd H3 p2 (.lst [])=H4 at *;refine Zg (G6 (gb _ _ U.hp)) rfl ⟨.inl ⟨rfl,_,G5 (gb _ _ k4)⟩,c,0,rfl,rfl,by omega,λp7 r s' H5 g5 ah ab=>⟨by decide,λp8 af=>?_⟩⟩;have g6:=Qd af (.tup [.int n,.ref p7]);have k8:=Qb (H:=H5) (a:=p8) (o:=.tup [.int n,.ref p7]);generalize upd H5 p8 (.tup [.int n,.ref p7])=H6 at *;have gc:=(gb.trans g5).trans g6;have kq:=gc _ _ k4;refine⟨q' 4,_,_,rfl,rfl,kq,by rw[AB];omega,by decide,λp9 ag=>?_⟩;have g9:=Qd ag (.tup [.str "off"]);have kp:=(Q3 (N:=λb=>b≠q' 4) (o:=.lst (v4++[.ref p8])) kq λb h=>h).trans (.of g9);refine Zg (kp.sqT (G6 (gc _ _ U.hp))) rfl (QO (G5 (g9 _ _ Qb)) (Q4 _ _) ?_);refine ae (.off n r s') (.ref p8) v4 H6 _ p9 gc ⟨⟨hn,bq⟩,ah⟩ ⟨by rw[bt];omega,λy hy l2 r2 s2 e2=>hz y (Ik.mpr ⟨hy,by rw[e2];rfl⟩) l2 r2 s2 e2⟩ (λz r s e=>nomatch e) (.inr (.inr rfl)) (.off n r s' p8 p7 (G6 k8) (G6 (g6 _ _ ab))) kq g9 Qb
 have ao:∀(D:QY) (x4 x5 x6 x7 x8:Option V) (H1:Hp),D.rt=Q->Same H H1->R6 D [some (.ref p),some (.ref pl),some (.int c),some (.int (c % 8)),x4,x5,x6,x7,x8] H1:=by
  subst b4;intro D x4 x5 x6 x7 x8 H1 hD g;have hT:=G6 (K:=K) (g _ _ U.hp);left;obtain⟨v4,k4,a4⟩:=U.hq 4 (by decide);refine⟨q' 4,c,_,v4,rfl,rfl,G5 (g _ _ k4),Wi (N:=λ_=>True) (.of g) a4,λx hx=>?_,λn H2 g2 hn=>?_⟩
  ·obtain⟨h1,h2⟩:=Ik.mp hx;exact⟨IB h2,b6 x h1⟩
  ·exact ay _ n _ _ _ _ _ hD (g.trans g2) hn
 have b2:∀(D:QY) (z:Str) (x4 x5 x7 x8:Option V) (H1:Hp),D.rt=Q->Same H H1->z∈ns->R5 D [some (.ref p),some (.ref pl),some (.int c),some (.int (c % 8)),x4,x5,some (.str z),x7,x8] H1:=by
  subst bo;intro D z x4 x5 x7 x8 H1 hD g hz;have hT:=G6 (K:=K) (g _ _ U.hp);left;rw[hD];refine Qo (λ_=>?_) (λ_=>ao _ _ _ _ _ _ _ hD g);obtain⟨v3,k3,a3⟩:=U.hq 3 (by decide);have c7:=a3.1;have cc:=au 3;simp only[QX];left;refine⟨q' 3,rfl,⟨_,G5 (g _ _ k3)⟩,Zt (xs:=v3) (rG (xs.filter λx=>decide (x.sl=3)) H1) ⟨none,rfl,G7 _,rfl⟩ (λi acc σ' H' _ h=>by obtain⟨_,_,g',_⟩:=h;exact(g.trans g').seq (G5 k3)) (by omega) ?_ ?_⟩
  ·rintro i v acc _ H2 hv az ⟨x0,rfl,g',rfl⟩;obtain⟨y,hy,aw⟩:=a3.getV hv;obtain⟨_,J⟩:=YV hy;obtain⟨z2,r2,s2,rfl⟩:=Jw J;obtain⟨p5,p6,rfl,ax,_⟩:=NQ aw;have bj:=(g.trans g').sqT ax;simp only[Zw];left;exact CN.mk (Qt hv) (by rw[Aq,Av];omega) ⟨_,rfl,g',by rw[AX,hy,Az,Az];rfl⟩
  ·rintro acc _ H2 ⟨x0,rfl,g',rfl⟩ p1 a0;rw[AJ (by omega)] at *;have ga:=(g.trans g').trans (Qd a0 (.lst (((xs.filter λx=>decide (x.sl=3)).map nW).map V.str)));refine Z0 (G5 Qb) ?_;generalize upd H2 p1 (.lst (((xs.filter λx=>decide (x.sl=3)).map nW).map V.str))=H4 at *;left;refine Qo (λhm=>?_) (λ_=>ao _ _ _ _ _ _ _ hD ga);refine Zg (G6 (ga _ _ U.hp)) rfl ⟨.inl ⟨rfl,_,G5 (ga _ _ k3)⟩,c,2,rfl,rfl,by omega,λp7 r s' H5 g5 ah ab=>⟨by decide,λp8 af=>?_⟩⟩;have g6:=Qd af (.tup [.str z,.ref p7]);have k8:=Qb (H:=H5) (a:=p8) (o:=.tup [.str z,.ref p7]);generalize upd H5 p8 (.tup [.str z,.ref p7])=H6 at *;have gc:=(ga.trans g5).trans g6;have kq:=gc _ _ k3;refine⟨q' 3,_,_,rfl,rfl,kq,by rw[AB];omega,by decide,λp9 ag=>?_⟩;have g9:=Qd ag (.tup [.str "counts"]);have kp:=(Q3 (N:=λb=>b≠q' 3) (o:=.lst (v3++[.ref p8])) kq λb h=>h).trans (.of g9);refine Zg (kp.sqT (G6 (gc _ _ U.hp))) rfl (QO (G5 (g9 _ _ Qb)) (Q4 _ _) ?_);refine ae (.cnt z r s') (.ref p8) v3 H6 _ p9 gc ⟨bw z hz,ah⟩ (λy hy z2 r2 s2 e2 e3=>hm (Ii.mpr ⟨y,Ik.mpr ⟨hy,by rw[e2];rfl⟩,by rw[e2];exact e3⟩)) (λz2 r2 s2 e=>by cases e;exact hz) (.inr (.inl rfl)) (.cnt z r s' p8 p7 (G6 k8) (G6 (g6 _ _ ab))) kq g9 Qb
 have ak:∀(D:QY) (x4 x5 x6 x7 x8:Option V) (H1:Hp),D.rt=Q->Same H H1->R4 D [some (.ref p),some (.ref pl),some (.int c),some (.int (c % 8)),x4,x5,x6,x7,x8] H1:=by
  subst bp;intro D x4 x5 x6 x7 x8 H1 hD g;left;refine⟨c,0,rfl,rfl,by omega,λm H2 g2 m0 _=>?_⟩;have bl:=(g.trans g2).seq hP;left;rw[As];have d0:=AY m (show(ns.length:Int)≠0 by omega);have d1:=A6 m (show(0:Int)<ns.length by omega);obtain⟨k,hk⟩:=Iv d0;rw[hk];have b0:k<ns.length:=by omega
  refine⟨by omega,QO bl (v:=.str ns[k]) (QZ (by rw[AS,Ax b0];rfl)) ?_⟩;exact b2 _ _ _ _ _ _ _ hD (g.trans g2) (List.getElem_mem b0)
 have aq:∀(D:QY) (x4 x5 x6 x7 x8:Option V) (H1:Hp),D.rt=Q->Same H H1->R3 D [some (.ref p),some (.ref pl),some (.int c),some (.int (c % 8)),x4,x5,x6,x7,x8] H1:=by
  subst bc;intro D x4 x5 x6 x7 x8 H1 hD g;have hT:=G6 (K:=K) (g _ _ U.hp);left;refine Qo (λ_=>?_) (λ_=>ak _ _ _ _ _ _ _ hD g);obtain⟨v2,k2,a2⟩:=U.hq 2 (by decide);have bb:=a2.1;refine Zg hT rfl (Q7 (G5 (g _ _ k2)) ?_);left;rw[hD];refine Qo (λl4=>?_) (λ_=>ak _ _ _ _ _ _ _ hD g);refine⟨c,rfl,λpa l h' H2 g2 ba bx=>?_⟩;have c2:=G6 (K:=K) bx;have ga:=g.trans g2;have cf:=G6 (K:=K) (ga _ _ U.hp);left;refine⟨.inl ⟨rfl,_,G5 (ga _ _ k2)⟩,c,1,rfl,rfl,by omega,λp7 r s' H5 g5 ah ab=>?_⟩;left;refine⟨by decide,λp8 af=>?_⟩;have g6:=Qd af (.tup [.ref p7,.int l,.int h']);have k8:=Qb (H:=H5) (a:=p8) (o:=.tup [.ref p7,.int l,.int h']);generalize upd H5 p8 (.tup [.ref p7,.int l,.int h'])=H6 at *;have gc:=(ga.trans g5).trans g6;have kq:=gc _ _ k2;refine⟨q' 2,_,_,rfl,rfl,kq,by rw[AB];omega,by decide,λp9 ag=>?_⟩;have g9:=Qd ag (.tup [.str "pay"]);have kp:=(Q3 (N:=λb=>b≠q' 2) (o:=.lst (v2++[.ref p8])) kq λb h=>h).trans (.of g9);refine Zg (kp.sqT (G6 (gc _ _ U.hp))) rfl (QO (G5 (g9 _ _ Qb)) (Q4 _ _) ?_);refine ae (.pay r s' l h') (.ref p8) v2 H6 _ p9 gc ⟨ah,ba⟩ (Yn (by simp[Itm.sl]) (by simp[Itm.sl]) (by show((xs.filter λy=>decide (y.sl=2)).length:Int)<4;rw[bb];exact l4)) (λz2 r2 s2 e=>nomatch e) (.inl rfl) (.pay r s' l h' p8 p7 (G6 k8) (G6 (g6 _ _ ab))) kq g9 Qb
 have ai:∀(D:QY) (x4 x5 x6 x7 x8:Option V) (H1:Hp),D.rt=Q->Same H H1->R2 D [some (.ref p),some (.ref pl),some (.int c),some (.int (c % 8)),x4,x5,x6,x7,x8] H1:=by
  subst bu;intro D x4 x5 x6 x7 x8 H1 hD g;have hT:=G6 (K:=K) (g _ _ U.hp);left;refine Qo (λ_=>?_) (λ_=>aq _ _ _ _ _ _ _ hD g);obtain⟨v1,k1,a1⟩:=U.hq 1 (by decide);have av:=a1.1;refine Zg hT rfl (Q7 (G5 (g _ _ k1)) ?_);left;rw[hD];refine Qo (λl6=>?_) (λ_=>aq _ _ _ _ _ _ _ hD g);refine Zg hT rfl ⟨.inl ⟨rfl,_,G5 (g _ _ k1)⟩,c,rfl,λx v H2 g2 ok J a7=>?_⟩;have gc:=g.trans g2;have kq:H2 (q' x.sl)=some (.lst v1):=by rw[J];exact gc _ _ k1
  refine ⟨q' 1,_,_,rfl,rfl,gc _ _ k1,by rw [AB];omega,?_⟩;rw [<-J];have kp:=Q3 (N:=fun b=>b≠q' x.sl) (o:=.lst (v1++[v])) kq fun b h=>h
  refine Zg (kp.sqT (G6 (gc _ _ U.hp))) (v:=.ref (q' x.sl)) (by rw[J];rfl) (QO (G5 Qb) (Q4 _ _) ?_);exact ar x v v1 H2 gc ok (Yn (by rw[J];decide) (by rw[J];decide) (by rw[J,av];exact l6)) (.inr J) a7 kq
 have hT:=G6 (K:=K) U.hp;left;refine⟨trivial,Qo (λ_=>?_) (λ_=>ai _ _ _ _ _ _ _ rfl (G7 _))⟩;obtain⟨v1,k1,a1⟩:=U.hq 0 (by decide);have av:=a1.1;refine Zg hT rfl (Q7 (G5 k1) ?_);left;refine Qo (λl6=>?_) (λ_=>ai _ _ _ _ _ _ _ rfl (G7 _));refine Zg hT rfl ⟨.inl ⟨rfl,_,G5 k1⟩,c,rfl,λx v H2 g2 ok J a7=>?_⟩;have kq:H2 (q' x.sl)=some (.lst v1):=by rw[J];exact g2 _ _ k1
 refine ⟨q' 0,_,_,rfl,rfl,g2 _ _ k1,by have:=au 0;rw [AB];omega,?_⟩;rw [<-J];have kp:=Q3 (N:=fun b=>b≠q' x.sl) (o:=.lst (v1++[v])) kq fun b h=>h
 refine Zg (kp.sqT (G6 (g2 _ _ U.hp))) (v:=.ref (q' x.sl)) (by rw[J];rfl) (QO (G5 Qb) (Q4 _ _) ?_);exact ar x v v1 H2 g2 ok (Yn (by rw[J];decide) (by rw[J];decide) (by rw[J,av];exact l6)) (.inl J) a7 kq
def CL (K:W.Frag)(N:Addr->Prop)(H:Hp)(c:Cp)(v:V):Prop:=∃p l,v=.ref p/\H p=some (.tup [.int c.1,.int c.2.1,.ref l])/\H l=some (.lst (c.2.2.map V.str))/\N l
theorem CL.kp {c}(g:Kp N H H')(h:CL K N H c v):CL K N H' c v:=by
 obtain⟨p,l,e,h1,h2,n⟩:=h;exact⟨p,l,e,g _ _ h1 (.inr λvs e=>nomatch e),g _ _ h2 (.inl n),n⟩
theorem WN (g:Kp N H H')(h:All2 (CL K N H) cs vs):All2 (CL K N H') cs vs:=⟨h.1,λi a b ha hb=>(h.2 i a b ha hb).kp g⟩
def XR (cs:List Cp):List Str:=(cs.map (·.2.2)).flatten
inductive mf (K)(x y z:V)(H)(Q:VK):Prop
 | mk (cl pl:Addr) (c:Int) (cvs:List V) (cs:List Cp) (ns:List Str) (N:Addr->Prop) (h1:x=.ref cl) (h2:y=.ref pl) (h3:z=.int c) (h4:H cl=some (.lst cvs)) (h5:All2 (CL K N H) cs cvs) (h6:Kv K H pl (ns.map V.str)) (h7:∀z∈ns,Xv z) (h8:ns.Nodup) (h8':ns.length<=8) (h9:cs.length<=4) (h10:∀c∈cs,c.2.2.length<=8) (h11:(XR cs).Nodup)
   (q0:∀H',Same H H'->Q (.str (q_ "")) H')
   (q1:∀a b nms p l H1 H',Same H H1->(Row.cap a b nms).Ok->(∀z∈nms,z∈ns)->(nms++XR cs).Nodup->cs.length<4->H l=none->H1 l=some (.lst (nms.map V.str))->H1 p=some (.tup [.int a,.int b,.ref l])->Same (upd H1 cl (.lst (cvs++[.ref p]))) H'->Q (.str (Row.cap a b nms).tx) H'):mf K x y z H Q
def sO (cl pl:Addr)(c:Int)(cs:List Cp)(H:Hp)(i:Nat)(σ':L2.St)(H':Hp):Prop:=∃gl x4,σ'=[some (.ref cl),some (.ref pl),some (.int c),some (.ref gl),x4,none,none,none]/\Same H H'/\H' gl=some (.lst ((XR (cs.take i)).map V.str))
def rE (ns gs:List Str)(gl:Addr)(H:Hp)(i:Nat)(acc:List V)(σ':L2.St)(H':Hp):Prop:=∃x0,σ'=[x0,some (.ref gl)]/\Same H H'/\acc=((ns.take i).filter λz=>decide (z∉gs)).map V.str
theorem MU {c}(h:cs[i]?=some c):XR (cs.take (i+1))=XR (cs.take i)++c.2.2:=by
 unfold XR;rw[AX,h,Az,IC];simp
theorem Tp (i:Nat)(h:∀c∈cs,c.2.2.length<=8)(h4:cs.length<=4):(XR (cs.take i)).length<=32:=by
 have:=UO (cs:=cs.take i) λc J=>h c (List.mem_of_mem_take J)
 rw[Ig] at this;unfold XR;omega
theorem Jm {gs:List Str}(h:ns[i]?=some z):(ns.take (i+1)).filter (λz=>decide (z∉gs))=(ns.take i).filter (λz=>decide (z∉gs))++if z∈gs then[] else[z]:=by
 rw[AX,h,IZ]
 congr 1
 by_cases e:z∈gs<;>simp[e]
theorem iD (T:Tx w K mg):LB P w K mg base 3 "_law_cap" ["_law_caps","_law_pool_here","_law_cell_here"] (Sp3M (mf K)):=by
 refine QI T 107 ["_law_caps","_law_pool_here","_law_cell_here","_law_gone","_law_cap_here","_law_free","_law_at","_law_names"] Wp λH Q dn hr h=>?_
 obtain⟨_,_,_,rfl,cl,pl,c,cvs,cs,ns,N,rfl,rfl,rfl,hc,hC,hP,ai,nd,ay,h4,h8,ak,q0,q1⟩:=h;refine⟨_,(Qa (Ks 3 (Qq QE)) (Qa (Lx (L0 K rfl (pu 0)) (Ky 4) (Qc (Ks 3 (Qg Qu (pu 3) (Ko K 4))))) (Qa (Ji (i:=5) dn rfl (Or.inl rfl) (N:=["_law_one","_law_gone"]) (caps:=[none,some 3]) rfl Rk (L0 K rfl (pu 1)) (λ_ _ _ _=>Wb (i:=0) (show(["_law_one","_law_gone"]:List Str).Nodup by decide +kernel) rfl (Or.inl rfl) (.inr rfl)) (λ_ _ _ _=>Wa (ZY (XB K rfl) (pu 0) (pu 1) (by with_unfolding_all rfl))) (λ_ _ _ _=>(pu 0))) (Qa (Qn (PW.pt (Xo (Ku (WT K) (pu 5) (Qq QE)) (Z9 (Ku (QR K) (Ln K T.aA (pu 0)) Qe)))) (Qc (Qf Qi)) Qh) (Qa (Ks 6 (Qg Qp (Kn (aC T) (Kq (pu 2) Qe)) (Ln K T.aA (pu 5)))) (Qa (Ks 5 (Qg Qu (Zy (lY K rfl) (pu 5) (ZA (pu 6)) Xy) (Zy (lY K rfl) (pu 5) Xy (ZA (pu 6))))) (Qa (Ks 7 (Zy (lY K rfl) (pu 5) Xy (ZA (Qg Qu Qe (Qg Qp (Kn (aC T) (Kq (pu 2) Qe)) (Ln K T.aA (pu 5))))))) (Qa (Qw (QA K rfl AL A0 A1 Qv (pu 0) (Km (Qz (Lu (Kn (bA T) (Kq (pu 2) Qe)) (Kn (bA T) (Kq (pu 2) Qe)) (pu 7)))))) (Qc (Qf (QA K rfl Gc Gi Ja (Vx K rfl) Qi (Km (Qg Qu (Qq (Lu Qi (QD Zm (by rfl) T.aI boot_str (Km (LD K (LD K (pu 0) OC) Qe))) (QD Zm (by rfl) T.aI boot_str (Km (LD K (LD K (pu 0) OC) Qe))))) (pu 7)))))))))))))),?_⟩;left;refine⟨by decide,λg0 ax=>?_⟩;have g1:=Qd ax (.lst []);have k0:=Qb (H:=H) (a:=g0) (o:=.lst []);generalize upd H g0 (.lst [])=H1 at *;have bb:=hC.1;refine⟨cl,rfl,⟨_,G5 (g1 _ _ hc)⟩,Z6 (xs:=cvs) (sO cl pl c cs H) ⟨g0,none,rfl,g1,k0⟩ (λi σ' H' _ h=>by obtain⟨_,_,_,g',_⟩:=h;exact G5 (g' _ _ hc)) ?_ ?_⟩
 ·rintro i v _ H2 hv ⟨gl,x4,rfl,g,kg⟩;obtain⟨cp,aj,p,l,rfl,hp,hl,_⟩:=hC.getV hv;have hT:=G6 (K:=K) (g _ _ hp);left;have f1:=Tp i h8 h4;have f2:=h8 cp (AG aj);refine⟨gl,l,_,_,rfl,rfl,kg,g _ _ hl,by rw[As,As,AB];omega,λp2 au=>⟨p2,_,rfl,g.trans (Qd au _),by rw[Qb,MU aj,Az]⟩⟩
 ·rintro _ H2 ⟨gl,x4,rfl,g,kg⟩;rw[AJ (by omega)] at kg;left;simp only[QX];left;refine⟨pl,rfl,⟨_,g.seq hP⟩,Zt (xs:=ns.map V.str) (rE ns (XR cs) gl H2) ⟨none,rfl,G7 _,rfl⟩ (λi acc σ' H' _ h=>by obtain⟨_,_,g',_⟩:=h;exact(g.trans g').seq hP) (by rw[As];omega) ?_ ?_⟩
  ·rintro i v acc _ H3 hv b5 ⟨x0,rfl,g',rfl⟩;have ae:=Qt hv;rw[AS] at hv;obtain⟨z,J,rfl⟩:=A8.mp hv;left;refine Z0 (G5 (g' _ _ kg)) ?_;left;refine Qo (λe=>?_) (λe=>?_)
   ·exact CN.mk ae (by rw[Aq,Av];omega) ⟨_,rfl,g',by rw[Jm J,Am e,Az];rfl⟩
   ·exact CN.mk ae (by omega) ⟨_,rfl,g',by rw[Jm J,An (Classical.not_not.mp e),Ie]⟩
  ·rintro acc _ H3 ⟨x0,rfl,g',rfl⟩ pf hpf;rw[AJ (by rw[As];exact Au _)] at *;have b2:(ns.filter λz=>decide (z∉XR cs)).Nodup:=nd.filter _;have az:∀z∈ns.filter λz=>decide (z∉XR cs),z∈ns/\z∉XR cs:=λz J=>by
    obtain⟨h1,h2⟩:=Ik.mp J;exact⟨h1,IB h2⟩
   have ba:(ns.filter λz=>decide (z∉XR cs)).length<=8:=A4 (Iw _ _) ay;generalize (ns.filter λz=>decide (z∉XR cs))=fr at *;have ga:=(g.trans g').trans (Qd hpf (.lst (fr.map V.str)));have kf:=Qb (H:=H3) (a:=pf) (o:=.lst (fr.map V.str));generalize upd H3 pf (.lst (fr.map V.str))=H4 at *;left;refine⟨by decide,λp1 ab=>?_⟩;have gb:=ga.trans (Qd ab (.lst []));have a8:=Qd ab (.lst []) _ _ kf;refine Xe (G5 a8) (G5 Qb) ?_;generalize upd H4 p1 (.lst [])=H5 at *;left;refine Qo (λ_=>q0 _ gb) (λne=>?_);have b6:0<fr.length:=by
    rcases Nat.eq_zero_or_pos fr.length with e|e
    ·rw[Gd e] at ne;exact absurd rfl ne
    ·exact e
   refine Q7 (G5 (gb _ _ hc)) ?_;left;refine Qo (λ_=>q0 _ gb) (λn4=>?_);refine⟨c,0,rfl,rfl,by omega,λm H6 g6 m0 _=>?_⟩;have gc:=gb.trans g6;have a9:=G5 (K:=K) (g6 _ _ a8);left;rw[As];have d0:=AY m (show(fr.length:Int)≠0 by omega);have d1:=A6 m (show(0:Int)<fr.length by omega);obtain⟨k,hk⟩:=Iv d0;rw[hk];refine⟨by omega,?_⟩;left;refine YF a9 λpa b0=>?_
   rw[JT];have gA:=Qd b0 (.lst ((fr.map V.str).drop k));have ka:=Qb (H:=H6) (a:=pa) (o:=.lst ((fr.map V.str).drop k));generalize upd H6 pa (.lst ((fr.map V.str).drop k))=H7 at *;refine YF (gA.seq a9) λpb ao=>?_
   rw [GX];have gB:=Qd ao (.lst ((fr.map V.str).take k));have kb:=Qb (H:=H7) (a:=pb) (o:=.lst ((fr.map V.str).take k));generalize upd H7 pb (.lst ((fr.map V.str).take k))=H8 at *;refine ⟨pa,pb,_,_,rfl,rfl,gB _ _ ka,kb,by rw [IS,Ig,As,AB];omega,fun pc aq=>?_⟩;rw [<-List.map_drop,<-List.map_take,<-Az];have rn:(fr.drop k++fr.take k).Nodup:=by
    have h:=b2;rw [<-qx k fr] at h;obtain ⟨h1,h2,h3⟩:=Iq.mp h;exact Iq.mpr ⟨h2,h1,fun a ha b U e=>h3 b U a ha e.symm⟩
   have rm:∀z∈fr.drop k++fr.take k,z∈fr:=λz J=>by
    rcases AK.mp J with h|h
    ·exact List.mem_of_mem_drop h
    ·exact List.mem_of_mem_take h
   have rl:(fr.drop k++fr.take k).length=fr.length:=by rw[Aq,IS,Ig];omega
   generalize fr.drop k++fr.take k=rot at *;have gC:=Qd aq (.lst (rot.map V.str));have kc:=Qb (H:=H8) (a:=pc) (o:=.lst (rot.map V.str));generalize upd H8 pc (.lst (rot.map V.str))=H9 at *;have gd:=((gc.trans gA).trans gB).trans gC;left;refine⟨c,2,rfl,rfl,by omega,λm2 ah a6 _ _=>?_⟩;have af:=G5 (K:=K) (a6 _ _ kc);left;rw[As];have e0:=AY m2 (show(rot.length:Int)≠0 by omega);have e1:=A6 m2 (show(0:Int)<rot.length by omega);obtain⟨k2,b1⟩:=Iv e0;rw[b1];refine⟨by omega,?_⟩;left;refine YF af λpn aa=>?_
   rw[show(1+(k2:Int))=((k2+1:Nat):Int) by omega,GX,<-List.map_take];have nn:(rot.take (k2+1)).Nodup:=rn.sublist (List.take_sublist _ _);have nm:∀z∈rot.take (k2+1),z∈ns/\z∉XR cs:=λz J=>az z (rm z (List.mem_of_mem_take J))
   have nl:1<=(rot.take (k2+1)).length/\(rot.take (k2+1)).length<=8:=by rw[Ig];omega
   generalize rot.take (k2+1)=nms at *;have gN:=Qd aa (.lst (nms.map V.str));have kn:=Qb (H:=ah) (a:=pn) (o:=.lst (nms.map V.str));generalize upd ah pn (.lst (nms.map V.str))=H11 at *;have ge:=(gd.trans a6).trans gN;have a7:=(gd.trans a6).free aa;left;refine⟨.inl ⟨rfl,_,G5 (ge _ _ hc)⟩,c,3,rfl,rfl,by omega,λa bc ar ha=>?_⟩;left;refine⟨c,1,rfl,rfl,by omega,λb ag aw U=>?_⟩;left;refine⟨by decide,λpt b4=>?_⟩;have gT:=Qd b4 (.tup [.int a,.int b,.ref pn]);have kt:=Qb (H:=ag) (a:=pt) (o:=.tup [.int a,.int b,.ref pn]);generalize upd ag pt (.tup [.int a,.int b,.ref pn])=H14 at *;have gt:=ar.trans (aw.trans gT);have gf:=ge.trans gt;have a4:=gt _ _ kn;have a5:=gf _ _ hc;have kp:=Q3 (N:=λb=>b≠cl) (o:=.lst (cvs++[.ref pt])) a5 λb h=>h
   have nc:pn≠cl:=λe=>by rw[e,hc] at a7;cases a7
   have a0:=G6 (K:=K) (kp _ _ kt (.inr λvs e=>nomatch e));have la:(nt a).length<=100:=len_num ha.1 (by have:=ha.2;omega);have lb:(nt b).length<=100:=len_num U.1 (by have:=U.2;omega);refine⟨cl,_,_,rfl,rfl,a5,by rw[AB];omega,by trivial,?_⟩;refine QO (G5 Qb) (Q4 _ _) (Zg a0 rfl (.inl ⟨a,rfl,Yk ha.1 (by have:=ha.2;omega),QO (G5 Qb) (Q4 _ _) (Zg a0 rfl (.inl ⟨b,rfl,Yk U.1 (by have:=U.2;omega),by decide,λpj av=>?_⟩))⟩));have gJ:=Qd av (.lst [.str "cap",.str (Str.ofString (toString a)),.str (Str.ofString (toString b))]);refine⟨pj,pn,_,_,rfl,rfl,Qb,gJ _ _ (kp _ _ a4 (.inl nc)),by rw[As,AB];show 3+nms.length<=_;omega,λpk b3=>?_⟩;rw[QS];refine⟨blank,pk,q_ "cap" :: nt a::nt b::nms,rfl,rfl,G5 Qb,?_,?_⟩
   ·have hs:(nms.map (·.length)).sum<=nms.length*1000:=by
     have:∀l:List Str,(∀z∈l,z.length<=1000)->(l.map (·.length)).sum<=l.length*1000:=by
      intro l
      induction l with
      | nil=>simp
      | cons x l ih=>
       intro h;have h1:=h x AH;have h2:=ih λy hy=>h y (AE _ hy)
       simp only[A3,List.sum_cons,AN];omega
     exact this _ λz J=>(ZE (ai z (nm z J).1)).2.1
    have h3:(q_ "cap").length=3:=by decide +kernel
    have h2:blank.length=1:=rfl;simp only[A3,List.sum_cons,AN,h2,h3];omega
   ·refine q1 a b nms pt pn H14 _ gf ⟨ha,U,λz J=>ai z (nm z J).1,nl.1,nl.2⟩ (λz J=>(nm z J).1) (Iq.mpr ⟨nn,ak,λa ha b U e=>(nm a ha).2 (by rw[e];exact U)⟩) (by omega) a7 a4 kt (gJ.trans (Qd b3 _))
def qu (K:W.Frag)(H:Hp)(z:Str)(v:V):Prop:=∃p r,v=.ref p/\Kt K H p (.str z::r)
inductive XF (K)(x y z:V)(H)(Q:VK):Prop
 | mk (a pl:Addr) (c:Int) (vs:List V) (ts ns:List Str) (h1:x=.ref a) (h2:y=.ref pl) (h3:z=.int c) (h4:H a=some (.lst vs)) (h5:All2 (qu K H) ts vs) (h6:Kv K H pl (ns.map V.str)) (h7:∀z∈ns,Xv z) (h8':ns.length<=8) (h9:ts.length<=100)
   (q0:(∀z∈ns,z∈ts)->∀H',Same H H'->Q (.str (q_ "")) H')
   (q1:∀z p (q:Nat->Addr) H1 H',Same H H1->z∈ns->z∉ts->H1 p=some (.tup [.str z,.ref (q 0),.ref (q 1),.ref (q 2),.ref (q 3),.ref (q 4),.ref (q 5),.ref (q 6)])->(∀j<7,H (q j)=none/\H1 (q j)=some (.lst []))->(∀i<7,∀j<7,q i=q j->i=j)->Same (upd H1 a (.lst (vs++[.ref p]))) H'->Q (.str (Row.kind z).tx) H'):XF K x y z H Q
def rp (ts:List Str)(H:Hp)(i:Nat)(acc:List V)(σ':L2.St)(H':Hp):Prop:=∃x0,σ'=[x0]/\Same H H'/\acc=(ts.take i).map V.str
theorem d8 (T:Tx w K mg):LB P w K mg base 2 "_law_kind" ["_law_kinds","_law_pool_here","_law_cell_here"] (Sp3M (XF K)):=by
 refine QI T 108 ["_law_kinds","_law_pool_here","_law_cell_here","_law_there","_law_free","_law_title"] Wp λH Q dn hr h=>?_
 obtain⟨_,_,_,rfl,a,pl,c,vs,ts,ns,rfl,rfl,rfl,ha,hA,hP,ab,b3,ag,q0,q1⟩:=h;refine⟨_,(Qa (Ks 3 (Lz ["_law_one"] [none] (L0 K rfl (pu 0)) (Ky 0) QL (Ko K 0))) (Qa (Ji (i:=4) dn rfl (Or.inl rfl) (N:=["_law_one","_law_there"]) (caps:=[none,some 3]) rfl Rk (L0 K rfl (pu 1)) (λ_ _ _ _=>Wb (i:=0) (show(["_law_one","_law_there"]:List Str).Nodup by decide +kernel) rfl (Or.inl rfl) (.inr rfl)) (λ_ _ _ _=>Wa (ZY (XB K rfl) (pu 0) (pu 1) (by with_unfolding_all rfl))) (λ_ _ _ _=>(pu 0))) (Qa (Qn (Ku (WT K) (pu 4) (Qq QE)) (Qc (Qf Qi)) Qh) (Qa (Ks 5 (LD K (pu 4) (Qg Qp (Kn (aC T) (Kq (pu 2) Qe)) (Ln K T.aA (pu 4))))) (Qa (Qw (QA K rfl AL A0 A1 Qv (pu 0) (Km (Qz (QJ (pu 5) (QJ (Qq QE) (QJ (Qq QE) (oR (Qq QE) (Qq QE) (Qq QE) (Qq QE) (Qq QE))))))))) (Qc (Qf (Qg Qu Qi (pu 5))))))))),?_⟩;have ao:=hA.1;left;simp only[QX];left;refine⟨a,rfl,⟨_,G5 ha⟩,Zt (xs:=vs) (rp ts H) ⟨none,rfl,G7 _,rfl⟩ (λi acc σ' H' _ h=>by obtain⟨_,_,g',_⟩:=h;exact G5 (g' _ _ ha)) (by omega) ?_ ?_⟩
 ·rintro i v acc _ H3 hv a4 ⟨x0,rfl,g',rfl⟩;obtain⟨z,hz,p,r,rfl,hT⟩:=hA.getV hv;have ae:=g'.sqT hT;simp only[Zw];left;refine Zg ae (QZ (j:=0) rfl) ?_;exact CN.mk (Qt hv) (by rw[Aq,Av];omega) ⟨_,rfl,g',by rw[AX,hz,Az];rfl⟩
 ·rintro acc _ H2 ⟨x0,rfl,g,rfl⟩ pt hpt;rw[AJ (by omega)] at *;have ga:=g.trans (Qd hpt (.lst (ts.map V.str)));have kt:=Qb (H:=H2) (a:=pt) (o:=.lst (ts.map V.str));generalize upd H2 pt (.lst (ts.map V.str))=H3 at *;left;refine⟨pl,rfl,⟨_,ga.seq hP⟩,Zt (xs:=ns.map V.str) (rE ns ts pt H3) ⟨none,rfl,G7 _,rfl⟩ (λi acc σ' H' _ h=>by obtain⟨_,_,g',_⟩:=h;exact(ga.trans g').seq hP) (by rw[As];omega) ?_ ?_⟩
  ·rintro i v acc _ H3 hv a4 ⟨x0,rfl,g',rfl⟩;have a7:=Qt hv;rw[AS] at hv;obtain⟨z,hz,rfl⟩:=A8.mp hv;left;refine Z0 (G5 (g' _ _ kt)) ?_;left;refine Qo (λe=>?_) (λe=>?_)
   ·exact CN.mk a7 (by rw[Aq,Av];omega) ⟨_,rfl,g',by rw[Jm hz,Am e,Az];rfl⟩
   ·exact CN.mk a7 (by omega) ⟨_,rfl,g',by rw[Jm hz,An (Classical.not_not.mp e),Ie]⟩
  ·rintro acc _ H4 ⟨x0,rfl,g',rfl⟩ pf hpf;rw[AJ (by rw[As];exact Au _)] at *;have aa:∀z∈ns.filter λz=>decide (z∉ts),z∈ns/\z∉ts:=λz hz=>by
    obtain⟨h1,h2⟩:=Ik.mp hz;exact⟨h1,IB h2⟩
   have a9:(ns.filter λz=>decide (z∉ts))=[]->∀z∈ns,z∈ts:=λe z hz=>by
    by_cases h:z∈ts
    ·exact h
    ·have:z∈ns.filter λz=>decide (z∉ts):=Ik.mpr ⟨hz,A5 h⟩
     rw[e] at this;cases this
   generalize (ns.filter λz=>decide (z∉ts))=fr at *;have gb:=(ga.trans g').trans (Qd hpf (.lst (fr.map V.str)));have kf:=Qb (H:=H4) (a:=pf) (o:=.lst (fr.map V.str));generalize upd H4 pf (.lst (fr.map V.str))=H5 at *;left;refine⟨by decide,λp1 a5=>?_⟩;have gc:=gb.trans (Qd a5 (.lst []));have a0:=Qd a5 (.lst []) _ _ kf;refine Xe (G5 a0) (G5 Qb) ?_;generalize upd H5 p1 (.lst [])=H6 at *;left;refine Qo (λe=>q0 (a9 (by simpa using e)) _ gc) (λne=>?_);have af:0<fr.length:=by
    rcases Nat.eq_zero_or_pos fr.length with e|e
    ·rw[Gd e] at ne;exact absurd rfl ne
    ·exact e
   refine⟨c,0,rfl,rfl,by omega,λm H7 g7 m0 _=>?_⟩;have gd:=gc.trans g7;have a8:=G5 (K:=K) (g7 _ _ a0);left;rw[As];have d0:=AY m (show(fr.length:Int)≠0 by omega);have d1:=A6 m (show(0:Int)<fr.length by omega);obtain⟨k,hk⟩:=Iv d0;rw[hk];have a6:k<fr.length:=by omega
   refine⟨by omega,QO a8 (v:=.str fr[k]) (QZ (by rw[AS,Ax a6];rfl)) ?_⟩;obtain⟨z1,z2⟩:=aa _ (List.getElem_mem a6);generalize fr[k]=z at *;left;refine⟨.inl ⟨rfl,_,G5 (gd _ _ ha)⟩,by decide,λp0 h0=>?_⟩;have s0:=Qd h0 (.lst []);have k0:=Qb (H:=H7) (a:=p0) (o:=.lst []);generalize upd H7 p0 (.lst [])=J0 at *;refine⟨by decide,λp1 h1=>?_⟩;have s1:=Qd h1 (.lst []);have k1:=Qb (H:=J0) (a:=p1) (o:=.lst []);generalize upd J0 p1 (.lst [])=J1 at *;refine⟨by decide,λp2 h2=>?_⟩;have s2:=Qd h2 (.lst []);have k2:=Qb (H:=J1) (a:=p2) (o:=.lst []);generalize upd J1 p2 (.lst [])=J2 at *;refine⟨by decide,λp3 h3=>?_⟩;have J:=Qd h3 (.lst []);have k3:=Qb (H:=J2) (a:=p3) (o:=.lst []);generalize upd J2 p3 (.lst [])=J3 at *;refine⟨by decide,λp4 h4=>?_⟩;have U:=Qd h4 (.lst []);have k4:=Qb (H:=J3) (a:=p4) (o:=.lst []);generalize upd J3 p4 (.lst [])=J4 at *;refine⟨by decide,λp5 h5=>?_⟩;have s5:=Qd h5 (.lst []);have k5:=Qb (H:=J4) (a:=p5) (o:=.lst []);generalize upd J4 p5 (.lst [])=J5 at *;refine⟨by decide,λp6 h6=>?_⟩;have s6:=Qd h6 (.lst []);have k6:=Qb (H:=J5) (a:=p6) (o:=.lst []);generalize upd J5 p6 (.lst [])=J6 at *;refine⟨by decide,λp7 h7=>?_⟩;have s7:=Qd h7 (.tup [.str z,.ref p0,.ref p1,.ref p2,.ref p3,.ref p4,.ref p5,.ref p6]);have k7:=Qb (H:=J6) (a:=p7) (o:=.tup [.str z,.ref p0,.ref p1,.ref p2,.ref p3,.ref p4,.ref p5,.ref p6]);generalize upd J6 p7 (.tup [.str z,.ref p0,.ref p1,.ref p2,.ref p3,.ref p4,.ref p5,.ref p6])=J7 at *;have c0:J7 p0=some (.lst []):=(((((((s1).trans s2).trans J).trans U).trans s5).trans s6).trans s7) _ _ k0;have c1:J7 p1=some (.lst []):=((((((s2).trans J).trans U).trans s5).trans s6).trans s7) _ _ k1;have c2:J7 p2=some (.lst []):=(((((J).trans U).trans s5).trans s6).trans s7) _ _ k2;have c3:J7 p3=some (.lst []):=((((U).trans s5).trans s6).trans s7) _ _ k3;have c4:J7 p4=some (.lst []):=(((s5).trans s6).trans s7) _ _ k4;have c5:J7 p5=some (.lst []):=((s6).trans s7) _ _ k5;have c6:J7 p6=some (.lst []):=(s7) _ _ k6;have gz:Same H7 J7:=((((((s0.trans s1).trans s2).trans J).trans U).trans s5).trans s6).trans s7;have f0:H p0=none:=gd.free h0;have f1:H p1=none:=(gd.trans s0).free h1;have f2:H p2=none:=((gd.trans s0).trans s1).free h2;have f3:H p3=none:=(((gd.trans s0).trans s1).trans s2).free h3;have f4:H p4=none:=((((gd.trans s0).trans s1).trans s2).trans J).free h4;have f5:H p5=none:=(((((gd.trans s0).trans s1).trans s2).trans J).trans U).free h5;have f6:H p6=none:=((((((gd.trans s0).trans s1).trans s2).trans J).trans U).trans s5).free h6;have aj:p0≠p1:=Qj k0 h1;have ak:p0≠p2:=Qj ((s1) _ _ k0) h2;have bb:p0≠p3:=Qj (((s1).trans s2) _ _ k0) h3;have b5:p0≠p4:=Qj ((((s1).trans s2).trans J) _ _ k0) h4;have av:p0≠p5:=Qj (((((s1).trans s2).trans J).trans U) _ _ k0) h5;have ay:p0≠p6:=Qj ((((((s1).trans s2).trans J).trans U).trans s5) _ _ k0) h6;have bc:p1≠p2:=Qj k1 h2;have b2:p1≠p3:=Qj ((s2) _ _ k1) h3;have ah:p1≠p4:=Qj (((s2).trans J) _ _ k1) h4;have ai:p1≠p5:=Qj ((((s2).trans J).trans U) _ _ k1) h5;have aq:p1≠p6:=Qj (((((s2).trans J).trans U).trans s5) _ _ k1) h6;have ba:p2≠p3:=Qj k2 h3;have b4:p2≠p4:=Qj ((J) _ _ k2) h4;have ar:p2≠p5:=Qj (((J).trans U) _ _ k2) h5;have au:p2≠p6:=Qj ((((J).trans U).trans s5) _ _ k2) h6;have b1:p3≠p4:=Qj k3 h4;have b0:p3≠p5:=Qj ((U) _ _ k3) h5;have ax:p3≠p6:=Qj (((U).trans s5) _ _ k3) h6;have b6:p4≠p5:=Qj k4 h5;have aw:p4≠p6:=Qj ((s5) _ _ k4) h6;have az:p5≠p6:=Qj k5 h6;have ge:=gd.trans gz;have lz:=(ZE (ab z z1)).2.1;have lk:(Str.ofString "kind ").length=5:=by decide +kernel
   refine⟨a,_,_,rfl,rfl,ge _ _ ha,by rw[AB];omega,by rw[AB];omega,?_⟩;have e:(Row.kind z).tx=Str.ofString "kind "++z:=by
    show Txt.join blank [q_ "kind",z]=_;rw[qa,show Str.ofString "kind "=q_ "kind"++blank by decide +kernel]
   rw [<-e];refine q1 z p7 (fun j=>match j with | 0=>p0 | 1=>p1 | 2=>p2 | 3=>p3 | 4=>p4 | 5=>p5 | _=>p6) J7 _ ge z1 z2 k7 (fun j hj=>?_) (fun i hi j hj e=>?_) (G7 _)
   ·rcases(show j=0∨j=1∨j=2∨j=3∨j=4∨j=5∨j=6 by omega) with rfl|rfl|rfl|rfl|rfl|rfl|rfl
    ·exact⟨f0,c0⟩
    ·exact⟨f1,c1⟩
    ·exact⟨f2,c2⟩
    ·exact⟨f3,c3⟩
    ·exact⟨f4,c4⟩
    ·exact⟨f5,c5⟩
    ·exact⟨f6,c6⟩
   ·rcases(show i=0∨i=1∨i=2∨i=3∨i=4∨i=5∨i=6 by omega) with rfl|rfl|rfl|rfl|rfl|rfl|rfl<;>rcases(show j=0∨j=1∨j=2∨j=3∨j=4∨j=5∨j=6 by omega) with rfl|rfl|rfl|rfl|rfl|rfl|rfl<;>first|rfl|exact absurd e (by assumption)|exact absurd e.symm (by assumption)
theorem Wh {α}[DecidableEq α]:∀{l m:List α},l.Nodup->(∀x∈l,x∈m)->l.length<=m.length
 | [],_,_,_=>AZ _
 | x::l,m,h,s=>by
  have J:=s x AH;have h2:=II.mp h;have ih:=Wh (l:=l) (m:=m.erase x) h2.2 fun y U=>(List.mem_erase_of_ne (fun e:y=x=>h2.1 (by rw [<-e];exact U))).mpr (s y (AE _ U))
  rw[List.length_erase_of_mem J] at ih;have:=List.length_pos_of_mem J;rw[AN];omega
theorem Y8:∀{rs}{ks}{cs}{as}{row},run ks cs as (rs++[row])=(kS (run ks cs as rs).1 row,cS (run ks cs as rs).2.1 row,aS (run ks cs as rs).2.2 row)
 | [],_,_,_,_=>rfl
 | r::rs,ks,cs,as,row=>by
  show run (kS ks r) (cS cs r) (aS as r) (rs++[row])=_;rw[Y8];rfl
theorem Wt:∀{rs}{ks}{cs}{row}(as),TZ ks cs rs->row.Ok->KH (run ks cs as rs).1 (run ks cs as rs).2.1 row->TZ ks cs (rs++[row])
 | [],_,_,_,_,_,ok,fi=>⟨ok,fi,trivial⟩
 | r::rs,ks,cs,row,as,h,ok,fi=>⟨h.1,h.2.1,Wt (aS as r) h.2.2 ok fi⟩
structure RI (ns:List Str)(rs:List Row)(ks:List (Str×List Itm))(cs:List Cp)(as:List Str):Prop where
 acc:TZ [] [] rs
 run:run [] [] [] rs=(ks,cs,as)
 ain:∀z∈as,z∈ns
 sml:Sml rs.length ks cs as
 tin:∀k∈ks,k.1∈ns
 tnd:(ks.map (·.1)).Nodup
 ok:∀k∈ks,∀y∈k.2,y.Ok
 fnd:(XR cs).Nodup
 c4:cs.length<=4
theorem RI.start (ns):RI ns [] [] [] []:=⟨trivial,rfl,(λz h=>by cases h),⟨Au _,Au _,Au _,(λk h=>by cases h),λk h=>by cases h⟩,(λz h=>by cases h),qT,(λz h=>by cases h),qT,by decide⟩
theorem RI.kind (h:RI ns rs ks cs as){z}(hn:ns.length<=8)(hok:Xv z)(hz:z∈ns)(hz':z∉ks.map (·.1)):RI ns (rs++[.kind z]) (ks++[(z,[])]) cs as:=by
 have nd:(ks.map (·.1)++[z]).Nodup:=Iq.mpr ⟨h.tnd,by simp,fun a ha b hb e=>hz' (by rw [AA.mp hb] at e;rw [<-e];exact ha)⟩;have sub:∀ x∈ks.map (·.1)++[z],x∈ns:=fun x U=>by
  rcases AK.mp U with U|U
  ·obtain⟨k,J,rfl⟩:=Ii.mp U;exact h.tin k J
  ·rw[AA.mp U];exact hz
 have le:=Wh nd sub;rw[Aq,As,Av] at le;have e:=h.run;have fi:KH ks cs (.kind z):=⟨by omega,hz'⟩
 refine⟨Wt [] h.acc hok (by rw[e];exact fi),by rw[Y8,e];rfl,h.ain,?_,λk J=>?_,by rw[Az];exact nd,λk J=>?_,h.fnd,h.c4⟩
 ·rw[Aq];exact h.sml.step (row:=.kind z) hok
 ·rcases AK.mp J with J|J
  ·exact h.tin k J
  ·rw[AA.mp J];exact hz
 ·rcases AK.mp J with J|J
  ·exact h.ok k J
  ·rw[AA.mp J];intro y hy;cases hy
theorem RI.cap (h:RI ns rs ks cs as){a b:Int}{nms}(hok:(Row.cap a b nms).Ok)(hin:∀z∈nms,z∈ns)(nd:(nms++XR cs).Nodup)(h4:cs.length<4):RI ns (rs++[.cap a b nms]) ks (cs++[(a,b,nms)]) (as++nms):=by
 have e:=h.run;have fi:KH ks cs (.cap a b nms):=⟨h4,nd⟩
 refine⟨Wt [] h.acc hok (by rw[e];exact fi),by rw[Y8,e];rfl,λz J=>?_,?_,h.tin,h.tnd,h.ok,?_,by rw[Aq,Av];omega⟩
 ·rcases AK.mp J with J|J
  ·exact h.ain z J
  ·exact hin z J
 ·rw[Aq];exact h.sml.step (row:=.cap a b nms) hok
 ·have:XR (cs++[(a,b,nms)])=XR cs++nms:=by unfold XR;rw[Az,IC];simp
  rw[this];obtain⟨h1,h2,U⟩:=Iq.mp nd;exact Iq.mpr ⟨h2,h1,λa ha b hb e=>U b hb a ha e.symm⟩
theorem RI.itm {xs}(h:RI ns rs (ks0++[(z,xs)]) cs as){x}(hok:x.Ok)(fi:X2 xs x)(hin:∀z r s,x=.cnt z r s->z∈ns):RI ns (rs++[.itm x]) (ks0++[(z,xs++[x])]) cs (aS as (.itm x)):=by
 have e:=h.run;have a0:KH (ks0++[(z,xs)]) cs (.itm x):=⟨ks0,z,xs,rfl,fi⟩
 have ek:kS (ks0++[(z,xs)]) (.itm x)=ks0++[(z,xs++[x])]:=Xk;refine⟨Wt [] h.acc hok (by rw[e];exact a0),by rw[Y8,e];show(kS (ks0++[(z,xs)]) (.itm x),cs,aS as (.itm x))=_;rw[ek],λy J=>?_,?_,λk U=>?_,?_,λk U y J=>?_,h.fnd,h.c4⟩
 ·cases x with
  | cnt z2 r s=>
   rcases AK.mp (show y∈as++[z2] from J) with J|J
   ·exact h.ain y J
   ·rw[AA.mp J];exact hin z2 r s rfl
  | _=>exact h.ain y J
 ·have:=h.sml.step (row:=.itm x) hok;rw[ek] at this;rw[Aq];exact this
 ·rcases AK.mp U with U|U
  ·exact h.tin k (Im _ U)
  ·rw[AA.mp U];exact h.tin (z,xs) (by simp)
 ·have:=h.tnd;rw[Az] at this ⊢;exact this
 ·rcases AK.mp U with U|U
  ·exact h.ok k (Im _ U) y J
  ·rw[AA.mp U] at J;rcases AK.mp (show y∈xs++[x] from J) with J|J
   ·exact h.ok (z,xs) (by simp) y J
   ·rw[AA.mp J];exact hok
structure LwS (K:W.Frag)(N:Addr->Prop)(ow:Addr->Nat)(H:Hp)(a c:Addr)(ps:List Addr)(qs:Nat->Nat->Addr)(cvs:List V)(bs:List (Nat×Addr×List V))(ks:List (Str×List Itm))(cs:List Cp):Prop where
 ha:H a=some (.lst (ps.map V.ref))
 hc:H c=some (.lst cvs)
 na:N a
 nc:N c
 dl:ps.length=ks.length
 dr:∀(i:Nat) p k,ps[i]?=some p->ks[i]?=some k->KL K H p k.1 k.2 (qs i)
 nq:∀i<ks.length,∀j<7,N (qs i j)
 cr:All2 (CL K (λl=>ow l=3) H) cs cvs
 oa:ow a=0
 oc:ow c=1
 oq:∀i<ks.length,∀j<7,ow (qs i j)=10+7*i+j
 hb:∀e∈bs,H e.2.1=some (.lst e.2.2)/\ow e.2.1=e.1/\4<=e.1/\e.1<10
theorem LwS.mono {a c}{ps}{bs}(g:Same H H')(S:LwS K N ow H a c ps qs cvs bs ks cs):LwS K N ow H' a c ps qs cvs bs ks cs:=
 ⟨g _ _ S.ha,g _ _ S.hc,S.na,S.nc,S.dl,λi p k hp J=>(S.dr i p k hp J).mono g,S.nq,WN (.of g) S.cr,S.oa,S.oc,S.oq,λe he=>⟨g _ _ (S.hb e he).1,(S.hb e he).2⟩⟩
theorem LwS.lst_q {a c}{ps}{bs}(S:LwS K N ow H a c ps qs cvs bs ks cs){i j:Nat}(hi:i<ks.length)(hj:j<7):∃vs,H (qs i j)=some (.lst vs):=by
 obtain⟨vs,h,_⟩:=(S.dr i ps[i]! ks[i] (by rw[List.getElem!_eq_getElem?_getD,Ax (by rw[S.dl];exact hi)];rfl) (Ax hi)).hq j hj;exact⟨vs,h⟩
theorem Md (h:All2 (CL K N H) cs vs)(hn:∀l us,H l=some (.lst us)->N l->N' l):All2 (CL K N' H) cs vs:=⟨h.1,λi a b J U=>by
 obtain⟨p,l,e,h1,h2,n⟩:=h.2 i a b J U;exact⟨p,l,e,h1,h2,hn _ _ h2 n⟩⟩
theorem LwS.reown {a c}{ps}{bs}{ow'}(S:LwS K N ow H a c ps qs cvs bs ks cs)(h:∀b vs,H b=some (.lst vs)->ow' b=ow b):LwS K N ow' H a c ps qs cvs bs ks cs:=
 ⟨S.ha,S.hc,S.na,S.nc,S.dl,S.dr,S.nq,Md S.cr λl us e n=>by rw[h _ _ e];exact n,by rw[h _ _ S.ha];exact S.oa,by rw[h _ _ S.hc];exact S.oc,λi hi j J=>by
  obtain⟨vs,e⟩:=S.lst_q hi J;rw[h _ _ e];exact S.oq i hi j J,λe he=>⟨(S.hb e he).1,by rw[h _ _ (S.hb e he).1];exact(S.hb e he).2.1,(S.hb e he).2.2⟩⟩
theorem LwS.upK {a c}{ps}{bs}(S:LwS K N ow H a c ps qs cvs bs ks cs){p}{z}{q}(hD:KL K H p z [] q)(hq:∀j<7,N (q j)/\ow (q j)=10+7*ks.length+j):LwS K N ow (upd H a (.lst (ps.map V.ref++[.ref p]))) a c (ps++[p]) (λi=>if i=ks.length then q else qs i) cvs bs (ks++[(z,[])]) cs:=by
 have a0:=S.dl;have oa:=S.oa;have oc:=S.oc;have kc:Kp (λl=>ow l=3) H (upd H a (.lst (ps.map V.ref++[.ref p]))):=Q3 S.ha λb hb=>QP ow (by rw[hb,oa];decide)
 refine⟨by rw[Qb,Az];rfl,by rw[Qk (QP ow (by rw[oa,oc];decide))];exact S.hc,S.na,S.nc,by rw[Aq,Aq,a0];rfl,λi p' k U hk=>?_,λi hi j J=>?_,WN kc S.cr,oa,oc,λi hi j J=>?_,λe he=>?_⟩
 ·have hi:i<(ks++[(z,([]:List Itm))]).length:=(AU.mp hk).1;rw[Aq,Av] at hi;by_cases e:i=ks.length
  ·subst e;rw [<-a0,Ib (Au _),Ih] at U;rw [Ib (Au _),Ih] at hk;cases U;cases hk;simp only [if_true];exact hD.upd S.ha fun j J=>QP ow (by rw [(hq j J).2,oa];omega)
  ·rw[A7 (by omega)] at U hk;simp only[Am e];exact(S.dr i p' k U hk).upd S.ha λj J=>QP ow (by rw[S.oq i (by omega) j J,oa];omega)
 ·rw[Aq,Av] at hi;by_cases e:i=ks.length
  ·subst e;simp only[if_true];exact(hq j J).1
  ·simp only[Am e];exact S.nq i (by omega) j J
 ·rw[Aq,Av] at hi;by_cases e:i=ks.length
  ·subst e;simp only[if_true];exact(hq j J).2
  ·simp only[Am e];exact S.oq i (by omega) j J
 ·obtain⟨h1,h2,h3,h4⟩:=S.hb e he;exact⟨by rw[Qk (QP ow (by rw[h2,oa];omega))];exact h1,h2,h3,h4⟩
theorem LwS.upC {a c}{ps}{bs}(S:LwS K N ow H a c ps qs cvs bs ks cs){cp}{v}(hc:CL K (λl=>ow l=3) H cp v):LwS K N ow (upd H c (.lst (cvs++[v]))) a c ps qs (cvs++[v]) bs ks (cs++[cp]):=by
 have oa:=S.oa;have oc:=S.oc;have kc:Kp (λl=>ow l=3) H (upd H c (.lst (cvs++[v]))):=Q3 S.hc λb hb=>QP ow (by rw[hb,oc];decide)
 refine⟨by rw[Qk (QP ow (by rw[oa,oc];decide))];exact S.ha,Qb,S.na,S.nc,S.dl,λi p k hp U=>(S.dr i p k hp U).upd S.hc λj hj=>QP ow (by rw[S.oq i (AU.mp U).1 j hj,oc];omega),S.nq,?_,oa,oc,S.oq,λe he=>?_⟩
 ·have h:=WN kc S.cr;have hl:=h.1;refine⟨by rw[Aq,Aq,hl];rfl,λi a b ha hb=>?_⟩;by_cases hi:i<cvs.length
  ·rw[A7 (by omega)] at ha;rw[A7 hi] at hb;exact h.2 i a b ha hb
  ·have J:i<(cvs++[v]).length:=(AU.mp hb).1;rw[Aq,Av] at J;have:i=cvs.length:=by omega
   subst this;rw[Ib (by omega),hl,Ih] at ha;rw[Ib (Au _),Ih] at hb;cases ha;cases hb;exact hc.kp kc
 ·obtain⟨h1,h2,h3,h4⟩:=S.hb e he;exact⟨by rw[Qk (QP ow (by rw[h2,oc];omega))];exact h1,h2,h3,h4⟩
theorem LwS.upX {a c}{ps}{bs}{xs}(S:LwS K N ow H a c ps qs cvs bs (ks0++[(z,xs)]) cs){x}{v}{vs}(hv:H (qs ks0.length x.sl)=some (.lst vs))(hx:LIt K H x v):LwS K N ow (upd H (qs ks0.length x.sl) (.lst (vs++[v]))) a c ps qs cvs bs (ks0++[(z,xs++[x])]) cs:=by
 have oa:=S.oa;have oc:=S.oc;have J:∀y:List Itm,(ks0++[(z,y)]).length=ks0.length+1:=λy=>by rw[Aq];rfl
 have oq:ow (qs ks0.length x.sl)=10+7*ks0.length+x.sl:=S.oq _ (by rw[J];omega) _ (Xn x);have kc:Kp (λl=>ow l=3) H (upd H (qs ks0.length x.sl) (.lst (vs++[v]))):=Q3 hv λb hb=>QP ow (by rw[hb,oq];omega)
 refine⟨by rw[Qk (QP ow (by rw[oa,oq];omega))];exact S.ha,by rw[Qk (QP ow (by rw[oc,oq];omega))];exact S.hc,S.na,S.nc,by rw[S.dl,J,J],λi p k hp hk=>?_,λi hi j U=>S.nq i (by rw[J] at *;exact hi) j U,WN kc S.cr,oa,oc,λi hi j U=>S.oq i (by rw[J] at *;exact hi) j U,λe he=>?_⟩
 ·have hi:=(AU.mp hk).1;rw[J] at hi;by_cases e:i=ks0.length
  ·subst e;have hD:=S.dr ks0.length p (z,xs) hp (by simp);have ek:k=(z,xs++[x]):=by simpa using hk.symm
   subst ek;exact hD.add hv (GS λj U=>S.oq _ (by rw[J];omega) j U) hx
  ·rw[A7 (by omega)] at hk;refine(S.dr i p k hp (by rw[A7 (by omega)];exact hk)).upd hv λj U=>QP ow ?_
   rw[S.oq i (by rw[J];omega) j U,oq];have:=Xn x;omega
 ·obtain⟨h1,h2,h3,h4⟩:=S.hb e he;exact⟨by rw[Qk (QP ow (by rw[h2,oq];omega))];exact h1,h2,h3,h4⟩
theorem LwS.upB {a c}{ps}{bs}{r}{ws}(S:LwS K N ow H a c ps qs cvs ((n,r,vs)::bs) ks cs)(hn:∀e∈bs,e.1≠n):LwS K N ow (upd H r (.lst ws)) a c ps qs cvs ((n,r,ws)::bs) ks cs:=by
 have oa:=S.oa;have oc:=S.oc;obtain⟨U,o,n4,J⟩:=S.hb _ AH;have U:H r=some (.lst vs):=U;have o:ow r=n:=o;have n4:4<=n:=n4;have J:n<10:=J;have kc:Kp (λl=>ow l=3) H (upd H r (.lst ws)):=Q3 U λb hb=>QP ow (by rw[hb,o];omega)
 refine⟨by rw[Qk (QP ow (by rw[oa,o];omega))];exact S.ha,by rw[Qk (QP ow (by rw[oc,o];omega))];exact S.hc,S.na,S.nc,S.dl,λi p k hp hk=>(S.dr i p k hp hk).upd U λj hj=>QP ow (by rw[S.oq i (AU.mp hk).1 j hj,o];omega),S.nq,WN kc S.cr,oa,oc,S.oq,λe he=>?_⟩;rcases AF.mp he with rfl|he
 ·exact⟨Qb,o,n4,J⟩
 ·obtain⟨h1,h2,h3,h4⟩:=S.hb e (AE _ he);exact⟨by rw[Qk (QP ow (by rw[h2,o];exact hn e he))];exact h1,h2,h3,h4⟩
theorem LwS.addB {a c}{ps}{bs}{r}(S:LwS K N ow H a c ps qs cvs bs ks cs)(h0:H r=none)(g:Same H H')(hr:H' r=some (.lst vs))(n4:4<=n)(n10:n<10):LwS K N (λb=>if b=r then n else ow b) H' a c ps qs cvs ((n,r,vs)::bs) ks cs:=by
 have J:=(S.reown (ow':=λb=>if b=r then n else ow b) λb us hb=>Am (Qj hb h0)).mono g;refine⟨J.ha,J.hc,J.na,J.nc,J.dl,J.dr,J.nq,J.cr,J.oa,J.oc,J.oq,λe he=>?_⟩;rcases AF.mp he with rfl|he
 ·exact⟨hr,An rfl,n4,n10⟩
 ·exact J.hb e he
def lg (K:W.Frag)(N:Addr->Prop)(H:Hp)(a c:Addr)(bs:List (Nat×Addr×List V))(ks:List (Str×List Itm))(cs:List Cp):Prop:=∃ow ps qs cvs,LwS K N ow H a c ps qs cvs bs ks cs
theorem LwS.ti {a c}{ps}{bs}(S:LwS K N ow H a c ps qs cvs bs ks cs):All2 (qu K H) (ks.map (·.1)) (ps.map V.ref):=⟨by rw[As,As,S.dl],λi z v U J=>by
 rw[AS] at U J;obtain⟨k,hk,rfl⟩:=A8.mp U;obtain⟨p,hp,rfl⟩:=A8.mp J;exact⟨p,_,rfl,G6 (S.dr i p k hp hk).hp⟩⟩
theorem Dz {row:Row}(ok:row.Ok):row.tx≠q_ "":=λe=>by
 have h:=V9 ok;rw[e] at h;have h2:Txt.split (q_ "") blank=[q_ ""]:=by decide +kernel
 rw[h2] at h;have:row.ws≠[]:=by
  cases row with
  | kind z=>simp[Row.ws]
  | cap a b ns=>simp[Row.ws]
  | itm x=>cases x<;>simp[Row.ws,Itm.ws]
 exact this (List.cons.inj h).2.symm
abbrev LF (rs:List Row):List V:=rs.map λr=>.str r.tx
inductive V3 (K)(x y z u:V)(H)(Q:VK):Prop
 | mk (N:Addr->Prop) (d pl a c:Addr) (cl:List Int) (ns:List Str) (h1:x=.ref d) (h2:y=.ref pl) (h3:z=.ref a) (h4:u=.ref c) (h5:lg K N H a c [(5,d,cl.map V.int),(4,pl,ns.map V.str)] [] []) (hN:∀b,H b=none->N b) (h6:cl.length<=60) (h7:∀z∈ns,Xv z) (h8:ns.Nodup) (h9:1<=ns.length/\ns.length<=8)
   (q:∀r rs ks cs as H',Sn N H H'->(∀b,H' b=none->N b)->lg K N H' a c [(6,r,LF rs),(5,d,cl.map V.int),(4,pl,ns.map V.str)] ks cs->RI ns rs ks cs as->rs.length<=60->N r->Q (.ref r) H'):V3 K x y z u H Q
def pB (K:W.Frag)(N:Addr->Prop)(d pl a c r:Addr)(cl:List Int)(ns:List Str)(H:Hp)(i:Nat)(σ':L2.St)(H':Hp):Prop:=∃x5 x6 rs ks cs as,σ'=[some (.ref d),some (.ref pl),some (.ref a),some (.ref c),some (.ref r),x5,x6]/\Sn N H H'/\(∀b,H' b=none->N b)/\lg K N H' a c [(6,r,LF rs),(5,d,cl.map V.int),(4,pl,ns.map V.str)] ks cs/\RI ns rs ks cs as/\rs.length<=i
theorem none_of (h:∀b,H b=none->N b)(g:Same H H'):∀b,H' b=none->N b:=λb hb=>h b (g.free hb)
theorem Z5 {c}(h:∀b,H b=none->N b):∀b,upd H c o b=none->N b:=λb hb=>by
 by_cases e:b=c
 ·rw[e,Qb] at hb;cases hb
 ·rw[Qk e] at hb;exact h b hb
theorem iE (T:Tx w K mg):LB P w K mg base 6 "_law_rows" ["_law_cells","_law_pool_here","_law_kinds","_law_caps"] (Sp4M (V3 K)):=by
 refine QI T 109 ["_law_cells","_law_pool_here","_law_kinds","_law_caps","_law_rows_here","_law_cell_here","_law_row"] G4 λH Q dn hr h=>?_
 obtain⟨_,_,_,_,rfl,N,d,pl,a,c,cl,ns,rfl,rfl,rfl,rfl,⟨ow,ps,qs,cvs,S⟩,hN,b2,a4,nd,af,q⟩:=h;refine⟨_,(Qa (Ks 4 (Qq QE)) (Qa (Lx (L0 K rfl (pu 0)) (Ky 5) (Qa (Qn (Ku (QR K) (Qg Qp (pu 5) Qe) Qe) (Qc (Ks 6 (Kn (iD T) (Lu (pu 3) (pu 1) (Qg QB (pu 5) Qe))))) (Qc (Qn (PW.pt (Xo (Ku (WT K) (pu 2) (Qq QE)) (Z9 (Ku (QR K) (Qg Qp (pu 5) Qe) Qe)))) (Qc (Ks 6 (Kn (d8 T) (Lu (pu 2) (pu 1) (Qg QB (pu 5) Qe))))) (Qc (Ks 6 (Kn (iC T) (Lu (LD K (pu 2) OC) (pu 1) (Qg QB (pu 5) Qe)))))))) (Qc (Qn (Ku (WZ K) (pu 6) Qi) (Qc (Qw (QA K rfl AL A0 A1 Qv (pu 4) (Km (pu 6))))) Qh)))) (Qc (Qf (pu 4))))),?_⟩;left;refine⟨by decide,λr hr=>?_⟩;have g1:=Qd hr (.lst []);have k1:=Qb (H:=H) (a:=r) (o:=.lst []);have S1:=S.addB (n:=6) hr g1 k1 (by decide) (by decide);generalize upd H r (.lst [])=H1 at *;have hd:∀{H':Hp} {rs:List Row} {ks:List (Str×List Itm)} {cs:List Cp},lg K N H' a c [(6,r,LF rs),(5,d,cl.map V.int),(4,pl,ns.map V.str)] ks cs->Kv K H' d (cl.map V.int):=λ⟨_,_,_,_,T⟩=>G5 (T.hb (5,d,cl.map V.int) (by simp)).1
 refine⟨d,rfl,⟨_,G5 (S1.hb (5,d,cl.map V.int) (by simp)).1⟩,Z6 (xs:=cl.map V.int) (pB K N d pl a c r cl ns H) ⟨none,none,[],[],[],[],rfl,.of g1,none_of hN g1,⟨_,_,_,_,S1⟩,RI.start ns,Au _⟩ (λi σ' H' _ h=>by obtain⟨_,_,_,_,_,_,_,_,_,T,_⟩:=h;exact hd T) ?_ ?_⟩
 ·rintro i v _ H2 hv ⟨x5,x6,rs,ks,cs,as,rfl,sn,hN2,T,ri,len⟩;rw[AS] at hv;obtain⟨m,hm,rfl⟩:=A8.mp hv;have hi:i<60:=by have:=(AU.mp hm).1;omega
  generalize hR:Jv (uB (OK (sNe K) (Zp 6) _)) _ _=R;have a0:∀(D:QY) (H3:Hp),D.nx=pB K N d pl a c r cl ns H (i+1)->Same H2 H3->R D [some (.ref d),some (.ref pl),some (.ref a),some (.ref c),some (.ref r),some (.int m),some (.str (q_ ""))] H3:=by
   subst hR;intro D H3 hD g;left;rw[hD];obtain⟨U,ag,ai,a6,J⟩:=T;exact⟨_,_,rs,ks,cs,as,rfl,sn.trans (.of g),none_of hN2 g,⟨_,_,_,_,J.mono g⟩,ri,by omega⟩
  have a5:∀(D:QY) (row:Row) (a7:List (Str×List Itm)) (a9:List Cp) (ak:List Str) (H3:Hp),D.nx=pB K N d pl a c r cl ns H (i+1)->row.Ok->Sn N H H3->(∀b,H3 b=none->N b)->lg K N H3 a c [(6,r,LF rs),(5,d,cl.map V.int),(4,pl,ns.map V.str)] a7 a9->RI ns (rs++[row]) a7 a9 ak->R D [some (.ref d),some (.ref pl),some (.ref a),some (.ref c),some (.ref r),some (.int m),some (.str row.tx)] H3:=by
   subst hR;intro D row a7 a9 ak H3 hD ok aw ae ⟨U,ag,ai,a6,J⟩ ri2;left;refine Qo (λ_=>?_) (λe=>absurd (Classical.not_not.mp e) (Dz ok));have ar:H3 r=some (.lst (LF rs)):=(J.hb (6,r,LF rs) (by simp)).1;have nr:N r:=hN r hr;refine⟨.inl ⟨rfl,_,G5 ar⟩,r,_,_,rfl,rfl,ar,by rw[As,AB];omega,?_⟩;rw[hD];have S3:=J.upB (ws:=LF rs++[.str row.tx]) (by simp);rw[show LF rs++[.str row.tx]=LF (rs++[row]) by simp[LF]] at *;exact⟨_,_,rs++[row],a7,a9,ak,rfl,aw.trans (Sn.put nr),Z5 ae,⟨_,_,_,_,S3⟩,ri2,by rw[Aq,Av];omega⟩
  obtain⟨U,ag,ai,a6,J⟩:=id T;have aj:H2 pl=some (.lst (ns.map V.str)):=(J.hb (4,pl,ns.map V.str) (by simp)).1;have ax:U pl=4:=(J.hb (4,pl,ns.map V.str) (by simp)).2.1;have aa:=J.dl;have a8:CDivB 7:=⟨by decide,(Ll (m:=60) (by decide) (by decide)).mono (by decide)⟩
  have aq:∀(D:QY) (H3:Hp),D.nx=pB K N d pl a c r cl ns H (i+1)->Same H2 H3->XF K (.ref a) (.ref pl) (.int (m.fdiv 7)) H3 λx H1=>R D [some (.ref d),some (.ref pl),some (.ref a),some (.ref c),some (.ref r),some (.int m),some x] H1:=λD H3 hD g=>by
   have S3:=J.mono g;have ae:=none_of hN2 g;refine ⟨a,pl,_,_,ks.map (·.1),ns,rfl,rfl,rfl,S3.ha,S3.ti,G5 (g _ _ aj),a4,af.2,by rw [As];have:=ri.sml.k;omega,fun _ H4 g4=>a0 _ _ hD (g.trans g4),fun z p q' H4 H5 g4 z1 z2 hp hq av g5=>?_⟩;obtain ⟨ow',w1,w2⟩:=GE U q' (10+7*ks.length) av;have S4:=(((S3.reown (ow':=ow') fun b vs hb=>w2 b fun j hj e=>by rw [<-e,(hq j hj).1] at hb;cases hb).mono g4).upK ⟨hp,fun j hj=>⟨[],(hq j hj).2,Q5⟩⟩ fun j hj=>⟨ae _ (hq j hj).1,w1 j hj⟩).mono g5;exact a5 _ (.kind z) (ks++[(z,[])]) cs as H5 hD (a4 z z1) (sn.trans ((Sn.of (g.trans g4)).trans ((Sn.put J.na).trans (.of g5)))) (none_of (Z5 (none_of ae g4)) g5) ⟨_,_,_,_,S4⟩ (ri.kind af.2 (a4 z z1) z1 z2)
  left;refine⟨trivial,Qo (λ_=>?_) (λ_=>?_)⟩
  ·refine⟨a8,c,pl,_,a6,cs,ns,λl=>U l=3,rfl,rfl,rfl,J.hc,J.cr,G5 aj,a4,nd,af.2,ri.c4,ri.sml.m,ri.fnd,λH3 g=>a0 _ _ rfl g,λx y ab p l H3 H4 g ok ah b0 lt l0 hl hp g4=>?_⟩;have S4:=(((J.reown (ow':=λb=>if b=l then 3 else U b) λb vs hb=>Am (Qj hb l0)).mono g).upC (cp:=(x,y,ab)) (v:=.ref p) ⟨p,l,rfl,hp,hl,An rfl⟩).mono g4;exact a5 _ (.cap x y ab) ks (cs++[(x,y,ab)]) (as++ab) H4 rfl ok (sn.trans ((Sn.of g).trans ((Sn.put J.nc).trans (.of g4)))) (none_of (Z5 (none_of hN2 g)) g4) ⟨_,_,_,_,S4⟩ (ri.cap ok ah b0 lt)
  ·refine⟨by decide,λp1 b1=>?_⟩;have gE:=Qd b1 (.lst []);refine Xe (G5 (gE _ _ J.ha)) (G5 Qb) ?_;generalize upd H2 p1 (.lst [])=H3 at *;left;refine Qo (λ_=>⟨a8,aq _ _ rfl gE⟩) (λne=>⟨trivial,Qo (λ_=>⟨a8,aq _ _ rfl gE⟩) (λ_=>?_)⟩);rcases List.eq_nil_or_concat ks with e|⟨ks0,⟨z,xs⟩,e⟩
   ·rw[e] at aa;rw[Gd aa] at ne;exact absurd rfl ne
   rw[List.concat_eq_append] at e;subst e;rcases List.eq_nil_or_concat ag with e|⟨ps0,p,e⟩
   ·subst e;simp at aa
   rw[List.concat_eq_append] at e;subst e;rw[Aq,Aq,Av,Av] at aa;have az:ps0.length=ks0.length:=by omega
   have S3:=J.mono gE;have hK:=S3.dr ks0.length p (z,xs) (by rw [<-az];simp) (by simp);have ao:=G5 (K:=K) S3.ha;rw [Az] at ao;have au:ks0.length<(ks0++[(z,xs)]).length:=by rw [Aq];exact IF _
   have oq:=J.oq ks0.length au;refine QO ao (Q4 _ _) ⟨a8,p,pl,_,z,xs,ai ks0.length,ns,rfl,rfl,rfl,hK,GS oq,G5 (gE _ _ aj),λj hj=>QP U (by rw[oq j hj,ax];omega),a4,af,ri.ok (z,xs) (by simp),?_,λH4 g4=>a0 _ _ rfl (gE.trans g4),λx v vs H4 H5 g4 ok fi ah hv ay g5=>?_⟩
   ·have:xs.length<=rs.length:=ri.sml.x (z,xs) (by simp);omega
   ·have S4:=((S3.mono g4).upX hv ay).mono g5;exact a5 _ (.itm x) (ks0++[(z,xs++[x])]) cs (aS as (.itm x)) H5 rfl ok (sn.trans ((Sn.of (gE.trans g4)).trans ((Sn.put (J.nq ks0.length au x.sl (Xn x))).trans (.of g5)))) (none_of (Z5 (none_of hN2 (gE.trans g4))) g5) ⟨_,_,_,_,S4⟩ (ri.itm ok fi ah)
 ·rintro _ H2 ⟨x5,x6,rs,ks,cs,as,rfl,sn,hN2,T,ri,len⟩;left;rw[As] at len;exact q r rs ks cs as _ sn hN2 T ri (by omega) (hN r hr)
theorem MJ [DecidableEq α]{l m:List α}(h:l.Nodup)(s:∀x∈l,x∈m)(hl:m.length<=l.length):∀x∈m,x∈l:=λx U=>by
 by_cases e:x∈l
 ·exact e
 ·have:=Wh (l:=x::l) (m:=m) (II.mpr ⟨e,h⟩) λy J=>by
   rcases AF.mp J with rfl|J
   ·exact U
   ·exact s y J
  rw[AN] at this;omega
inductive Wy (K)(x y z u:V)(H)(Q:VK):Prop
 | mk (N:Addr->Prop) (r pl a c d:Addr) (n:Int) (dv:List V) (rs:List Row) (ns:List Str) (ks:List (Str×List Itm)) (cs:List Cp) (as:List Str) (h1:x=.ref r) (h2:y=.ref pl) (h3:z=.ref a) (h4:u=.int n) (h5:lg K N H a c [(6,r,LF rs),(5,d,dv),(4,pl,ns.map V.str)] ks cs) (hN:∀b,H b=none->N b) (nr:N r) (h6:RI ns rs ks cs as) (h7:∀z∈ns,Xv z) (h8:ns.Nodup) (h9:1<=ns.length/\ns.length<=8) (h10:rs.length<=60)
   (q:∀rs ks cs as H',Sn N H H'->(∀b,H' b=none->N b)->lg K N H' a c [(6,r,LF rs),(5,d,dv),(4,pl,ns.map V.str)] ks cs->RI ns rs ks cs as->(∀z∈ns,z∈ks.map (·.1))->rs.length<=76->Q (.ref r) H'):Wy K x y z u H Q
def sG (K:W.Frag)(N:Addr->Prop)(r pl a c d:Addr)(n:Int)(dv:List V)(ns:List Str)(H:Hp)(i:Nat)(σ':L2.St)(H':Hp):Prop:=∃x4 rs ks cs as,σ'=[some (.ref r),some (.ref pl),some (.ref a),some (.int n),x4,none,none]/\Sn N H H'/\(∀b,H' b=none->N b)/\lg K N H' a c [(6,r,LF rs),(5,d,dv),(4,pl,ns.map V.str)] ks cs/\RI ns rs ks cs as/\rs.length<=60+i/\(i<=ks.length∨ns.length<=ks.length)
def qY (K:W.Frag)(N:Addr->Prop)(r pl a c d p:Addr)(n:Int)(dv:List V)(ns:List Str)(ks0:List (Str×List Itm))(z:Str)(H:Hp)(i:Nat)(σ':L2.St)(H':Hp):Prop:=∃x4 x6 rs xs cs as,σ'=[some (.ref r),some (.ref pl),some (.ref a),some (.int n),x4,some (.ref p),x6]/\Sn N H H'/\(∀b,H' b=none->N b)/\(∃ow ps0 qs cvs,LwS K N ow H' a c (ps0++[p]) qs cvs [(6,r,LF rs),(5,d,dv),(4,pl,ns.map V.str)] (ks0++[(z,xs)]) cs)/\RI ns rs (ks0++[(z,xs)]) cs as/\rs.length<=68+i
theorem iF (T:Tx w K mg):LB P w K mg base 6 "_law_lacking" ["_law_rows_here","_law_pool_here","_law_kinds","_law_cell_here"] (Sp4M (Wy K)):=by
 refine QI T 110 ["_law_rows_here","_law_pool_here","_law_kinds","_law_cell_here","_law_k","_law_last","_law_title"] G4 λH Q dn hr h=>?_
 obtain⟨_,_,_,_,rfl,N,r,pl,a,c,d,n,dv,rs,ns,ks,cs,as,rfl,rfl,rfl,rfl,hT,hN,nr,ri,a7,nd,ar,bx,q⟩:=h;refine⟨_,(Qa (Lx (XJ rfl T.aY (Km (Ln K T.aA (pu 1)))) (Ky 4) (Qc (Qn (Ku Zi (Ln K T.aA (pu 2)) (Ln K T.aA (pu 1))) (Qc (Qw (QA K rfl AL A0 A1 Qv (pu 0) (Km (Kn (d8 T) (Lu (pu 2) (pu 1) (pu 4))))))) Qh))) (Qa (Ks 5 (LD K (pu 2) OC)) (Qa (Lx (L0 K rfl (pu 1)) (Ky 6) (Qc (Qn (PW.pt (Zu (Ku (QR K) (Qg Qp (pu 3) Qe) Qe) (Zo (ZY (XB K rfl) (pu 6) (Lz ["_law_one"] [none] (L0 K rfl (Ko K 5)) (Ky 0) QL (Ko K 0)) (by with_unfolding_all rfl))))) (Qa (Qw (QA K rfl AL A0 A1 Qv (Ko K 5) (Km (Qz (Kq (pu 6) (Kn (b9 T) (Kq (Qg Qu (pu 3) (Ln K T.aA (Ko K 5))) Qe))))))) (Qc (Qw (QA K rfl AL A0 A1 Qv (pu 0) (Km (Kn (aV T) (Km (Qg (Me K rfl) (Qz (Km Qi)) (LD K (Ko K 5) OC))))))))) Qh))) (Qc (Qf (pu 0)))))),?_⟩;have a0:∀{H':Hp} {rs:List Row} {ks:List (Str×List Itm)} {cs:List Cp},lg K N H' a c [(6,r,LF rs),(5,d,dv),(4,pl,ns.map V.str)] ks cs->H' pl=some (.lst (ns.map V.str)):=λ⟨_,_,_,_,T⟩=>(T.hb (4,pl,ns.map V.str) (by simp)).1
 have hr:∀{H':Hp} {rs:List Row} {ks:List (Str×List Itm)} {cs:List Cp},lg K N H' a c [(6,r,LF rs),(5,d,dv),(4,pl,ns.map V.str)] ks cs->H' r=some (.lst (LF rs)):=λ⟨_,_,_,_,T⟩=>(T.hb (6,r,_) (by simp)).1
 have bu:=G5 (K:=K) (a0 hT);left;rw[As];refine⟨by omega,by omega,B4 (sG K N r pl a c d n dv ns H) ⟨none,rs,ks,cs,as,rfl,.of (G7 _),hN,hT,ri,by omega,.inl (AZ _)⟩ ?_ ?_⟩
 ·rintro i _ H2 hi ⟨x4,rs2,ks2,cs2,as2,rfl,sn,hN2,T,ri2,len,hk⟩;have ai:=a0 T;have ax:=hr T;have ba:=G5 (K:=K) ai;obtain⟨af,aq,bc,ak,S2⟩:=id T;have a6:=S2.dl;have a4:=G5 (K:=K) S2.ha;left;rw[As,As];refine Qo (λlt=>?_) (λge=>?_)
  ·refine ⟨.inl ⟨rfl,_,G5 ax⟩,a,pl,_,_,ks2.map (·.1),ns,rfl,rfl,rfl,S2.ha,S2.ti,ba,a7,ar.2,by rw [As];have:=ri2.sml.k;omega,fun all=>absurd (Wh nd all) (by rw [As];omega),fun z p q' H4 H5 g4 z1 z2 hp hq ah g5=>?_⟩;obtain ⟨ow',w1,w2⟩:=GE af q' (10+7*ks2.length) ah;have S4:=(((S2.reown (ow':=ow') fun b vs hb=>w2 b fun j hj e=>by rw [<-e,(hq j hj).1] at hb;cases hb).mono g4).upK ⟨hp,fun j hj=>⟨[],(hq j hj).2,Q5⟩⟩ fun j hj=>⟨hN2 _ (hq j hj).1,w1 j hj⟩).mono g5;have b5:=hr ⟨_,_,_,_,S4⟩;have S5:=S4.upB (ws:=LF rs2++[.str (Row.kind z).tx]) (by simp);refine ⟨r,_,_,rfl,rfl,b5,by rw [As,AB];omega,?_⟩;rw [show LF rs2++[.str (Row.kind z).tx]=LF (rs2++[.kind z]) by simp [LF]] at *;exact ⟨_,rs2++[.kind z],ks2++[(z,[])],cs2,as2,rfl,(sn.trans ((Sn.of g4).trans ((Sn.put S2.na).trans (.of g5)))).trans (Sn.put nr),Z5 (none_of (Z5 (none_of hN2 g4)) g5),⟨_,_,_,_,S5⟩,ri2.kind ar.2 (a7 z z1) z1 z2,by rw [Aq,Av];omega,by rw [Aq,Av];omega⟩
  ·exact⟨_,rs2,ks2,cs2,as2,rfl,sn,hN2,T,ri2,by omega,.inr (by omega)⟩
 ·rintro _ H2 ⟨x4,rs2,ks2,cs2,as2,rfl,sn,hN2,T,ri2,len,hk⟩;have a5:ns.length<=ks2.length:=by omega
  have all:∀z∈ns,z∈ks2.map (·.1):=MJ ri2.tnd (λx hx=>by obtain⟨k,hk,rfl⟩:=Ii.mp hx;exact ri2.tin k hk) (by rw[As];exact a5);obtain⟨af,aq,bc,ak,S2⟩:=id T;have a6:=S2.dl;rcases List.eq_nil_or_concat ks2 with e|⟨ks0,⟨z,xs⟩,e⟩
  ·have:ns.length<=0:=by rw[e] at a5;exact a5
   omega
  rw[List.concat_eq_append] at e;subst e;rcases List.eq_nil_or_concat aq with e|⟨ps0,p,e⟩
  ·subst e;simp at a6
  rw[List.concat_eq_append] at e;subst e;have a4:=G5 (K:=K) S2.ha;rw[Az] at a4;left;refine QO a4 (Q4 _ _) ?_;left;have c0:ps0.length=ks0.length:=by
   rw[Aq,Aq,Av,Av] at a6;omega
  refine⟨pl,rfl,⟨_,G5 (a0 T)⟩,Z6 (xs:=ns.map V.str) (qY K N r pl a c d p n dv ns ks0 z H) ⟨_,none,rs2,xs,cs2,as2,rfl,sn,hN2,⟨_,ps0,_,_,S2⟩,ri2,by omega⟩ (λi σ' H' _ h=>by obtain⟨_,_,_,_,_,_,_,_,_,⟨_,_,_,_,T⟩,_⟩:=h;exact G5 (a0 ⟨_,_,_,_,T⟩)) ?_ ?_⟩
  ·rintro i v _ H3 hv ⟨x4',x6,rs3,xs3,cs3,as3,rfl,sn3,hN3,⟨ow3,ps3,qs3,cvs3,S3⟩,ri3,len3⟩;have c2:i<8:=by have:=Qt hv;rw[As] at this;omega
   rw[AS] at hv;obtain⟨tt,bq,rfl⟩:=A8.mp hv;have tin:tt∈ns:=AG bq;have b3:ps3.length=ks0.length:=by
    have:=S3.dl;rw[Aq,Aq,Av,Av] at this;omega
   have hK:=S3.dr ks0.length p (z,xs3) (by rw [<-b3];simp) (by simp);have bb:ks0.length<(ks0++[(z,xs3)]).length:=by rw [Aq];exact IF _
   have stay:∀H4,Same H3 H4->qY K N r pl a c d p n dv ns ks0 z H (i+1) [some (.ref r),some (.ref pl),some (.ref a),some (.int n),x4',some (.ref p),some (.str tt)] H4:=λH4 g=>⟨_,_,rs3,xs3,cs3,as3,rfl,sn3.trans (.of g),none_of hN3 g,⟨_,_,_,_,S3.mono g⟩,ri3,by omega⟩
   obtain⟨v3,k3,a3⟩:=hK.hq 3 (by decide);have b6:=a3.1;have c1:(xs3.filter λx=>decide (x.sl=3)).length<=100:=by
    have h1:(xs3.filter λx=>decide (x.sl=3)).length<=xs3.length:=Iw _ _;have h2:xs3.length<=rs3.length:=ri3.sml.x (z,xs3) (by simp);omega
   have br:(xs3.filter λx=>decide (x.sl=3)).length=v3.length:=b6;have bz:=G6 (K:=K) hK.hp;left;refine⟨trivial,Qo (λ_=>?_) (λ_=>stay _ (G7 _))⟩;simp only[QX];left;refine⟨qs3 ks0.length 3,rfl,⟨_,G5 k3⟩,Zt (xs:=v3) (rG (xs3.filter λx=>decide (x.sl=3)) H3) ⟨none,rfl,G7 _,rfl⟩ (λi acc σ' H' _ h=>by obtain⟨_,_,g',_⟩:=h;exact g'.seq (G5 k3)) (by omega) ?_ ?_⟩
   ·rintro i v acc _ H4 hv bt ⟨x0,rfl,g',rfl⟩;obtain⟨y,hy,bh⟩:=a3.getV hv;obtain⟨_,b0⟩:=YV hy;obtain⟨z2,r2,s2,rfl⟩:=Jw b0;obtain⟨p5,p6,rfl,bo,_⟩:=NQ bh;have bw:=g'.sqT bo;simp only[Zw];left;exact CN.mk (Qt hv) (by rw[Aq,Av];omega) ⟨_,rfl,g',by rw[AX,hy,Az,Az];rfl⟩
   ·rintro acc _ H4 ⟨x0,rfl,g',rfl⟩ p1 hp1;rw[AJ (by omega)] at *;have ga:=g'.trans (Qd hp1 (.lst (((xs3.filter λx=>decide (x.sl=3)).map nW).map V.str)));refine Z0 (G5 Qb) ?_;generalize upd H4 p1 (.lst (((xs3.filter λx=>decide (x.sl=3)).map nW).map V.str))=H5 at *;left;refine Qo (λhm=>?_) (λ_=>stay _ ga);have b4:=G6 (K:=K) (ga _ _ hK.hp);refine Zg b4 rfl ⟨.inl ⟨rfl,_,G5 (ga _ _ k3)⟩,?_⟩;left;refine Q7 (G5 (ga _ _ k3)) ?_;left;refine⟨_,1,rfl,rfl,by omega,λp7 J s' H6 g6 ag aa=>?_⟩;left;refine⟨by decide,λU ay=>?_⟩;have g7:=Qd ay (.tup [.str tt,.ref p7]);have k8:=Qb (H:=H6) (a:=U) (o:=.tup [.str tt,.ref p7]);generalize upd H6 U (.tup [.str tt,.ref p7])=H7 at *;have gc:=(ga.trans g6).trans g7;have kq:=gc _ _ k3;have ao:(Itm.cnt tt J s').Ok:=⟨a7 tt tin,ag⟩
    have bp:LIt K H7 (.cnt tt J s') (.ref U):=.cnt tt J s' U p7 (G6 k8) (G6 (g7 _ _ aa));have fi:X2 xs3 (.cnt tt J s'):=λy hy z2 r2 s2 e2 e3=>hm (Ii.mpr ⟨y,Ik.mpr ⟨hy,by rw[e2];rfl⟩,by rw[e2];exact e3⟩)
    have S8:=(S3.mono gc).upX (x:=.cnt tt J s') kq bp;have aw:=ri3.itm ao fi (λz2 r2 s2 e=>by cases e;exact tin);have bg:=Z5 (c:=qs3 ks0.length 3) (o:=.lst (v3++[.ref U])) (none_of hN3 gc);have bf:=sn3.trans ((Sn.of gc).trans (Sn.put (o:=.lst (v3++[.ref U])) (S3.nq ks0.length bb 3 (by decide))));refine⟨qs3 ks0.length 3,_,_,rfl,rfl,kq,by rw[AB];omega,?_⟩;have kp:=Q3 (N:=λb=>b≠qs3 ks0.length 3) (o:=.lst (v3++[.ref U])) kq λb h=>h
    have a8:=G6 (K:=K) (kp _ _ (gc _ _ hK.hp) (.inr λvs e=>nomatch e));have ae:Kt K (upd H7 (qs3 ks0.length 3) (.lst (v3++[.ref U]))) U [.str tt,.ref p7]:=kp.sqT (G6 k8);have aj:Kt K (upd H7 (qs3 ks0.length 3) (.lst (v3++[.ref U]))) p7 [.int J,.int s']:=kp.sqT (G6 (g7 _ _ aa));have au:(upd H7 (qs3 ks0.length 3) (.lst (v3++[.ref U]))) (qs3 ks0.length 3)=some (.lst (v3++[.ref U])):=Qb;have S8:LwS K N ow3 (upd H7 (qs3 ks0.length 3) (.lst (v3++[.ref U]))) a c (ps3++[p]) qs3 cvs3 [(6,r,LF rs3),(5,d,dv),(4,pl,ns.map V.str)] (ks0++[(z,xs3++[.cnt tt J s'])]) cs3:=S8;generalize upd H7 (qs3 ks0.length 3) (.lst (v3++[.ref U]))=H8 at *;left;have av:=hr ⟨_,_,_,_,S8⟩;refine⟨.inl ⟨rfl,_,G5 av⟩,by decide,λp9 az=>?_⟩;have g9:=Qd az (.tup [.str "counts"]);refine Zg (g9.sqT a8) rfl (QO (G5 (g9 _ _ au)) (Q4 _ _) ?_);refine⟨p9,U,_,_,rfl,rfl,G6 Qb,g9.sqT ae,by simp,by rw[AB];show 1+2<=_;decide,λe=>absurd e (by simp),λ_ b1 ab=>?_⟩;have a9:=Qd ab (.tup ([.str "counts"]++[.str tt,.ref p7]));refine⟨b1,_,(Itm.cnt tt J s').srt::(Itm.cnt tt J s').ws,rfl,G6 Qb,Ql (Vf (Ze _ (Xw (.itm _))).2.1) (Ql (Vf (ZE ao.1).2.1) (Ql (LN ag ((g9.trans a9).sqT aj)) Q5)),by show 3<=20;decide,λbj b2=>?_⟩;have gg:=g9.trans (a9.trans b2);have bl:=(S8.mono gg).upB (ws:=LF rs3++[.str (Row.itm (.cnt tt J s')).tx]) (by simp);refine⟨r,_,_,rfl,rfl,gg _ _ av,by rw[As,AB];omega,?_⟩;show qY K N r pl a c d p n dv ns ks0 z H (i+1) _ (upd bj r (.lst (LF rs3++[.str (Row.itm (.cnt tt J s')).tx])));rw[show LF rs3++[.str (Row.itm (.cnt tt J s')).tx]=LF (rs3++[.itm (.cnt tt J s')]) by simp[LF]] at *;exact⟨_,_,rs3++[.itm (.cnt tt J s')],xs3++[.cnt tt J s'],cs3,_,rfl,(bf.trans (.of gg)).trans (Sn.put nr),Z5 (none_of bg gg),⟨_,_,_,_,bl⟩,aw,by rw[Aq,Av];omega⟩
  ·rintro _ H3 ⟨x4',x6,rs3,xs3,cs3,as3,rfl,sn3,hN3,⟨ow3,ps3,qs3,cvs3,S3⟩,ri3,len3⟩;left;rw[As] at len3;refine q rs3 _ cs3 as3 _ sn3 hN3 ⟨_,_,_,_,S3⟩ ri3 (λy hy=>?_) (by omega);have:=all y hy;rw[Az] at this ⊢;exact this
def Kr (xs:List Itm)(j:Nat):List Itm:=xs.filter λx=>decide (x.sl=j)
def nrm (xs:List Itm):List Itm:=Kr xs 0++(Kr xs 1++(Kr xs 2++(Kr xs 3++(Kr xs 4++(Kr xs 5++Kr xs 6)))))
def Mo (k:Str×List Itm):List Row:=.kind k.1::(nrm k.2).map Row.itm
def tl (ks:List (Str×List Itm))(cs:List Cp):List Row:=(ks.map Mo).flatten++cs.map λc=>Row.cap c.1 c.2.1 c.2.2
def nk (k:Str×List Itm):Str×List Itm:=(k.1,nrm k.2)
theorem Je (xs ys)(j:Nat):Kr (xs++ys) j=Kr xs j++Kr ys j:=IZ ..
theorem Pa (xs)(i j:Nat):Kr (Kr xs i) j=if i=j then Kr xs j else[]:=by
 unfold Kr;rw[List.filter_filter];split
 ·next e=>subst e;congr 1;funext x;simp
 ·next e=>
  rw[List.filter_eq_nil_iff];intro x _ h;simp at h;exact e (h.2.symm.trans h.1)
theorem ZH (xs){j:Nat}(h:j<7):Kr (nrm xs) j=Kr xs j:=by
 unfold nrm;simp only[Je,Pa];rcases(show j=0∨j=1∨j=2∨j=3∨j=4∨j=5∨j=6 by omega) with rfl|rfl|rfl|rfl|rfl|rfl|rfl<;>simp
theorem P6 (xs):nrm (nrm xs)=nrm xs:=by
 show Kr (nrm xs) 0++(Kr (nrm xs) 1++(Kr (nrm xs) 2++(Kr (nrm xs) 3++(Kr (nrm xs) 4++(Kr (nrm xs) 5++Kr (nrm xs) 6)))))=_;rw[ZH xs (by decide),ZH xs (by decide),ZH xs (by decide),ZH xs (by decide),ZH xs (by decide),ZH xs (by decide),ZH xs (by decide)];rfl
theorem Jj:∀xs,(nrm xs).length=xs.length
 | []=>rfl
 | x::xs=>by
  have J:=Jj xs;unfold nrm at J ⊢;have e:∀j,(Kr (x::xs) j).length=(if x.sl=j then 1 else 0)+(Kr xs j).length:=λj=>by
   unfold Kr;rw[List.filter_cons];split
   ·next h=>rw[An (by simpa using h),AN];omega
   ·next h=>rw[Am (by simpa using h)];omega
  have:=Xn x;simp only[Aq,e,AN] at J ⊢;rcases(show x.sl=0∨x.sl=1∨x.sl=2∨x.sl=3∨x.sl=4∨x.sl=5∨x.sl=6 by omega) with h|h|h|h|h|h|h<;>simp[h]<;>omega
theorem NO {xs}{x}(h:x∈nrm xs):x∈xs:=by
 unfold nrm Kr at h;simp only[AK,Ik] at h;rcases h with h|h|h|h|h|h|h<;>exact h.1
def nT (a b:Itm):Prop:=(∀z r s z' r' s',a=.cnt z r s->b=.cnt z' r' s'->z≠z')/\∀l r s l' r' s',a=.off l r s->b=.off l' r' s'->l<l'
theorem Fc {a b}(h:a.sl≠b.sl):nT a b:=⟨λz r s z' U s' e J=>by subst e J;exact absurd rfl h,λl r s l' U s' e J=>by subst e J;exact absurd rfl h⟩
structure WfI (xs:List Itm):Prop where
 ok:∀x∈xs,x.Ok
 pw:xs.Pairwise nT
 ct:∀j<7,j≠3->((Kr xs j).length:Int)<=mo j
theorem Nx (x)(j:Nat):Kr [x] j=if x.sl=j then[x] else[]:=by
 unfold Kr;rw[List.filter_cons,List.filter_nil];split
 ·next h=>rw[An (by simpa using h)]
 ·next h=>rw[Am (by simpa using h)]
theorem Yh {P:α->Prop}:∀x∈([]:List α),P x:=λx h=>by cases h
theorem WfI.nil:WfI []:=⟨Yh,.nil,λj h _=>by
 rcases(show j=0∨j=1∨j=2∨j=3∨j=4∨j=5∨j=6 by omega) with rfl|rfl|rfl|rfl|rfl|rfl|rfl<;>decide⟩
theorem WfI.pre {xs ys}(h:WfI (xs++ys)):WfI xs:=⟨λx hx=>h.ok x (Im _ hx),(List.pairwise_append.mp h.pw).1,λj U J=>by
 have:=h.ct j U J;rw[Je,Aq] at this;omega⟩
theorem WfI.add {xs}{x}(h:WfI xs)(ok:x.Ok)(f:X2 xs x):WfI (xs++[x]):=by
 refine⟨λy J=>?_,List.pairwise_append.mpr ⟨h.pw,List.pairwise_singleton _ _,λy J b hb=>?_⟩,λj hj h3=>?_⟩
 ·rcases AK.mp J with J|J
  ·exact h.ok y J
  ·rw[AA.mp J];exact ok
 ·rw[AA.mp hb];refine⟨λz r s z' r' s' e U=>?_,λl r s l' r' s' e U=>?_⟩
  ·subst U;exact f y J z r s e
  ·subst U;exact f.2 y J l r s e
 ·have c:=h.ct j hj h3;rw[Je,Nx,Aq];by_cases e:x.sl=j
  ·subst e;rw[An rfl,Av];cases x with
   | cnt=>exact absurd rfl h3
   | off=>have:=f.1;show(((Kr xs 4).length+1:Nat):Int)<=6;unfold Kr;omega
   | base a=>have f:((Kr xs 0).length:Int)<mo 0:=f;show(((Kr xs 0).length+1:Nat):Int)<=mo 0;omega
   | each=>have f:((Kr xs 0).length:Int)<mo 0:=f;show(((Kr xs 0).length+1:Nat):Int)<=mo 0;omega
   | rent=>have f:((Kr xs 0).length:Int)<mo 0:=f;show(((Kr xs 0).length+1:Nat):Int)<=mo 0;omega
   | term=>have f:((Kr xs 1).length:Int)<mo 1:=f;show(((Kr xs 1).length+1:Nat):Int)<=mo 1;omega
   | pay=>have f:((Kr xs 2).length:Int)<mo 2:=f;show(((Kr xs 2).length+1:Nat):Int)<=mo 2;omega
   | unt=>have f:((Kr xs 5).length:Int)<mo 5:=f;show(((Kr xs 5).length+1:Nat):Int)<=mo 5;omega
   | rnd=>have f:((Kr xs 6).length:Int)<mo 6:=f;show(((Kr xs 6).length+1:Nat):Int)<=mo 6;omega
  ·rw[Am e];simpa using c
theorem WfI.fits {xs}{x}(h:WfI (xs++[x])):x.Ok/\X2 xs x:=by
 refine⟨h.ok x (Ic _ (AA.mpr rfl)),?_⟩;have pw:=(List.pairwise_append.mp h.pw).2.2;have ct:=λj (hj:j<7) h3 (e:x.sl=j)=>by
  have c:=h.ct j hj h3;rw[Je,Nx,An e,Aq,Av] at c;exact c
 cases x with
 | cnt z r s=>exact λy J z' U s' e=>(pw y J _ (AA.mpr rfl)).1 _ _ _ _ _ _ e rfl
 | off l r s=>
  refine⟨?_,λy J l' U s' e=>(pw y J _ (AA.mpr rfl)).2 _ _ _ _ _ _ e rfl⟩;have c:(((Kr xs 4).length+1:Nat):Int)<=6:=ct 4 (by decide) (by decide) rfl;show(Kr xs 4).length<6;omega
 | base a=>have c:=ct 0 (by decide) (by decide) rfl;show((Kr xs 0).length:Int)<mo 0;omega
 | each=>have c:=ct 0 (by decide) (by decide) rfl;show((Kr xs 0).length:Int)<mo 0;omega
 | rent=>have c:=ct 0 (by decide) (by decide) rfl;show((Kr xs 0).length:Int)<mo 0;omega
 | term=>have c:=ct 1 (by decide) (by decide) rfl;show((Kr xs 1).length:Int)<mo 1;omega
 | pay=>have c:=ct 2 (by decide) (by decide) rfl;show((Kr xs 2).length:Int)<mo 2;omega
 | unt=>have c:=ct 5 (by decide) (by decide) rfl;show((Kr xs 5).length:Int)<mo 5;omega
 | rnd=>have c:=ct 6 (by decide) (by decide) rfl;show((Kr xs 6).length:Int)<mo 6;omega
theorem Zr {xs}{x}(h:x∈Kr xs j):x.sl=j:=by
 unfold Kr at h;simpa using(Ik.mp h).2
theorem WB {xs ys:List Itm}(h1:xs.Pairwise nT)(h2:ys.Pairwise nT){n:Nat}(a:∀x∈xs,x.sl=n)(b:∀y∈ys,n<y.sl):(xs++ys).Pairwise nT:=
 List.pairwise_append.mpr ⟨h1,h2,λx J y U=>Fc (by have:=a x J;have:=b y U;omega)⟩
theorem WfI.nrm {xs}(h:WfI xs):WfI (nrm xs):=by
 refine⟨λx hx=>h.ok x (NO hx),?_,λj hj h3=>by rw[ZH xs hj];exact h.ct j hj h3⟩;have s:∀j,(Kr xs j).Pairwise nT:=λj=>h.pw.sublist List.filter_sublist
 have J:∀{n j:Nat} {ys:List Itm},n<j->(∀y∈ys,n<y.sl)->∀y∈Kr xs j++ys,n<y.sl:=λ{n j ys} hn hy y h=>by
  rcases AK.mp h with h|h
  ·rw[Zr h];exact hn
  ·exact hy y h
 have U:∀{n},n<6->∀y∈Kr xs 6,n<y.sl:=λhn y h=>by rw[Zr h];exact hn
 unfold My.nrm;refine WB (n:=0) (s 0) (WB (n:=1) (s 1) (WB (n:=2) (s 2) (WB (n:=3) (s 3) (WB (n:=4) (s 4) (WB (n:=5) (s 5) (s 6) (λx=>Zr) ?_) (λx=>Zr) ?_) (λx=>Zr) ?_) (λx=>Zr) ?_) (λx=>Zr) ?_) (λx=>Zr) ?_
 ·exact U (by decide)
 ·exact J (by decide) (U (by decide))
 ·exact J (by decide) (J (by decide) (U (by decide)))
 ·exact J (by decide) (J (by decide) (J (by decide) (U (by decide))))
 ·exact J (by decide) (J (by decide) (J (by decide) (J (by decide) (U (by decide)))))
 ·exact J (by decide) (J (by decide) (J (by decide) (J (by decide) (J (by decide) (U (by decide))))))
structure WfO (ks:List (Str×List Itm))(cs:List Cp)(as:List Str):Prop where
 t:∀k∈ks,Xv k.1
 nd:(ks.map (·.1)).Nodup
 l8:ks.length<=8
 i:∀k∈ks,WfI k.2
 c:∀c∈cs,(Row.cap c.1 c.2.1 c.2.2).Ok
 l4:cs.length<=4
 cn:(cs.map (·.2.2)).flatten.Nodup
 ai:∀k∈ks,∀z r s,Itm.cnt z r s∈k.2->z∈as
 ac:∀c∈cs,∀z∈c.2.2,z∈as
theorem WfO.nil:WfO [] [] []:=⟨Yh,.nil,by decide,Yh,Yh,by decide,.nil,Yh,Yh⟩
theorem G3 {r}(h:z∈as):z∈aS as r:=by
 unfold aS;split
 ·exact Im _ h
 ·exact Im _ h
 ·exact h
theorem WfO.step {r}(h:WfO ks cs as)(ok:r.Ok)(f:KH ks cs r):WfO (kS ks r) (cS cs r) (aS as r):=by
 cases r with
 | kind z=>
  refine⟨λk J=>?_,?_,by show(ks++[(z,[])]).length<=8;rw[Aq,Av];have:=f.1;omega,λk J=>?_,h.c,h.l4,h.cn,λk J=>?_,h.ac⟩
  ·rcases AK.mp J with J|J
   ·exact h.t k J
   ·rw[AA.mp J];exact ok
  ·show ((ks++[(z,([]:List Itm))]).map (·.1)).Nodup;rw [Az];exact Iq.mpr ⟨h.nd,by simp,fun a ha b hb e=>f.2 (by rw [AA.mp hb] at e;have e:a=z:=e;rw [<-e];exact ha)⟩
  ·rcases AK.mp J with J|J
   ·exact h.i k J
   ·rw[AA.mp J];exact .nil
  ·rcases AK.mp J with J|J
   ·exact h.ai k J
   ·rw[AA.mp J];intro z r s h;cases h
 | cap a b ns=>
  refine⟨h.t,h.nd,h.l8,h.i,λc hc=>?_,by show(cs++[(a,b,ns)]).length<=4;rw[Aq,Av];have:=f.1;omega,?_,λk J z r s U=>Im _ (h.ai k J z r s U),λc hc z U=>?_⟩
  ·rcases AK.mp hc with hc|hc
   ·exact h.c c hc
   ·rw[AA.mp hc];exact ok
  ·show((cs++[(a,b,ns)]).map (·.2.2)).flatten.Nodup;rw[Az,IC];have n:=Iq.mp f.2;show(_++[ns].flatten).Nodup;rw[List.flatten_cons,List.flatten_nil,Ie];exact Iq.mpr ⟨n.2.1,n.1,λa ha b hb e=>n.2.2 b hb a ha e.symm⟩
  ·rcases AK.mp hc with hc|hc
   ·exact Im _ (h.ac c hc z U)
   ·rw[AA.mp hc] at U;exact Ic _ U
 | itm x=>
  obtain⟨ks0,z,xs,rfl,fi⟩:=f;have hl:(z,xs)∈ks0++[(z,xs)]:=Ic _ (AA.mpr rfl);have e:kS (ks0++[(z,xs)]) (.itm x)=ks0++[(z,xs++[x])]:=Xk;rw[e];have up:∀{P:Str×List Itm->Prop},(∀k∈ks0++[(z,xs)],P k)->P (z,xs++[x])->∀k∈ks0++[(z,xs++[x])],P k:=λhP hx k J=>by
   rcases AK.mp J with J|J
   ·exact hP k (Im _ J)
   ·rw[AA.mp J];exact hx
  refine⟨up (P:=λk=>Xv k.1) h.t (h.t (z,xs) hl),?_,?_,up (P:=λk=>WfI k.2) h.i ((h.i (z,xs) hl).add ok fi),h.c,h.l4,h.cn,up (P:=λk=>∀z r s,Itm.cnt z r s∈k.2->z∈aS as (.itm x)) (λk J z r s U=>G3 (h.ai k J z r s U)) λz' r s U=>?_,λc hc z U=>G3 (h.ac c hc z U)⟩
  ·have:=h.nd;rw[Az] at this ⊢;exact this
  ·have:=h.l8;rw[Aq,Av] at this ⊢;exact this
  ·rcases AK.mp U with U|U
   ·exact G3 (h.ai (z,xs) hl z' r s U)
   ·have U:=AA.mp U;subst U;exact Ic _ (AA.mpr rfl)
theorem Gj:∀{rs}{ks}{cs}{as},WfO ks cs as->TZ ks cs rs->WfO (run ks cs as rs).1 (run ks cs as rs).2.1 (run ks cs as rs).2.2
 | [],_,_,_,h,_=>h
 | r::rs,ks,cs,as,h,a=>by
  have:=Gj (rs:=rs) (h.step a.1 a.2.1) a.2.2;exact this
theorem Ny:∀{rs rs'}{ks}{cs}{as},run ks cs as (rs++rs')=run (run ks cs as rs).1 (run ks cs as rs).2.1 (run ks cs as rs).2.2 rs'
 | [],_,_,_,_=>rfl
 | r::rs,rs',ks,cs,as=>by
  show run (kS ks r) (cS cs r) (aS as r) (rs++rs')=_;rw[Ny];rfl
theorem Ml:∀{rs rs'}{ks}{cs}(as),TZ ks cs rs->TZ (run ks cs as rs).1 (run ks cs as rs).2.1 rs'->TZ ks cs (rs++rs')
 | [],_,_,_,_,_,h=>h
 | r::rs,rs',ks,cs,as,h,h'=>⟨h.1,h.2.1,Ml (aS as r) h.2.2 h'⟩
def Tk (ks:List (Str×List Itm))(cs:List Cp)(A:List Str)(rs:List Row)(ks':List (Str×List Itm))(cs':List Cp):Prop:=TZ ks cs rs/\∀as,(∀z∈as,z∈A)->(run ks cs as rs).1=ks'/\(run ks cs as rs).2.1=cs'/\∀z∈(run ks cs as rs).2.2,z∈A
theorem Tk.nil {A}:Tk ks cs A [] ks cs:=⟨trivial,λ_ h=>⟨rfl,rfl,h⟩⟩
theorem Tk.app {ks1 ks2}{cs1 cs2}{A}{rs'}(a:Tk ks cs A rs ks1 cs1)(b:Tk ks1 cs1 A rs' ks2 cs2):Tk ks cs A (rs++rs') ks2 cs2:=by
 obtain⟨e1,e2,_⟩:=a.2 [] Yh;refine⟨Ml [] a.1 (by rw[e1,e2];exact b.1),λas h=>?_⟩;obtain⟨e1,e2,J⟩:=a.2 as h;rw[Ny,e1,e2];exact b.2 _ J
theorem Tk.one {A}{r}(ok:r.Ok)(f:KH ks cs r)(ha:∀z∈aS [] r,z∈A):Tk ks cs A [r] (kS ks r) (cS cs r):=⟨⟨ok,f,trivial⟩,λas h=>⟨rfl,rfl,λz J=>by
 have J:z∈aS as r:=J;unfold aS at J ha;split at J
 ·rcases AK.mp J with J|J
  ·exact h z J
  ·exact ha z (Ic _ J)
 ·rcases AK.mp J with J|J
  ·exact h z J
  ·exact ha z (Ic _ J)
 ·exact h z J⟩⟩
theorem Ni {ks}{cs}{A}{z}:∀{xs ys},WfI (ys++xs)->(∀z r s,Itm.cnt z r s∈xs->z∈A)->Tk (ks++[(z,ys)]) cs A (xs.map Row.itm) (ks++[(z,ys++xs)]) cs
 | [],ys,_,_=>by rw[Ie];exact .nil
 | x::xs,ys,h,ha=>by
  have h':WfI ((ys++[x])++xs):=by rw[List.append_assoc];exact h
  obtain⟨ok,fi⟩:=h'.pre.fits;have a:=Tk.one (ks:=ks++[(z,ys)]) (cs:=cs) (A:=A) (r:=.itm x) ok ⟨ks,z,ys,rfl,fi⟩ λz' J=>by
   cases x with
   | cnt U r s=>
    have:z'∈([]:List Str)++[U]:=J;rw[List.nil_append,AA] at this;rw[this];exact ha U r s AH
   | _=>cases J
  have e:kS (ks++[(z,ys)]) (.itm x)=ks++[(z,ys++[x])]:=Xk;rw[e] at a;have b:=Ni (ks:=ks) (cs:=cs) (A:=A) (z:=z) (xs:=xs) (ys:=ys++[x]) h' λz r s J=>ha z r s (AE _ J)
  rw[List.append_assoc] at b;exact a.app b
theorem Ua {A}:∀{ks ks0},(∀k∈ks,Xv k.1)->((ks0++ks).map (·.1)).Nodup->(ks0++ks).length<=8->(∀k∈ks,WfI k.2)->(∀k∈ks,∀z r s,Itm.cnt z r s∈k.2->z∈A)->Tk ks0 [] A (ks.map Mo).flatten (ks0++ks.map nk) []
 | [],ks0,_,_,_,_,_=>by rw[List.map_nil,List.map_nil,Ie];exact .nil
 | k::ks,ks0,t,nd,l8,i,ai=>by
  rw[A3,List.flatten_cons,A3];have U:=AH (a:=k) (l:=ks);have a:=Tk.one (ks:=ks0) (cs:=[]) (A:=A) (r:=.kind k.1) (t k U) ⟨by rw[Aq,AN] at l8;omega,λh=>by
   rw[Az,A3] at nd;exact(Iq.mp nd).2.2 _ h _ AH rfl⟩ λz J=>by cases J
  have b:=Ni (ks:=ks0) (cs:=[]) (A:=A) (z:=k.1) (xs:=nrm k.2) (ys:=[]) (i k U).nrm λz r s J=>ai k U z r s (NO J)
  have c:=Ua (ks:=ks) (ks0:=ks0++[nk k]) (A:=A) (λk h=>t k (AE _ h)) (by rw[List.append_assoc,Az] ;rw[Az] at nd;exact nd) (by rw[List.append_assoc];rw[Aq] at l8 ⊢;exact l8) (λk h=>i k (AE _ h)) (λk h=>ai k (AE _ h));rw[List.append_assoc] at c;exact(a.app b).app c
theorem Nj {A}{ks}:∀{cs cs0},(∀c∈cs,(Row.cap c.1 c.2.1 c.2.2).Ok)->(cs0++cs).length<=4->((cs0++cs).map (·.2.2)).flatten.Nodup->(∀c∈cs,∀z∈c.2.2,z∈A)->Tk ks cs0 A (cs.map λc=>Row.cap c.1 c.2.1 c.2.2) ks (cs0++cs)
 | [],cs0,_,_,_,_=>by rw[Ie];exact .nil
 | c::cs,cs0,ok,l4,nd,ac=>by
  have J:=AH (a:=c) (l:=cs);have a:=Tk.one (ks:=ks) (cs:=cs0) (A:=A) (r:=.cap c.1 c.2.1 c.2.2) (ok c J) ⟨by rw[Aq,AN] at l4;omega,by
   rw[Az,A3,IC,List.flatten_cons] at nd;have n:=Iq.mp nd;have n2:=Iq.mp n.2.1;exact Iq.mpr ⟨n2.1,n.1,λa U b hb e=>n.2.2 b hb a (Im _ U) e.symm⟩⟩ λz hz=>ac c J z (by simpa[aS] using hz)
  have b:=Nj (ks:=ks) (cs:=cs) (cs0:=cs0++[c]) (A:=A) (λc h=>ok c (AE _ h)) (by rw[List.append_assoc];exact l4) (by rw[List.append_assoc];exact nd) (λc h=>ac c (AE _ h));rw[List.append_assoc] at b;exact a.app b
theorem Dy (h:WfO ks cs as):TZ [] [] (tl ks cs)/\∃as',run [] [] [] (tl ks cs)=(ks.map nk,cs,as')/\∀z∈as',z∈as:=by
 have a:=Ua (A:=as) (ks:=ks) (ks0:=[]) h.t h.nd h.l8 h.i h.ai;have b:=Nj (A:=as) (ks:=[]++ks.map nk) (cs:=cs) (cs0:=[]) h.c h.l4 h.cn h.ac;have c:=a.app b;obtain⟨e1,e2,J⟩:=c.2 [] Yh;exact⟨c.1,_,Prod.ext e1 (Prod.ext e2 rfl),J⟩
theorem Hx (k):Mo (nk k)=Mo k:=by
 show Row.kind k.1::(nrm (nrm k.2)).map Row.itm=_;rw[P6];rfl
theorem DA (ks)(cs):tl (ks.map nk) cs=tl ks cs:=by
 unfold tl;rw[IV]
 congr 3
 funext k
 exact Hx k
def nr (ks:List (Str×List Itm))(cs:List Cp):Nat:=(ks.map λk=>k.2.length+1).sum+cs.length
theorem P7 {r}(f:KH ks cs r):nr (kS ks r) (cS cs r)=nr ks cs+1:=by
 unfold nr;cases r with
 | kind z=>show((ks++[(z,([]:List Itm))]).map λk=>k.2.length+1).sum+cs.length=_;rw[Az,List.sum_append];simp;omega
 | cap a b ns=>show(ks.map λk=>k.2.length+1).sum+(cs++[(a,b,ns)]).length=_;rw[Aq,Av];omega
 | itm x=>
  obtain⟨ks0,z,xs,rfl,_⟩:=f;have e:kS (ks0++[(z,xs)]) (.itm x)=ks0++[(z,xs++[x])]:=Xk;rw[e];show _+cs.length=_;rw[Az,List.sum_append,Az,List.sum_append];simp;omega
theorem BD:∀{rs}{ks}{cs}{as},TZ ks cs rs->nr (run ks cs as rs).1 (run ks cs as rs).2.1=nr ks cs+rs.length
 | [],_,_,_,_=>rfl
 | r::rs,ks,cs,as,a=>by
  show nr (run (kS ks r) (cS cs r) (aS as r) rs).1 (run (kS ks r) (cS cs r) (aS as r) rs).2.1=_;rw[BD a.2.2,P7 a.2.1,AN];omega
theorem Gp (ks)(cs):(tl ks cs).length=nr ks cs:=by
 unfold tl nr;rw[Aq,As,List.length_flatten,IV]
 congr 3
 funext k
 show(Row.kind k.1::(nrm k.2).map Row.itm).length=_;rw[AN,As,Jj]
theorem Cu:(fB a).lookup (Str.ofString "amount")=some a:=by kernel_rfl
theorem Cr {l}:(fE a l h).lookup (Str.ofString "amount")=some a:=by kernel_rfl
theorem Cn {l}:(fE a l h).lookup (Str.ofString "low")=some l:=by kernel_rfl
theorem Co {l}:(fE a l h).lookup (Str.ofString "high")=some h:=by kernel_rfl
theorem Cg {r m}:(fR r m).lookup (Str.ofString "rate")=some r:=by kernel_rfl
theorem Ci {r m}:(fR r m).lookup (Str.ofString "most")=some m:=by kernel_rfl
theorem Tq {n l}:(fT n l h).lookup (Str.ofString "many")=some n:=by kernel_rfl
theorem Tr {n l}:(fT n l h).lookup (Str.ofString "low")=some l:=by kernel_rfl
theorem Ts {n l}:(fT n l h).lookup (Str.ofString "high")=some h:=by kernel_rfl
theorem F8:(fB a).lookup (Str.ofString "row")=none:=by kernel_rfl
theorem F7 {l}:(fE a l h).lookup (Str.ofString "row")=none:=by kernel_rfl
theorem F6 {r m}:(fR r m).lookup (Str.ofString "row")=none:=by kernel_rfl
theorem B6 {n l}:(fT n l h).lookup (Str.ofString "row")=none:=by kernel_rfl
def Wd (z:Str)(v:V):Prop:=(v=.str z∨∃i:Int,v=.int i/\i.natAbs<2 ^ 60/\z=Str.ofString (toString i))/\z.length<=1000
inductive O4 (K)(x:V)(H)(Q:VK):Prop
 | mk (a:Addr) (ws:List V) (zs:List Str) (h1:x=.ref a) (h2:Kv K H a ws) (h3:All2 Wd zs ws) (h4:zs.length<=20) (h5:∀H',Same H H'->Q (.str (Txt.join " " zs)) H'):O4 K x H Q
def sM (H:Hp)(zs:List Str)(i:Nat)(acc:List V)(σ':L2.St)(H':Hp):Prop:=∃x0,σ'=[x0]/\Same H H'/\acc=(zs.take i).map V.str
theorem L4:∀{zs:List Str},(∀z∈zs,z.length<=1000)->(zs.map (·.length)).sum<=zs.length*1000
 | [],_=>by simp
 | z::zs,h=>by
  have h1:=h z AH;have h2:=L4 (zs:=zs) λy J=>h y (AE _ J)
  simp only[A3,List.sum_cons,AN];omega
theorem aH (T:Tx w K mg):LB P w K mg base 1 "row_of" ["words"] (Sp1M (O4 K)):=by
 refine QI T 64 ["words"] Zq λH Q dn hr h=>?_
 obtain⟨_,rfl,a,ws,zs,rfl,hL,hA,hn,q⟩:=h;have a4:=hA.1;refine⟨_,(Qc (Qf (QA K rfl Gc Gi Ja (Vx K rfl) Qi (Km (Lz ["word"] [none] (L0 K rfl (pu 0)) (Ky 0) QL (QD Zm (by rfl) T.aI boot_str (Km (pu 0)))))))),?_⟩;left;refine⟨rfl,?_⟩;simp only[QX];left;refine⟨a,rfl,⟨ws,hL⟩,Zt (xs:=ws) (sM H zs) ⟨none,rfl,G7 _,rfl⟩ (λi acc σ' H' _ h=>by obtain⟨_,_,g',_⟩:=h;exact g'.seq hL) (by omega) ?_ ?_⟩
 ·rintro i v acc _ H2 J a0 ⟨x0,rfl,g,rfl⟩;obtain⟨z,U,hw,_⟩:=hA.getV J;have st:(zs.take (i+1)).map V.str=(zs.take i).map V.str++[V.str z]:=by rw[AX,U,Az];rfl
  simp only[Zw];left;rcases hw with rfl|⟨n,rfl,hb,rfl⟩
  ·exact .inr ⟨z,rfl,CN.mk (Qt J) (by rw[Aq,Av];omega) ⟨_,rfl,g,st.symm⟩⟩
  ·refine .inl ⟨n,rfl,?_,CN.mk (Qt J) (by rw[Aq,Av];omega) ⟨_,rfl,g,st.symm⟩⟩;by_cases h0:n.natAbs=0
   ·rw[h0];decide
   ·exact AW ((Nat.log2_lt h0).mpr hb) (by decide)
 ·rintro acc _ H2 ⟨x0,rfl,g,rfl⟩ p hp;rw[AJ (by omega)];have g2:=Qd hp (.lst (zs.map V.str));refine⟨_,p,zs,rfl,rfl,G5 Qb,?_,q _ (g.trans g2)⟩;have h1:=L4 (zs:=zs) λz U=>by
   obtain⟨k,hk⟩:=I8 U;obtain⟨v,_,hw⟩:=hA.get hk;exact hw.2
  have h2:(Str.ofString " ").length=1:=by decide
  rw[h2];omega
theorem XG (h:z.length<=1000):Wd z (.str z):=⟨.inl rfl,h⟩
theorem X4 {n:Int}(h0:0<=n)(h1:n<=1000000000):Wd (nt n) (.int n):=⟨.inr ⟨n,rfl,by omega,rfl⟩,A4 (len_num h0 (by omega)) (by decide)⟩
theorem LO {r:Row}(ok:r.Ok)(h:z∈r.ws):z.length<=1000:=(r.plain ok z (AE _ h)).2.1
theorem Y7 {s:Int}(ok:Zn r s):(Q6 r s).length<=1000:=LO (r:=.itm (.rent r s 0)) ⟨ok,by decide,by decide⟩ AH
theorem Vv (ok:Xv z):z.length<=1000:=LO (r:=.kind z) ok AH
theorem bH (T:Tx w K mg):LB P w K mg base 1 "rate_shown" ["one"] (Sp1M (V2 K)):=by
 refine QI T 40 ["one","top","bottom"] Zq λH Q dn hr h=>?_
 obtain⟨_,rfl,p,a,b,rfl,hT,ok,q⟩:=h;refine⟨_,(Qa (Ks 1 (Ko K 0)) (Qa (Ks 2 (Ko K 0)) (Qa (Qn (Ku (QR K) (pu 2) Qe) (Qc (Qf (QD Zm (by rfl) T.aI boot_str (Km (pu 1))))) Qh) (Qc (Qf (ME (Vr (Bw (pu 1)) (Vr Qi (Vr (Bw (pu 2)) Fh))))))))),?_⟩;obtain⟨r0,r1,s0,s1,_⟩:=ok;have h1:a.natAbs<10 ^ 61:=by omega
 have h2:b.natAbs<10 ^ 61:=by omega
 have U:=Vk h1;have J:=Vk h2;have l3:sla.length=1:=by decide
 left;unfold Q6 at q;refine Qo (λc=>?_) (λc=>?_)
 ·rw[An c] at q;exact .inl ⟨_,rfl,Ta h1,q⟩
 ·rw[Am c] at q;simp only[LJ,RO,Do];left;simp only[Hi,CO,He,Tv,Gs];exact⟨Ta h1,Za (by omega),Za (by rw[QQ];omega),Ta h2,Za (by rw[QQ,QQ];omega),Za (by rw[QQ,QQ];omega),q⟩
def Itm.ct:Itm->Nat
 | .base ..=>0|.each ..=>1|.rent ..=>2|.term false ..=>3|.term true ..=>4|_=>5
inductive LC (K)(t:OP)(n:Nat)(x:V)(H:Hp)(Q:VK):Prop
 | mk (i:Itm) (h1:PIt K t H i x) (h2:i.ct=n) (h3:i.Ok) (h4:∀H',Same H H'->Q (.str (Row.itm i).tx) H'):LC K t n x H Q
theorem qo {t}{i}(h:PIt K t H i v)(e:i.ct=0):∃a x dx,i=.base a/\v=.ref x/\H x=some (.ins t.zI dx (fB (.int a))):=by
 cases h<;>first|exact⟨_,_,_,rfl,rfl,‹_›⟩|cases e
theorem qm {t}{i}(h:PIt K t H i v)(e:i.ct=1):∃a l h' x dx,i=.each a l h'/\v=.ref x/\H x=some (.ins t.zJ dx (fE (.int a) (.int l) (.int h'))):=by
 cases h<;>first|exact⟨_,_,_,_,_,rfl,rfl,‹_›⟩|cases e
theorem ql {t}{i}(h:PIt K t H i v)(e:i.ct=2):∃r s m x dx p,i=.rent r s m/\v=.ref x/\H x=some (.ins t.zK dx (fR (.ref p) (.int m)))/\Kt K H p [.int r,.int s]:=by
 cases h<;>first|exact⟨_,_,_,_,_,_,rfl,rfl,‹_›,‹_›⟩|cases e
theorem qk {t}{i}(h:PIt K t H i v)(e:i.ct=3):∃n l h' x dx,i=.term false n l h'/\v=.ref x/\H x=some (.ins t.zM dx (fT (.int n) (.int l) (.int h'))):=by
 cases h<;>first|exact⟨_,_,_,_,_,rfl,rfl,‹_›⟩|cases e
theorem qj {t}{i}(h:PIt K t H i v)(e:i.ct=4):∃n l h' x dx,i=.term true n l h'/\v=.ref x/\H x=some (.ins t.zN dx (fT (.int n) (.int l) (.int h'))):=by
 cases h<;>first|exact⟨_,_,_,_,_,rfl,rfl,‹_›⟩|cases e
theorem d9 (T:Tx w K mg):Z7 P w K mg base 2 t.zI "row" ["self"] (Sp1M (LC K t 0)):=by
 refine Xq T 6602 ["self"] Zq λH Q dn hr h=>?_
 obtain⟨_,rfl,i,hi,e,ok,q⟩:=h;refine⟨_,(Qc (Qf (Kn (aH T) (Km (Qq (Kq Qi (LA K (pu 0)))))))),?_⟩;obtain⟨a,x,dx,rfl,rfl,hx⟩:=qo hi e;left;refine QH hx T.aU T.bW Cu ⟨by decide,λp2 J=>?_⟩;have U:=Qd J (.lst [V.str "base",.int a]);refine⟨p2,_,["base",nt a],rfl,G5 Qb,Ql (XG (by decide)) (Ql (X4 ok.1 ok.2) Q5),G8 rfl,λH' g'=>?_⟩;rw[QS];exact q _ (U.trans g')
theorem dB (T:Tx w K mg):Z7 P w K mg base 2 t.zJ "row" ["self"] (Sp1M (LC K t 1)):=by
 refine Xq T 6702 ["self"] Zq λH Q dn hr h=>?_
 obtain⟨_,rfl,i,hi,e,ok,q⟩:=h;refine⟨_,(Qc (Qf (Kn (aH T) (Km (Qq (lU Qi (LA K (pu 0)) (LA K (pu 0)) (LA K (pu 0)))))))),?_⟩;obtain⟨a,l,h',x,dx,rfl,rfl,U⟩:=qm hi e;obtain⟨⟨o1,o2⟩,o3,o4,o5⟩:=ok;left;refine QH U T.aE T.bX Cr (QH U T.aE T.bY Cn (QH U T.aE T.bZ Co ⟨by decide,λp2 J=>?_⟩));have g2:=Qd J (.lst [V.str "each",.int a,.int l,.int h']);refine⟨p2,_,["each",nt a,nt l,nt h'],rfl,G5 Qb,Ql (XG (by decide)) (Ql (X4 o1 o2) (Ql (X4 o3 (by omega)) (Ql (X4 (by omega) (by omega)) Q5))),G8 rfl,λH' g'=>?_⟩;rw[QS];exact q _ (g2.trans g')
theorem dI (T:Tx w K mg):Z7 P w K mg base 2 t.zK "row" ["self"] (Sp1M (LC K t 2)):=by
 refine Xq T 6802 ["self"] Zq λH Q dn hr h=>?_
 obtain⟨_,rfl,i,hi,e,ok,q⟩:=h;refine⟨_,(Qc (Qf (Kn (aH T) (Km (Qq (Lu Qi (Kn (bH T) (Km (LA K (pu 0)))) (LA K (pu 0)))))))),?_⟩;obtain⟨r,s',m,x,dx,p,rfl,rfl,U,hp⟩:=ql hi e;left;refine QH U T.aO T.c7 Cg ⟨p,r,s',rfl,hp,ok.1,?_⟩;refine QH U T.aO T.c8 Ci ⟨by decide,λp2 J=>?_⟩;have g2:=Qd J (.lst [V.str "rent",.str (Q6 r s'),.int m]);refine⟨p2,_,["rent",Q6 r s',nt m],rfl,G5 Qb,Ql (XG (by decide)) (Ql (XG (Y7 ok.1)) (Ql (X4 ok.2.1 ok.2.2) Q5)),G8 rfl,λH' g'=>?_⟩;rw[QS];exact q _ (g2.trans g')
theorem dJ (T:Tx w K mg):Z7 P w K mg base 2 t.zM "row" ["self"] (Sp1M (LC K t 3)):=by
 refine Xq T 7002 ["self"] Zq λH Q dn hr h=>?_
 obtain⟨_,rfl,i,hi,e,ok,q⟩:=h;refine⟨_,(Qc (Qf (Kn (aH T) (Km (Qq (lU Qi (LA K (pu 0)) (LA K (pu 0)) (LA K (pu 0)))))))),?_⟩;obtain⟨n,l,h',x,dx,rfl,rfl,U⟩:=qk hi e;obtain⟨⟨o1,o2⟩,o3,o4,o5⟩:=ok;left;refine QH U T.aF T.c9 Tq (QH U T.aF T.cA Tr (QH U T.aF T.cB Ts ⟨by decide,λp2 J=>?_⟩));have g2:=Qd J (.lst [V.str "from",.int n,.int l,.int h']);refine⟨p2,_,["from",nt n,nt l,nt h'],rfl,G5 Qb,Ql (XG (by decide)) (Ql (X4 o1 (by omega)) (Ql (X4 o3 (by omega)) (Ql (X4 (by omega) (by omega)) Q5))),G8 rfl,λH' g'=>?_⟩;rw[QS];exact q _ (g2.trans g')
theorem dM (T:Tx w K mg):Z7 P w K mg base 2 t.zN "row" ["self"] (Sp1M (LC K t 4)):=by
 refine Xq T 7102 ["self"] Zq λH Q dn hr h=>?_
 obtain⟨_,rfl,i,hi,e,ok,q⟩:=h;refine⟨_,(Qc (Qf (Kn (aH T) (Km (Qq (lU Qi (LA K (pu 0)) (LA K (pu 0)) (LA K (pu 0)))))))),?_⟩;obtain⟨n,l,h',x,dx,rfl,rfl,U⟩:=qj hi e;obtain⟨⟨o1,o2⟩,o3,o4,o5⟩:=ok;left;refine QH U T.aG T.cD Tq (QH U T.aG T.cE Tr (QH U T.aG T.cG Ts ⟨by decide,λp2 J=>?_⟩));have g2:=Qd J (.lst [V.str "upto",.int n,.int l,.int h']);refine⟨p2,_,["upto",nt n,nt l,nt h'],rfl,G5 Qb,Ql (XG (by decide)) (Ql (X4 o1 (by omega)) (Ql (X4 o3 (by omega)) (Ql (X4 (by omega) (by omega)) Q5))),G8 rfl,λH' g'=>?_⟩;rw[QS];exact q _ (g2.trans g')
inductive mR (K)(t)(x)(H:Hp)(Q:VK):Prop
 | mk (N:Addr->Prop) (k:Str×List Itm) (h1:KdR K t N H k x) (h2:WfI k.2) (h3:Xv k.1) (h4:k.2.length<=100) (h5:∀a H',Same H H'->H a=none->H' a=some (.lst (LF (Mo k)))->Q (.ref a) H'):mR K t x H Q
def sR (l:Addr)(rs:List Row)(is:List Itm)(n:Nat)(H0:Hp)(i:Nat)(acc:List V)(σ':L2.St)(H':Hp):Prop:=σ'.length=n/\Same H0 H'/\H' l=some (.lst (LF rs))/\acc=LF ((is.take i).map Row.itm)
theorem V7 {t}{f}{R}{σ}{a}{is} 
  (hc:(KD caps σ).length=n) (hl0:H0 l=none) (g0:Same H0 H) (hl:H l=some (.lst (LF rs))) (hfl:∀{H:Hp} {Q:VK},Same H0 H->Q (.ref a) H->Y2 K (Zp 0) f σ H Q)
  (ha:H0 a=some (.lst vs)) (hA:All2 (PIt K t H0) is vs) (n1:rs.length+is.length<=1000)
  (hs:∀(it:Itm) (v:V) (H2:Hp) (σ2:L2.St) (Z:L2.St->V->Hp->Prop),it∈is->PIt K t H2 it v->σ2.length=n->(∀J U,J.length=n->Same H2 U->Z J (.str (Row.itm it).tx) U)->g v σ2 H2 λJ H3=>te J H3 λu U=>Z J u U)
  (q:∀H2,Same H0 H2->H2 l=some (.lst (LF (rs++is.map Row.itm)))->R .non H2) :
  lq K "list" (.ref l) H/\Y4 caps (NT K (Y2 K (Zp 0) f)) g RV te σ H λv H1=>NG (.ref l) [v] H1 R:=by
 refine⟨.inl ⟨rfl,_,G5 hl⟩,?_⟩;simp only[QX];have a5:=hA.1;refine hfl g0 ⟨a,rfl,⟨_,G5 (g0 _ _ ha)⟩,Zt (xs:=vs) (sR l rs is n H0) ⟨hc,g0,hl,rfl⟩ (λi acc σ' H' _ h=>G5 (h.2.1 _ _ ha)) (by omega) ?_ ?_⟩
 ·rintro i v acc σ2 H2 hv a4 ⟨hn,g2,hl2,rfl⟩;obtain⟨it,a0,hp⟩:=hA.getV hv;simp only[Zw,if_true];refine hs it v H2 σ2 _ (AG a0) (hp.kp (N:=λ_=>True) (.of g2)) hn λJ U h3 g4=>CN.mk (Qt hv) (by rw[Aq,Av];omega) ⟨h3,g2.trans g4,g4 _ _ hl2,?_⟩
  rw[AX,a0];show _=List.map _ _;rw[Az,Az];rfl
 ·rintro acc σ2 H2 ⟨hn,g2,hl2,rfl⟩ p hp;rw[AJ (by omega)];have g3:=Qd hp (.lst (LF (is.map Row.itm)));refine⟨l,p,_,_,rfl,rfl,g3 _ _ hl2,Qb,by rw[As,As,As,AB];omega,q _ (λb o h=>?_) (by rw[Qb,<-Az])⟩;rw[Qk (Qj h hl0)];exact(g2.trans g3) _ _ h
theorem LH {t}{it}{σ}(hp:PIt K t H it v)(e:σ[0]?=some (some v))(hc:it.ct<5)(ok:it.Ok)(q:∀H',Same H H'->Q (.str (Row.itm it).tx) H') :
  L3 (X7 t.zI "row" (Sp1M (LC K t 0)) [] E0 (Zp 0) W0) (L3 (X7 t.zJ "row" (Sp1M (LC K t 1)) [] E0 (Zp 0) W0) (L3 (X7 t.zK "row" (Sp1M (LC K t 2)) [] E0 (Zp 0) W0) (L3 (X7 t.zM "row" (Sp1M (LC K t 3)) [] E0 (Zp 0) W0) (X7 t.zN "row" (Sp1M (LC K t 4)) [] E0 (Zp 0) W0)))) σ H Q:=by
 have J:=hp;cases hp with
 | base a x dx h=>exact .inl (Xm h F8 (show LC K t 0 (.ref x) H Q from⟨_,J,rfl,ok,q⟩) e)
 | each a l h' x dx h=>exact .inr (.inl (Xm h F7 (show LC K t 1 (.ref x) H Q from⟨_,J,rfl,ok,q⟩) e))
 | rent r s m x dx p h _=>exact .inr (.inr (.inl (Xm h F6 (show LC K t 2 (.ref x) H Q from⟨_,J,rfl,ok,q⟩) e)))
 | from' n l h' x dx h=>exact .inr (.inr (.inr (.inl (Xm h B6 (show LC K t 3 (.ref x) H Q from⟨_,J,rfl,ok,q⟩) e))))
 | upto n l h' x dx h=>exact .inr (.inr (.inr (.inr (Xm h B6 (show LC K t 4 (.ref x) H Q from⟨_,J,rfl,ok,q⟩) e))))
 | _=>exact absurd hc (by simp[Itm.ct])
theorem SD {it:Itm}(h:it.sl<=1):it.ct<5:=by
 cases it with
 | term b=>cases b<;>exact G8 rfl
 | base=>exact G8 rfl
 | each=>exact G8 rfl
 | rent=>exact G8 rfl
 | _=>simp[Itm.sl] at h
theorem Yw (xs)(j:Nat):(Kr xs j).length<=xs.length:=Iw ..
theorem Xx {xs}{x}(h:x∈Kr xs j):x∈xs:=(Ik.mp h).1
theorem Hr {li:V}(wf:WfI k)(h:match k.filter λx=>decide (x.sl=5) with|.unt a::_=>li=.int a|_=>li=.non):(Kr k 5=[]/\li=.non)∨∃a,Kr k 5=[.unt a]/\li=.int a/\ZR a:=by
 have c:((Kr k 5).length:Int)<=1:=wf.ct 5 (by decide) (by decide);have m:∀y∈Kr k 5,y.sl=5/\y.Ok:=λy J=>⟨Zr J,wf.ok y (Xx J)⟩
 change match Kr k 5 with|.unt a::_=>li=.int a|_=>li=.non at h
 generalize Kr k 5=ys at *;cases ys with
 | nil=>exact .inl ⟨rfl,h⟩
 | cons y ys=>
  have:ys=[]:=IP.mp (by rw[AN] at c;omega);subst this;have m:=m y AH;cases y with
  | unt a=>exact .inr ⟨a,rfl,h,m.2⟩
  | _=>exact absurd m.1 (by simp[Itm.sl])
theorem Ba {un wa:V}(wf:WfI k)(h:match k.filter λx=>decide (x.sl=6) with|.rnd u z::_=>un=.int u/\wa=.str z|_=>un=.non):(Kr k 6=[]/\un=.non)∨∃u z,Kr k 6=[.rnd u z]/\un=.int u/\wa=.str z/\(Itm.rnd u z).Ok:=by
 have c:((Kr k 6).length:Int)<=1:=wf.ct 6 (by decide) (by decide);have m:∀y∈Kr k 6,y.sl=6/\y.Ok:=λy J=>⟨Zr J,wf.ok y (Xx J)⟩
 change match Kr k 6 with|.rnd u z::_=>un=.int u/\wa=.str z|_=>un=.non at h
 generalize Kr k 6=ys at *;cases ys with
 | nil=>exact .inl ⟨rfl,h⟩
 | cons y ys=>
  have:ys=[]:=IP.mp (by rw[AN] at c;omega);subst this;have m:=m y AH;cases y with
  | rnd u z=>exact .inr ⟨u,z,rfl,h.1,h.2,m.2⟩
  | _=>exact absurd m.1 (by simp[Itm.sl])
theorem Vh {r}:LF rs++[.str r.tx]=LF (rs++[r]):=by
 show _=List.map _ _;rw[Az];rfl
theorem EM {ys:List Itm}{R:Hp->Prop}(hl0:H0 l=none)(g0:Same H0 H)(hl:H l=some (.lst (LF rs)))(hfl:∀{H:Hp}{Q:VK},Same H0 H->Q li H->Y2 K (Zp 0) "limit" σ H Q)(hn:rs.length<=1000)
  (e:(ys=[]/\li=.non)∨∃a,ys=[.unt a]/\li=.int a/\ZR a) (q:∀HG,Same H0 HG->HG l=some (.lst (LF (rs++ys.map Row.itm)))->R HG) :
  Y2 K (Zp 0) "limit" σ H λx H1=>True/\if¬x=.non then lq K "list" (.ref l) H1/\Y2 K (Zp 0) "limit" σ H1 λy H2=>2<=sizeLine/\∀p,H2 p=none->O4 K (.ref p) (upd H2 p (.lst [.str "until",y])) λz H3=>Y9 (.ref l) [z] H3 λ_ U=>R U else R H1:=by
 refine hfl g0 ⟨trivial,?_⟩;rcases e with ⟨rfl,rfl⟩|⟨a,rfl,rfl,ok⟩
 ·rw[Am (λh=>h rfl)];exact q _ g0 (by rw[List.map_nil,Ie];exact hl)
 ·rw[An (λh=>by cases h)];refine⟨.inl ⟨rfl,_,G5 hl⟩,hfl g0 ⟨by decide,λp hp=>?_⟩⟩;have J:=Qd hp (.lst [V.str "until",.int a]);refine⟨p,_,["until",nt a],rfl,G5 Qb,Ql (XG (by decide)) (Ql (X4 ok.1 ok.2) Q5),G8 rfl,λH' g'=>?_⟩;rw[QS];refine⟨l,_,_,rfl,rfl,(J.trans g') _ _ hl,by rw[As,AB];omega,q _ (λb o h=>?_) (by rw[Qb];exact congrArg (λz=>some (HO.lst z)) (Vh (r:=.itm (.unt a))))⟩;rw[Qk (Qj h hl0)];exact(g0.trans (J.trans g')) _ _ h
theorem E4 {ys:List Itm}{R:Hp->Prop}(hl0:H0 l=none)(g0:Same H0 H)(hl:H l=some (.lst (LF rs)))(hfl:∀{H:Hp}{Q:VK},Same H0 H->Q un H->Y2 K (Zp 0) "unit" σ H Q)(hfw:∀{H:Hp}{Q:VK},Same H0 H->Q wa H->Y2 K (Zp 0) "way" σ H Q)(hn:rs.length<=1000)
  (e:(ys=[]/\un=.non)∨∃u z,ys=[.rnd u z]/\un=.int u/\wa=.str z/\(Itm.rnd u z).Ok) (q:∀HG,Same H0 HG->HG l=some (.lst (LF (rs++ys.map Row.itm)))->R HG) :
  Y2 K (Zp 0) "unit" σ H λx H1=>True/\if¬x=.non then lq K "list" (.ref l) H1/\Y2 K (Zp 0) "unit" σ H1 λy H2=>Y2 K (Zp 0) "way" σ H2 λy' H2=>3<=sizeLine/\∀p,H2 p=none->O4 K (.ref p) (upd H2 p (.lst [.str "round",y,y'])) λz H3=>Y9 (.ref l) [z] H3 λ_ U=>R U else R H1:=by
 refine hfl g0 ⟨trivial,?_⟩;rcases e with ⟨rfl,rfl⟩|⟨u,z,rfl,rfl,rfl,ok⟩
 ·rw[Am (λh=>h rfl)];exact q _ g0 (by rw[List.map_nil,Ie];exact hl)
 ·rw[An (λh=>by cases h)];refine⟨.inl ⟨rfl,_,G5 hl⟩,hfl g0 (hfw g0 ⟨by decide,λp hp=>?_⟩)⟩;have J:=Qd hp (.lst [V.str "round",.int u,.str z]);refine⟨p,_,["round",nt u,z],rfl,G5 Qb,Ql (XG (by decide)) (Ql (X4 (by have:=ok.1.1;omega) ok.1.2) (Ql (XG (LO (r:=.itm (.rnd u z)) ok (AE _ AH))) Q5)),G8 rfl,λH' g'=>?_⟩;rw[QS];refine⟨l,_,_,rfl,rfl,(J.trans g') _ _ hl,by rw[As,AB];omega,q _ (λb o h=>?_) (by rw[Qb];exact congrArg (λz=>some (HO.lst z)) (Vh (r:=.itm (.rnd u z))))⟩;rw[Qk (Qj h hl0)];exact(g0.trans (J.trans g')) _ _ h
theorem iG (T:Tx w K mg):LB P w K mg base 3 "rows_of_kind" ["kind"] (Sp1M (mR K t)):=by
 refine QI T 86 ["kind","rows"] Zq λH Q dn hr h=>?_
 obtain⟨_,rfl,N,k,⟨x,dx,li,un,wa,m,rfl,hx,hm,a7,a6⟩,wf,nm,len,q⟩:=h;refine⟨_,(Qa (Ks 1 (Qq (Km (Kn (aH T) (Km (Qq (Kq Qi (LA K (pu 0))))))))) (Qa (Qw (QA K rfl AL Gb Ga ZG (pu 1) (Km (Lz ["part"] [none] (L0 K rfl (LA K (pu 0))) (Ky 0) QL (Xp (Zh (d9 T) (LG hr) T.aU (pu 0)) (Xp (Zh (dB T) (LG hr) T.aE (pu 0)) (Xp (Zh (dI T) (LG hr) T.aO (pu 0)) (Xp (Zh (dJ T) (LG hr) T.aF (pu 0)) (Zh (dM T) (LG hr) T.aG (pu 0)))))))))) (Qa (Qw (QA K rfl AL Gb Ga ZG (pu 1) (Km (Lz ["term"] [none] (L0 K rfl (LA K (pu 0))) (Ky 0) QL (Xp (Zh (d9 T) (LG hr) T.aU (pu 0)) (Xp (Zh (dB T) (LG hr) T.aE (pu 0)) (Xp (Zh (dI T) (LG hr) T.aO (pu 0)) (Xp (Zh (dJ T) (LG hr) T.aF (pu 0)) (Zh (dM T) (LG hr) T.aG (pu 0)))))))))) (Qa (Qw (QA K rfl AL Gb Ga ZG (pu 1) (Km (Lz ["rate","low","high"] [none,none,none] (L0 K rfl (LA K (pu 0))) (ON (n:=3) K rfl rfl (Qm (Ky 0) (Qm (Ky 1) (Qm (Ky 2) QV)))) QL (Kn (aH T) (Km (Qq (lU Qi (Kn (bH T) (Km (pu 0))) (pu 1) (pu 2))))))))) (Qa (Qw (QA K rfl AL Gb Ga ZG (pu 1) (Km (Lz ["title","rate"] [none,none] (L0 K rfl (LA K (pu 0))) (ON (n:=2) K rfl rfl (Qm (Ky 0) (Qm (Ky 1) QV))) QL (Kn (aH T) (Km (Qq (Lu Qi (pu 0) (Kn (bH T) (Km (pu 1))))))))))) (Qa (Qw (QA K rfl AL Gb Ga ZG (pu 1) (Km (Lz ["limit","rate"] [none,none] (L0 K rfl (LA K (pu 0))) (ON (n:=2) K rfl rfl (Qm (Ky 0) (Qm (Ky 1) QV))) QL (Kn (aH T) (Km (Qq (Lu Qi (pu 0) (Kn (bH T) (Km (pu 1))))))))))) (Qa (Qn (Ku NL (LA K (pu 0)) JD) (Qc (Qw (QA K rfl AL A0 A1 Qv (pu 1) (Km (Kn (aH T) (Km (Qq (Kq Qi (LA K (pu 0)))))))))) Qh) (Qa (Qn (Ku NL (LA K (pu 0)) JD) (Qc (Qw (QA K rfl AL A0 A1 Qv (pu 1) (Km (Kn (aH T) (Km (Qq (Lu Qi (LA K (pu 0)) (LA K (pu 0)))))))))) Qh) (Qc (Qf (pu 1))))))))))),?_⟩;left;refine QH hx T.aB T.bM UD ⟨by decide,λp1 a8=>?_⟩;have g1:=Qd a8 (.lst [V.str "kind",.str k.1]);refine⟨p1,_,["kind",k.1],rfl,G5 Qb,Ql (XG (by decide)) (Ql (XG (Vv nm)) Q5),G8 rfl,λH1 a5=>?_⟩;rw[QS];refine⟨by decide,λl hl=>?_⟩;left;have J:H l=none:=(g1.trans a5).free hl;have gA:=(g1.trans a5).trans (Qd hl (.lst [V.str (Txt.join blank ["kind",k.1])]));have kA:upd H1 l (.lst [V.str (Txt.join blank ["kind",k.1])]) l=some (.lst (LF [.kind k.1])):=Qb;generalize upd H1 l (.lst [V.str (Txt.join blank ["kind",k.1])])=HA at *;obtain⟨_,v0,j0,a0⟩:=hm 0 (by decide);obtain⟨_,v1,j1,a1⟩:=hm 1 (by decide);obtain⟨_,v2,j2,a2⟩:=hm 2 (by decide);obtain⟨_,v3,j3,a3⟩:=hm 3 (by decide);obtain⟨_,v4,j4,a4⟩:=hm 4 (by decide);have n0:=Yw k.2 0;have n1:=Yw k.2 1;have n2:=Yw k.2 2;have n3:=Yw k.2 3;have n4:=Yw k.2 4;refine V7 (n:=1) rfl J gA kA (λg q=>QH (g _ _ hx) T.aB T.bN UF q) j0 a0 (by show 1+(Kr k.2 0).length<=1000;omega) (λit v H2 σ2 Z hi hp hn hZ=>?_) (λHB gB kB=>?_)
 ·obtain⟨x0,rfl⟩:=List.length_eq_one_iff.mp hn;exact LH hp rfl (SD (by rw[Zr hi];decide)) (wf.ok _ (Xx hi)) λH' g'=>hZ _ _ rfl g'
 refine V7 (n:=1) rfl J gB kB (λg q=>QH (g _ _ hx) T.aB T.bO UE q) j1 a1 (by show([Row.kind k.1]++(Kr k.2 0).map Row.itm).length+(Kr k.2 1).length<=1000;rw[Aq,As,Av];omega) (λit v H2 σ2 Z hi hp hn hZ=>?_) (λHC gC kC=>?_)
 ·obtain⟨x0,rfl⟩:=List.length_eq_one_iff.mp hn;exact LH hp rfl (SD (by rw[Zr hi];decide)) (wf.ok _ (Xx hi)) λH' g'=>hZ _ _ rfl g'
 refine V7 (n:=3) rfl J gC kC (λg q=>QH (g _ _ hx) T.aB T.bP NS q) j2 a2 (by show(([Row.kind k.1]++(Kr k.2 0).map Row.itm)++(Kr k.2 1).map Row.itm).length+(Kr k.2 2).length<=1000;simp only[Aq,As,Av];omega) (λit v H2 σ2 Z hi hp hn hZ=>?_) (λHD gD kD=>?_)
 ·have ok:=wf.ok _ (Xx hi);cases hp with
  | pay r s' l' h' y p hy hp=>
   match σ2,hn with
   | [x0,x1,x2],_=>
    left;refine⟨p,r,s',rfl,hp,ok.1,by decide,λp2 U=>?_⟩;have g2:=Qd U (.lst [V.str "pay",.str (Q6 r s'),.int l',.int h']);obtain⟨_,o1,o2,o3⟩:=id ok;refine⟨p2,_,["pay",Q6 r s',nt l',nt h'],rfl,G5 Qb,Ql (XG (by decide)) (Ql (XG (Y7 ok.1)) (Ql (X4 o1 (by omega)) (Ql (X4 (by omega) (by omega)) Q5))),G8 rfl,λH' g'=>?_⟩;rw[QS];exact hZ _ _ rfl (g2.trans g')
  | _=>have:=Zr hi;simp[Itm.sl] at this
 refine V7 (n:=2) rfl J gD kD (λg q=>QH (g _ _ hx) T.aB T.cW MO q) j3 a3 (by show((([Row.kind k.1]++(Kr k.2 0).map Row.itm)++(Kr k.2 1).map Row.itm)++(Kr k.2 2).map Row.itm).length+(Kr k.2 3).length<=1000;simp only[Aq,As,Av];omega) (λit v H2 σ2 Z hi hp hn hZ=>?_) (λHE gE kE=>?_)
 ·have ok:=wf.ok _ (Xx hi);cases hp with
  | cnt z r s' y p hy hp=>
   match σ2,hn with
   | [x0,x1],_=>
    left;refine⟨p,r,s',rfl,hp,ok.2,by decide,λp2 U=>?_⟩;have g2:=Qd U (.lst [V.str "counts",.str z,.str (Q6 r s')]);refine⟨p2,_,["counts",z,Q6 r s'],rfl,G5 Qb,Ql (XG (by decide)) (Ql (XG (Vv ok.1)) (Ql (XG (Y7 ok.2)) Q5)),G8 rfl,λH' g'=>?_⟩;rw[QS];exact hZ _ _ rfl (g2.trans g')
  | _=>have:=Zr hi;simp[Itm.sl] at this
 refine V7 (n:=2) rfl J gE kE (λg q=>QH (g _ _ hx) T.aB T.aT Wj q) j4 a4 (by show(((([Row.kind k.1]++(Kr k.2 0).map Row.itm)++(Kr k.2 1).map Row.itm)++(Kr k.2 2).map Row.itm)++(Kr k.2 3).map Row.itm).length+(Kr k.2 4).length<=1000;simp only[Aq,As,Av];omega) (λit v H2 σ2 Z hi hp hn hZ=>?_) (λHF gF kF=>?_)
 ·have ok:=wf.ok _ (Xx hi);cases hp with
  | off l' r s' y p hy hp=>
   match σ2,hn with
   | [x0,x1],_=>
    left;refine⟨p,r,s',rfl,hp,ok.2,by decide,λp2 U=>?_⟩;have g2:=Qd U (.lst [V.str "off",.int l',.str (Q6 r s')]);refine⟨p2,_,["off",nt l',Q6 r s'],rfl,G5 Qb,Ql (XG (by decide)) (Ql (X4 ok.1.1 ok.1.2) (Ql (XG (Y7 ok.2)) Q5)),G8 rfl,λH' g'=>?_⟩;rw[QS];exact hZ _ _ rfl (g2.trans g')
  | _=>have:=Zr hi;simp[Itm.sl] at this
 refine EM J gF kF (λg q=>QH (g _ _ hx) T.aB T.cX BV q) (by show((((([Row.kind k.1]++(Kr k.2 0).map Row.itm)++(Kr k.2 1).map Row.itm)++(Kr k.2 2).map Row.itm)++(Kr k.2 3).map Row.itm)++(Kr k.2 4).map Row.itm).length<=1000;simp only[Aq,As,Av];omega) (Hr wf a7) (λHG gG kG=>?_);have n5:=Yw k.2 5;refine E4 J gG kG (λg q=>QH (g _ _ hx) T.aB T.bE VC q) (λg q=>QH (g _ _ hx) T.aB T.bQ BU q) (by show(((((([Row.kind k.1]++(Kr k.2 0).map Row.itm)++(Kr k.2 1).map Row.itm)++(Kr k.2 2).map Row.itm)++(Kr k.2 3).map Row.itm)++(Kr k.2 4).map Row.itm)++(Kr k.2 5).map Row.itm).length<=1000;simp only[Aq,As,Av];omega) (Ba wf a6) (λHH gH kH=>?_);refine q l _ gH J (kH.trans (congrArg (λz=>some (HO.lst (LF z))) ?_));show((((((([Row.kind k.1]++(Kr k.2 0).map Row.itm)++(Kr k.2 1).map Row.itm)++(Kr k.2 2).map Row.itm)++(Kr k.2 3).map Row.itm)++(Kr k.2 4).map Row.itm)++(Kr k.2 5).map Row.itm)++(Kr k.2 6).map Row.itm)=Row.kind k.1::(nrm k.2).map Row.itm;unfold nrm;simp only[Az,List.append_assoc,List.singleton_append,List.cons_append,List.nil_append]
theorem Us:(oF a b).lookup (Str.ofString "kinds")=some a:=by kernel_rfl
theorem NN:(oF a b).lookup (Str.ofString "caps")=some b:=by kernel_rfl
theorem Uc (f:(Str×List Itm)->Nat):∀(ks:List (Str×List Itm)) (i:Nat),((ks.take i).map f).sum<=(ks.map f).sum
 | [],i=>by simp
 | k::ks,0=>by simp
 | k::ks,i+1=>by
  have:=Uc f ks i;simp only[List.take_succ_cons,A3,List.sum_cons];omega
theorem RU (k):(Mo k).length=k.2.length+1:=by
 show(Row.kind k.1::(nrm k.2).map Row.itm).length=_;rw[AN,As,Jj]
theorem Nh (ks:List (Str×List Itm)):((ks.map Mo).flatten).length=(ks.map λk=>k.2.length+1).sum:=by
 rw[List.length_flatten,IV]
 congr 2
 funext k
 exact RU k
theorem Ed {k}(h:ks[i]?=some k)(hn:nr ks cs<=1000):(((ks.take i).map Mo).flatten).length+(Mo k).length<=1000:=by
 have e:(ks.take (i+1)).map Mo=(ks.take i).map Mo++[Mo k]:=by rw[AX,h,Az];rfl
 have l:=Nh (ks.take (i+1));rw[e,IC,List.flatten_cons,List.flatten_nil,Ie,Aq] at l;have:=Uc (λk=>k.2.length+1) ks (i+1);unfold nr at hn;omega
theorem RS:LF rs++LF rs'=LF (rs++rs'):=(Az ..).symm
inductive ni (K)(t)(x)(H:Hp)(Q:VK):Prop
 | mk (N:Addr->Prop) (ks:List (Str×List Itm)) (cs:List Cp) (as:List Str) (h1:OfR K t N H x ks cs) (h2:WfO ks cs as) (h3:∀k∈ks,k.2.length<=100) (h4:nr ks cs<=1000) (h5:∀a H',Same H H'->H a=none->H' a=some (.lst (LF (tl ks cs)))->Q (.ref a) H'):ni K t x H Q
def Cz (x l:Addr)(rs:Nat->List Row)(H:Hp)(i:Nat)(σ':L2.St)(H':Hp):Prop:=∃x2 x3:Option V,σ'=[some (.ref x),some (.ref l),x2,x3]/\Same H H'/\H' l=some (.lst (LF (rs i)))
abbrev GZ (c:Cp):Row:=.cap c.1 c.2.1 c.2.2
theorem iH (T:Tx w K mg):LB P w K mg base 4 "rows_of" ["office"] (Sp1M (ni K t)):=by
 refine QI T 87 ["office","rows","kind","cap"] Zq λH Q dn hr h=>?_
 obtain⟨_,rfl,N,ks,cs,as,⟨x,dx,m1,m2,kvs,cvs,rfl,hx,_,_,j1,j2,hk,hc⟩,wf,len,hn,q⟩:=h;refine⟨_,(Qa (Ks 1 (Qq QE)) (Qa (Lx (L0 K rfl (LA K (pu 0))) (Ky 2) (Qc (Qw (QA K rfl AL Gb Ga ZG (pu 1) (Km (Kn (iG T) (Km (pu 2)))))))) (Qa (Lx (L0 K rfl (LA K (pu 0))) (Ky 3) (Qc (Qw (QA K rfl AL A0 A1 Qv (pu 1) (Km (Kn (aH T) (Km (Qg Qu (Qq (Lu Qi (LA K (pu 3)) (LA K (pu 3)))) (LA K (pu 3)))))))))) (Qc (Qf (pu 1)))))),?_⟩;left;refine⟨by decide,λl hl=>?_⟩;have g1:=Qd hl (.lst []);have kl:=Qb (H:=H) (a:=l) (o:=.lst []);generalize upd H l (.lst [])=H1 at *;left;have nk:(ks.map λk=>k.2.length+1).sum+cs.length<=1000:=hn;refine QH (g1 _ _ hx) T.aR T.bU Us ⟨m1,rfl,⟨_,G5 (g1 _ _ j1)⟩,Z6 (xs:=kvs) (Cz x l (λi=>((ks.take i).map Mo).flatten) H) ⟨none,none,rfl,g1,kl⟩ (λi σ' H' _ h=>by obtain⟨_,_,_,g',_⟩:=h;exact G5 (g' _ _ j1)) ?_ ?_⟩
 ·rintro i v _ H2 hv ⟨x2,x3,rfl,g,kl2⟩;obtain⟨k,a0,hP⟩:=hk.getV hv;have hm:=AG a0;left;refine⟨.inl ⟨rfl,_,G5 kl2⟩,N,k,hP.kp (.of g),wf.i k hm,wf.t k hm,len k hm,λa U J _ ka=>?_⟩;have:=Ed a0 hn
  change H2 l=some (.lst (LF ((ks.take i).map Mo).flatten)) at kl2
  refine⟨l,a,_,_,rfl,rfl,J _ _ kl2,ka,by rw[As,As,AB];omega,_,_,rfl,λb o h=>?_,?_⟩
  ·rw[Qk (Qj h hl)];exact(g.trans J) _ _ h
  ·show upd U l (.lst (LF ((ks.take i).map Mo).flatten++LF (Mo k))) l=some (.lst (LF ((ks.take (i+1)).map Mo).flatten));rw[Qb,AX,a0,Az,IC];exact congrArg (λz=>some (HO.lst z)) (by rw[RS];show LF _=LF (_++[Mo k].flatten);rw[List.flatten_cons,List.flatten_nil,Ie])
 ·rintro _ H2 ⟨x2,x3,rfl,g,kl2⟩
  change H2 l=some (.lst (LF ((ks.take kvs.length).map Mo).flatten)) at kl2
  rw [<-hk.1,IM] at kl2;have ln:=Nh ks;left;refine QH (g _ _ hx) T.aR T.bV NN ⟨m2,rfl,⟨_,G5 (g _ _ j2)⟩,Z6 (xs:=cvs) (Cz x l (fun i=>(ks.map Mo).flatten++(cs.take i).map GZ) H) ⟨_,_,rfl,g,by show H2 l=some (.lst (LF ((ks.map Mo).flatten++(cs.take 0).map GZ)));rw [List.take_zero,List.map_nil,Ie];exact kl2⟩ (fun i σ' H' _ h=>by obtain ⟨_,_,_,g',_⟩:=h;exact G5 (g' _ _ j2)) ?_ ?_⟩
  ·rintro i v _ U hv ⟨x2,x3,rfl,J,kl3⟩;obtain⟨c,a4,y,dy,p,rfl,hy,hp,_⟩:=hc.getV hv;have hm:=AG a4;have ok:=wf.c c hm;have il:i<cs.length:=(AU.mp a4).1;left;refine⟨.inl ⟨rfl,_,G5 kl3⟩,QH (J _ _ hy) T.aM T.bR U1 (QH (J _ _ hy) T.aM T.bS Mf ⟨by decide,λp1 a8=>?_⟩)⟩;have g4:=Qd a8 (.lst [V.str "cap",.int c.1,.int c.2.1]);have k4:=Qb (H:=U) (a:=p1) (o:=.lst [V.str "cap",.int c.1,.int c.2.1]);generalize upd U p1 (.lst [V.str "cap",.int c.1,.int c.2.1])=H4 at *;have a6:=J.trans g4;refine QH (a6 _ _ hy) T.aM T.bT K4 ?_;refine T2 ⟨p1,p,_,_,rfl,rfl,k4,a6 _ _ hp,by rw[As,AB];have:=ok.2.2.2.2;show 3+_<=_;omega,λp5 a7=>?_⟩;have g5:=Qd a7 (.lst ([V.str "cap",.int c.1,.int c.2.1]++c.2.2.map V.str));refine⟨p5,_,Str.ofString "cap" :: nt c.1::nt c.2.1::c.2.2,rfl,G5 Qb,Ql (XG (by decide)) (Ql (X4 ok.1.1 ok.1.2) (Ql (X4 ok.2.1.1 ok.2.1.2) ⟨(As ..).symm,λj z v h1 h2=>?_⟩)),by have:=ok.2.2.2.2;simp only[AN];omega,λH6 g6=>?_⟩
   ·change (c.2.2.map V.str)[j]?=some v at h2
    rw[AS,h1] at h2;cases h2;exact XG (Vv (ok.2.2.1 z (AG h1)))
   ·rw[QS];have a5:=g4.trans (g5.trans g6)
    change U l=some (.lst (LF ((ks.map Mo).flatten++(cs.take i).map GZ))) at kl3
    refine⟨l,_,_,rfl,rfl,a5 _ _ kl3,by rw[As,Aq,As,Ig,AB];omega,_,_,rfl,λb o h=>?_,?_⟩
    ·rw[Qk (Qj h hl)];exact(J.trans a5) _ _ h
    ·show upd H6 l (.lst (LF ((ks.map Mo).flatten++(cs.take i).map GZ)++[.str (GZ c).tx])) l=some (.lst (LF ((ks.map Mo).flatten++(cs.take (i+1)).map GZ)));rw[Qb,AX,a4,Az,<-List.append_assoc,Vh];rfl
  ·rintro _ U ⟨x2,x3,rfl,J,kl3⟩
   change U l=some (.lst (LF ((ks.map Mo).flatten++(cs.take cvs.length).map GZ))) at kl3
   rw [<-hc.1,IM] at kl3;left;exact q _ _ J hl kl3
structure Pn where
 nm:Str
 ag:Int
 py:Int
 rn:Int
def Pr (K:W.Frag)(H:Hp)(r:Pn)(v:V):Prop:=∃p,v=.ref p/\Kt K H p [.str r.nm,.int r.ag,.int r.py,.int r.rn]
theorem Pr.same {r}(h:Pr K H r v)(g:Same H H'):Pr K H' r v:=by
 obtain⟨p,rfl,h⟩:=h;exact⟨p,rfl,g.sqT h⟩
def Hm (K:W.Frag)(H:Hp)(rs:List Pn)(a:Addr):Prop:=∃vs,Kv K H a vs/\All2 (Pr K H) rs vs
theorem Hm.same {rs}{a}(h:Hm K H rs a)(g:Same H H'):Hm K H' rs a:=by
 obtain⟨vs,h1,h2⟩:=h;exact⟨vs,g.seq h1,h2.imp λ_ _ y=>y.same g⟩
def Lq (lo hi:Int)(r:Pn):Bool:=decide (lo<=r.ag)&&decide (r.ag<=hi)
def lp (K:W.Frag):V->V->V->Hp->VK->Prop:=λx y z H Q=>∃(a:Addr) (rs:List Pn) (lo hi:Int),x=.ref a/\y=.int lo/\z=.int hi/\Hm K H rs a/\rs.length<=100/\∀p H',Same H H'->Hm K H' (rs.filter (Lq lo hi)) p->Q (.ref p) H'
def lj (K:W.Frag):V->V->V->Hp->VK->Prop:=λx y z H Q=>∃(a:Addr) (rs:List Pn) (lo hi:Int),x=.ref a/\y=.int lo/\z=.int hi/\Hm K H rs a/\rs.length<=100/\∀H',Same H H'->Q (.int (rs.filter (Lq lo hi)).length) H'
def CC (K:W.Frag)(H:Hp)(lo hi:Int)(rs:List Pn)(i:Nat)(acc:List V)(σ':L2.St)(H':Hp):Prop:=∃x0,σ'=[x0,some (.int lo),some (.int hi)]/\Same H H'/\All2 (Pr K H') ((rs.take i).filter (Lq lo hi)) acc
theorem JQ {rs:List Pn}{f:Pn->Bool}{r:Pn}(h:rs[i]?=some r):(rs.take (i+1)).filter f=(rs.take i).filter f++(if f r=true then[r] else[]):=by
 rw[AX,h,IZ]
 congr 1
 cases J:f r<;>simp[J]
theorem dN (T:Tx w K mg):LB P w K mg base 1 "of_ages" ["home","low","high"] (Sp3M (lp K)):=by
 refine QI T 14 ["home","low","high"] Wp λH Q dn hr h=>?_
 obtain⟨_,_,_,rfl,a,rs,lo,hi,rfl,rfl,rfl,⟨vs,hL,hA⟩,hn,q⟩:=h;refine⟨_,(Qc (Qf (Lz ["who","low","high"] [none,some 1,some 2] (L0 K rfl (pu 0)) (Ky 0) (Wa (PW.pt (Zu (Ku ZU (pu 1) (Ko K 0)) (Zo (Ku ZU (Ko K 0) (pu 2)))))) (pu 0)))),?_⟩;left;simp only[QX];left;refine⟨a,rfl,⟨vs,hL⟩,?_⟩;have a4:=hA.1;refine Zt (xs:=vs) (CC K H lo hi rs) ⟨none,rfl,G7 _,All2.nil⟩ (λi acc σ' H' _ h=>by obtain⟨_,_,g',_⟩:=h;exact g'.seq hL) (by omega) ?_ ?_
 ·rintro i v acc _ H2 J a0 ⟨x0,rfl,g,ha⟩;obtain⟨r,hr,⟨p,rfl,hT⟩⟩:=hA.getV J;have U:=g.sqT hT;have st:=JQ (f:=Lq lo hi) hr;have no:¬(lo<=r.ag/\r.ag<=hi)->CN (CC K H lo hi rs) vs.length i acc [some (V.ref p),some (V.int lo),some (V.int hi)] H2:=λc=>by
   refine CN.mk (Qt J) (by omega) ⟨_,rfl,g,?_⟩;rw[st,Am (by unfold Lq;simp;omega),Ie];exact ha
  left;refine Qo (λc1=>?_) (λc1=>no (by omega));left;refine Qo (λc2=>?_) (λc2=>no (by omega));refine CN.mk (Qt J) (by rw[Aq,Av];omega) ⟨_,rfl,g,?_⟩;rw[st,An (by unfold Lq;simp;omega)];exact ha.snoc ⟨p,rfl,U⟩
 ·rintro acc _ H2 ⟨x0,rfl,g,ha⟩ p hp;have g2:=Qd hp (.lst acc);rw[AJ (by omega)] at ha;exact q _ _ (g.trans g2) ⟨acc,G5 Qb,ha.imp λ_ _ y=>y.same g2⟩
theorem cI (T:Tx w K mg):LB P w K mg base 2 "heads" ["home","low","high"] (Sp3M (lj K)):=by
 refine QI T 15 ["home","low","high"] Wp λH Q dn hr h=>?_
 obtain ⟨_,_,_,rfl,a,rs,lo,hi,rfl,rfl,rfl,U,hn,q⟩:=h;refine ⟨_,(Qc (Qf (Ln K T.aA (Kn (dN T) (Lu (pu 0) (pu 1) (pu 2)))))),?_⟩;left;refine ⟨a,rs,lo,hi,rfl,rfl,rfl,U,hn,fun p H' g ⟨vs,hL,J⟩=>?_⟩;left;rw [<-J.1];exact q _ g
theorem bI (T:Tx w K mg):LB P w K mg base 2 "fraction" ["top","bottom"] (Sp2M OB):=by
 refine QI T 21 ["top","bottom","divisor"] Zd λH Q dn hr h=>?_
 obtain⟨_,_,rfl,t,b,rfl,rfl,U,hs,q⟩:=h;refine⟨_,(Qa (Qn (Ku (QR K) (pu 1) Qe) (Qc XI) Qh) (Qa (Ks 2 (Kn (cY T) (Kq (QC Wo (by rfl) T.bB boot_abs (Km (pu 0))) (QC Wo (by rfl) T.bB boot_abs (Km (pu 1)))))) (Qa (Qn (Ku Zi (pu 1) Qe) (Qc (Ks 2 (JC XW (pu 2)))) Qh) (Qc (Qf (Qz (Kq (Qg QB (pu 0) (pu 2)) (Qg QB (pu 1) (pu 2))))))))),?_⟩;walk_at "rd";rw[Am U];refine⟨_,_,rfl,rfl,VX t,VX b,?_⟩;walk_at "rd";rw[NW];have hg:=VH (t:=t) U;have hl:=B3 (t:=t) U;have J:CDivB (L1 t b):=⟨hg,hs.le hl⟩
 by_cases hn:b<0
 ·rw[An hn];have e:-(Int.gcd t b:Int)=L1 t b:=by unfold L1;rw[An hn]
  rw[e];refine⟨J,J,by decide,q⟩
 ·rw[Am hn];have e:(Int.gcd t b:Int)=L1 t b:=by unfold L1;rw[Am hn]
  rw[e];refine⟨J,J,by decide,q⟩
theorem cJ (T:Tx w K mg):LB P w K mg base 3 "plus" ["one","other"] (Sp2M (pC K (·+·))):=by
 refine QI T 22 ["one","other"] Zd λH Q dn hr h=>?_
 obtain⟨_,_,rfl,a,b,m,n,⟨p,rfl,h1⟩,⟨r,rfl,h2⟩,J,U,a0,q⟩:=h;refine⟨_,(Qc (Qf (Kn (bI T) (Kq (Qg Qu (Qg Qr (Ko K 0) (Ko K 1)) (Qg Qr (Ko K 1) (Ko K 0))) (Qg Qr (Ko K 0) (Ko K 1)))))),?_⟩;left;refine⟨⟨J.1.mono (by omega),U.2.mono (by omega)⟩,?_⟩;left;refine⟨⟨U.1.mono (by omega),J.2.mono (by omega)⟩,?_⟩;left;refine⟨⟨J.2.mono (by omega),U.2.mono (by omega)⟩,_,_,rfl,rfl,Ip (Lv a) (Lv b),(J.2.mul U.2).mono (by omega),λz hz=>q _ _ (Qd hz _) ?_⟩;show Fq K _ (a+b) _;rw[Vo];exact Fq.new (Ip (Lv a) (Lv b))
theorem iI (T:Tx w K mg):LB P w K mg base 3 "minus" ["one","other"] (Sp2M (pC K (· - ·))):=by
 refine QI T 24 ["one","other"] Zd λH Q dn hr h=>?_
 obtain⟨_,_,rfl,a,b,m,n,⟨p,rfl,h1⟩,⟨r,rfl,h2⟩,J,U,a0,q⟩:=h;refine⟨_,(Qc (Qf (Kn (bI T) (Kq (Qg ZK (Qg Qr (Ko K 0) (Ko K 1)) (Qg Qr (Ko K 1) (Ko K 0))) (Qg Qr (Ko K 0) (Ko K 1)))))),?_⟩;left;refine⟨⟨J.1.mono (by omega),U.2.mono (by omega)⟩,?_⟩;left;refine⟨⟨U.1.mono (by omega),J.2.mono (by omega)⟩,?_⟩;left;refine⟨⟨J.2.mono (by omega),U.2.mono (by omega)⟩,_,_,rfl,rfl,Ip (Lv a) (Lv b),(J.2.mul U.2).mono (by omega),λz hz=>q _ _ (Qd hz _) ?_⟩;show Fq K _ (a-b) _;rw[NC];exact Fq.new (Ip (Lv a) (Lv b))
theorem cK (T:Tx w K mg):LB P w K mg base 3 "times" ["one","other"] (Sp2M (pC K (·*·))):=by
 refine QI T 25 ["one","other"] Zd λH Q dn hr h=>?_
 obtain⟨_,_,rfl,a,b,m,n,⟨p,rfl,h1⟩,⟨r,rfl,h2⟩,J,U,a0,q⟩:=h;refine⟨_,(Qc (Qf (Kn (bI T) (Kq (Qg Qr (Ko K 0) (Ko K 1)) (Qg Qr (Ko K 0) (Ko K 1)))))),?_⟩;left;refine⟨⟨J.1.mono (by omega),U.1.mono (by omega)⟩,?_⟩;left;refine⟨⟨J.2.mono (by omega),U.2.mono (by omega)⟩,_,_,rfl,rfl,Ip (Lv a) (Lv b),(J.2.mul U.2).mono (by omega),λz hz=>q _ _ (Qd hz _) ?_⟩;show Fq K _ (a*b) _;rw[Jg];exact Fq.new (Ip (Lv a) (Lv b))
theorem iJ (T:Tx w K mg):LB P w K mg base 3 "divided" ["one","other"] (Sp2M (oW K)):=by
 refine QI T 26 ["one","other"] Zd λH Q dn hr h=>?_
 obtain⟨_,_,rfl,a,b,m,n,⟨p,rfl,h1⟩,⟨r,rfl,h2⟩,hb,J,U,a0,q⟩:=h;refine⟨_,(Qc (Qf (Kn (bI T) (Kq (Qg Qr (Ko K 0) (Ko K 1)) (Qg Qr (Ko K 0) (Ko K 1)))))),?_⟩;left;refine⟨⟨J.1.mono (by omega),U.2.mono (by omega)⟩,?_⟩;left;refine⟨⟨J.2.mono (by omega),U.1.mono (by omega)⟩,_,_,rfl,rfl,Ip (Lv a) (GD hb),(J.2.mul U.1).mono (by omega),λz hz=>q _ _ (Qd hz _) ?_⟩;show Fq K _ (a / b) _;rw[ND];exact Fq.new (Ip (Lv a) (GD hb))
theorem cL (T:Tx w K mg):LB P w K mg base 1 "below" ["one","other"] (Sp2M (qv K)):=by
 refine QI T 27 ["one","other"] Zd λH Q dn hr h=>?_
 obtain⟨_,_,rfl,a,b,m,n,⟨p,rfl,h1⟩,⟨r,rfl,h2⟩,J,U,a0,q⟩:=h;refine⟨_,(Qc (Qf (OJ Zi (Qg Qr (Ko K 0) (Ko K 1)) (Qg Qr (Ko K 1) (Ko K 0))))),?_⟩;left;refine⟨⟨J.1.mono (by omega),U.2.mono (by omega)⟩,?_⟩;left;refine⟨⟨U.1.mono (by omega),J.2.mono (by omega)⟩,?_⟩;have e:decide (a.num*(b.den:Int)<b.num*(a.den:Int))=decide (a<b):=decide_eq_decide.mpr (Rat.lt_iff a b).symm;rw[e];exact q
theorem iK (T:Tx w K mg):LB P w K mg base 2 "lesser" ["one","other"] (Sp2M (oU K)):=by
 refine QI T 28 ["one","other"] Zd λH Q dn hr h=>?_
 obtain⟨_,_,rfl,a,b,m,n,h1,h2,J,U,a0,q⟩:=h;refine⟨_,(Qc (Qf (Yc (QN (Kn (cL T) (Kq (pu 1) (pu 0)))) (pu 1) (pu 0)))),?_⟩;left;refine⟨b,a,n,m,h2,h1,U,J,by omega,?_⟩;left;refine Qo (λc=>?_) (λc=>?_)
 ·exact q _ (by rw[An c];exact h2)
 ·exact q _ (by rw[Am c];exact h1)
theorem iL (T:Tx w K mg):LB P w K mg base 2 "greater" ["one","other"] (Sp2M (oV K)):=by
 refine QI T 29 ["one","other"] Zd λH Q dn hr h=>?_
 obtain⟨_,_,rfl,a,b,m,n,h1,h2,J,U,a0,q⟩:=h;refine⟨_,(Qc (Qf (Yc (QN (Kn (cL T) (Kq (pu 0) (pu 1)))) (pu 1) (pu 0)))),?_⟩;left;refine⟨a,b,m,n,h1,h2,J,U,by omega,?_⟩;left;refine Qo (λc=>?_) (λc=>?_)
 ·exact q _ (by rw[An c];exact h2)
 ·exact q _ (by rw[Am c];exact h1)
theorem dO (T:Tx w K mg):LB P w K mg base 4 "come_to" ["stretch","place"] (Sp2M (nG K)):=by
 refine QI T 52 ["stretch","place"] Zd λH Q dn hr h=>?_
 obtain⟨_,_,rfl,r,a,U,m2,m3,n,h1,h2,⟨s1,s2,s3⟩,J,hm,q⟩:=h;refine⟨_,(Qc (Qf (Kn (cJ T) (Kq (Ko K 0) (Kn (cK T) (Kq (Ko K 0) (Kn (iI T) (Kq (pu 1) (Ko K 0))))))))),?_⟩;left;refine Mp h1 (.inr (.inl rfl)) λw2 e2=>?_
 refine Mp h1 (.inr (.inr rfl)) λw3 e3=>?_
 refine Mp h1 (.inl rfl) λw1 e1=>?_
 rw[An rfl] at e1;rw[Am (by decide),An rfl] at e2;rw[Am (by decide),Am (by decide)] at e3;refine⟨a,r.1,n,U,h2,e1,J,s1,by omega,λz1 H1 g1 f1=>?_⟩;refine⟨r.2.2,a-r.1,m3,n+U+1,e3.same g1,f1,s3,J.sub s1,by omega,λz2 H2 g2 f2=>?_⟩;exact⟨r.2.1,_,m2,m3+(n+U+1),(e2.same g1).same g2,f2,s2,s3.mul (J.sub s1),by omega,λz3 H3 g3 f3=>q z3 H3 ((g1.trans g2).trans g3) f3⟩
theorem iM (T:Tx w K mg):LB P w K mg base 1 "merged" ["stretches"] (Sp1M (lV K)):=by
 refine QI T 53 ["stretches","kept","stretch"] Zq λH Q dn hr h=>?_
 obtain⟨_,rfl,rows,l,rfl,⟨vs,hL,hA⟩,hn,q⟩:=h;refine⟨_,(Qa (Ks 1 (Qq QE)) (Qa (Lx (L0 K rfl (pu 0)) (Ky 2) (Qc (Qn (PW.pt (Xo (Zc (X9 (pu 1) (λ_=>rfl))) (Z9 (Ku (WZ K) (LD K (LD K (pu 1) OC) Qe) (Ko K 2))))) (Qc (Qw (QA K rfl AL A0 A1 Qv (pu 1) (Km (pu 2))))) Qh))) (Qc (Qf (pu 1))))),?_⟩;left;refine⟨by decide,λp hp=>?_⟩;have J:∀H',Same H H'->Kv K H' l vs:=λH' g=>g.seq hL
 refine⟨_,rfl,⟨vs,J _ (Z3 (G7 H) hp)⟩,?_⟩;refine WL (xs:=vs) (λi σ' H'=>∃x2 kvs,σ'=[some (.ref l),some (.ref p),x2]/\Same H H'/\H' p=some (.lst kvs)/\All2 (Fw K H') ((rows.take i).foldl Qy []) kvs/\kvs.length<=i) ⟨_,[],rfl,Z3 (G7 H) hp,Qb,All2.nil,Au _⟩ ?_ ?_ ?_
 ·rintro i _ H' hi ⟨x2,kvs,rfl,g,_⟩;exact J H' g
 ·rintro i v _ H' hv ⟨x2,kvs,rfl,g,hk,ha,hl⟩;obtain⟨r,hr,hw⟩:=hA.getV hv;have U:=hw.same g;have e:rows.take (i+1)=rows.take i++[r]:=by rw[AX,hr];rfl
  have hi:=Qt hv;have a6:vs.length<=1000:=by rw [<-hA.1];exact hn
  have add:∃x2 kvs',[some (V.ref l),some (V.ref p),some v]=[some (V.ref l),some (V.ref p),x2]/\Same H (upd H' p (.lst (kvs++[v])))/\upd H' p (.lst (kvs++[v])) p=some (.lst kvs')/\All2 (Fw K (upd H' p (.lst (kvs++[v])))) ((rows.take i).foldl Qy []++[r]) kvs'/\kvs'.length<=i+1:=
   ⟨_,kvs++[v],rfl,Z3 g hp,Qb,(ha.imp λ_ _ z=>z.grow (Ym hk)).snoc (U.grow (Ym hk)),by rw[Aq,Av];omega⟩
  left;refine⟨!kvs.isEmpty,.inl ⟨_,G5 hk,rfl⟩,?_⟩;rw[e,List.foldl_append];cases kvs with
  | nil=>
   have h0:(rows.take i).foldl Qy []=[]:=IP.mp ha.1;left;refine⟨.inl ⟨rfl,_,G5 hk⟩,X6 hk (Zl (by simp)) ?_⟩;left;have es:List.foldl Qy (List.foldl Qy [] (rows.take i)) [r]=List.foldl Qy [] (rows.take i)++[r]:=by
    rw[h0];rfl
   rw[es];exact add
  | cons k0 kt=>
   obtain⟨kv,a0⟩:∃kv,(k0::kt)[(k0::kt).length-1]?=some kv:=⟨_,Ax (by simp)⟩
   obtain⟨kr,a4,a5⟩:=ha.getV a0;left;refine QO (G5 hk) (Mh a0) ?_;refine Mp a5 (.inr (.inr rfl)) λw3 e3=>?_
   refine Mp U (.inr (.inr rfl)) λw4 e4=>?_
   rw[Am (by decide),Am (by decide)] at e3 e4;refine Ep e3 e4 ?_;have hm:List.foldl Qy (List.foldl Qy [] (rows.take i)) [r]=if kr.2.2=r.2.2 then List.foldl Qy [] (rows.take i) else List.foldl Qy [] (rows.take i)++[r]:=by
    exact JG (by rw[ha.1];exact a4)
   rw[hm];left;by_cases c:kr.2.2=r.2.2
   ·rw[An c,Am (λz=>z c)];exact⟨_,k0::kt,rfl,g,hk,ha,by omega⟩
   ·rw[Am c,An c];refine⟨.inl ⟨rfl,_,G5 hk⟩,X6 hk (Zl (by omega)) ?_⟩;left;exact add
 ·rintro _ H' ⟨x2,kvs,rfl,g,hk,ha,hl⟩;left;rw [<-hA.1,IM] at ha;exact q p H' hp g ⟨kvs,hk,ha⟩
theorem iN (T:Tx w K mg):LB P w K mg base 2 "index_at" ["one","place"] (Sp2M (lW K)):=by
 refine QI T 54 ["one","place","low","high","middle"] Zd λH Q dn J h=>?_
 obtain ⟨_,_,rfl,rows,l,a,m,n,rfl,⟨vs,hL,U⟩,hp,a0,sa,a7,h0,hn,q⟩:=h;refine ⟨_,(Qa (Ks 2 Qe) (Qa (Ks 3 (Ln K T.aA (pu 0))) (Qa (JB Q0g (Ku XY (Qg ZK (pu 3) (pu 2)) Qe) (Qa (Ks 4 (Qg QB (Qg Qu (pu 2) (pu 3)) Qe)) (Qc (Qn (QN (Kn (cL T) (Kq (pu 1) (LD K (LD K (pu 0) (pu 4)) Qe)))) (Qc (Ks 3 (pu 4))) (Qc (Ks 2 (pu 4))))))) (Qc (Qf (pu 2)))))),?_⟩;left;refine ⟨fun μ σ' H'=>∃ (lo hi:Nat) (x4:Option V),σ'=[some (.ref l),some _,some (.int lo),some (.int hi),x4]/\H'=H/\lo<hi/\hi<=vs.length/\(lo=0∨∀ r,rows[lo]?=some r->r.1<=a)/\(∀ r,rows[hi]?=some r->a<r.1)/\μ=hi-lo,⟨_,0,vs.length,none,rfl,rfl,by rw [<-U.1];exact h0,Au _,.inl rfl,fun r z=>?_,rfl⟩,?_⟩
 ·have:=Qt z;rw[U.1] at this;omega
 ·rintro μ _ _ ⟨lo,hi,x4,rfl,rfl,h1,h2,h3,h4,rfl⟩;left;by_cases c:hi-lo > 1
  ·rw[An (by omega)];refine⟨_,λ_ _ z=>z,⟨CDivB.small (by decide) (by decide),?_⟩⟩;have em:((lo:Int)+(hi:Int)).fdiv 2=(((lo+hi) / 2:Nat):Int):=by
    rw[Int.fdiv_eq_ediv_of_nonneg _ (by decide)];omega
   rw[em];generalize a6:(lo+hi) / 2=mid;have a4:lo<mid:=by omega
   have a5:mid<hi:=by omega
   obtain⟨v,hv⟩:∃v,vs[mid]?=some v:=⟨_,Ax (by omega)⟩
   obtain⟨r,J,hw⟩:=U.getV hv;left;refine QO hL (QZ hv) ?_;refine Mp hw (.inl rfl) λw1 e1=>?_
   rw[An rfl] at e1;refine⟨a,r.1,n,m,hp,e1,sa,a0 r (AG J),by omega,?_⟩;left;refine Qo (λc1=>?_) (λc1=>?_)
   ·exact⟨mid-lo,by omega,lo,mid,_,rfl,trivial,a4,by omega,h3,λr' z=>by rw[J] at z;cases z;exact c1,rfl⟩
   ·exact⟨hi-mid,by omega,mid,hi,_,rfl,trivial,a5,h2,.inr λr' z=>by rw[J] at z;cases z;grind,h4,rfl⟩
  ·rw[Am (by omega)];have e1:hi=lo+1:=by omega
   subst e1;exact q lo ⟨by rw[U.1];omega,h3,h4⟩
theorem iO (T:Tx w K mg):LB P w K mg base 5 "bend_at" ["one","place"] (Sp2M (qw K)):=by
 refine QI T 58 ["one","place"] Zd λH Q dn J h=>?_
 obtain⟨_,_,rfl,rows,f',l,a,m1,m2,m3,n,rfl,hF,hp,hd,hs,ha,U,sa,a4,hn,q⟩:=h;have a0:0<rows.length:=by obtain⟨r,J,_⟩:=hs;exact Qt J
 refine⟨_,(Qc (Qf (Kn (dO T) (Kq (LD K (pu 0) (Kn (iN T) (Kq (pu 0) (pu 1)))) (pu 1))))),?_⟩;left;refine⟨rows,l,a,m1,n,rfl,hF,hp,λr J=>(U r J).1,sa,by omega,a0,hn,λi hi=>?_⟩;obtain⟨vs,hL,hA⟩:=hF;obtain⟨r,J⟩:∃r,rows[i]?=some r:=⟨_,Ax hi.lt⟩
 obtain⟨v,hv,hw⟩:=hA.get J;left;refine QO hL (QZ hv) ?_;refine⟨r,a,m1,m2,m3,n,hw,hp,U r (AG J),sa,a4,λz H' g e=>q z H' g ?_⟩;rw[hd.at hs ha hi J];exact e
theorem iP (T:Tx w K mg):LB P w K mg base 1 "straight" ["value","slope"] (Sp2M (Nf K)):=by
 refine QI T 55 ["value","slope"] Zd λH Q dn hr h=>?_
 obtain⟨x,y,rfl,v,s,h1,h2,q⟩:=h;refine⟨_,(Qc (Qf (Qq (Km (Qz (Lu (GB T.aL) (pu 0) (pu 1))))))),?_⟩;left;refine⟨by decide,λp hp=>?_⟩;refine⟨by decide,λl hl=>?_⟩;have U:=Qd hp (.tup [.ref t.zP,x,y]);have a0:H l=none:=(Qd hp _).free hl;refine q l _ a0 (U.trans (Qd hl _)) ⟨_,Qb,?_⟩;have J:=Qd hl (.lst [.ref p]);refine⟨rfl,λi r' v' e1 e2=>?_⟩;have hi:i=0:=by have:=Qt e1;simpa using this
 subst hi;cases e1;cases e2;exact⟨p,_,_,_,rfl,G6 (J _ _ Qb),T.aL.fq0,(h1.same U).same J,(h2.same U).same J⟩
def nM (K:W.Frag):V->Hp->VK->Prop:=λx H Q=>∃(a:Addr) (rs:List Pn),x=.ref a/\Hm K H rs a/\rs.length<=100/\∀H',Same H H'->Q (.int (rs.map (·.rn)).sum) H'
def En (H:Hp)(f:Pn->Int)(rs:List Pn)(i:Nat)(acc:List V)(σ':L2.St)(H':Hp):Prop:=∃x0,σ'=[x0]/\Same H H'/\acc=((rs.take i).map f).map V.int
theorem JH {rs:List Pn}{f:Pn->Int}{r:Pn}(h:rs[i]?=some r):((rs.take (i+1)).map f).map V.int=((rs.take i).map f).map V.int++[V.int (f r)]:=by
 rw[AX,h,Az,Az];rfl
theorem iQ (T:Tx w K mg):LB P w K mg base 1 "rent_of" ["home"] (Sp1M (nM K)):=by
 refine QI T 17 ["home"] Zq λH Q dn hr h=>?_
 obtain⟨_,rfl,a,rs,rfl,⟨vs,hL,hA⟩,hn,q⟩:=h;refine⟨_,(Qc (Qf (QC (YB K rfl rfl) (by rfl) T.bC boot_sum (Km (Lz ["who"] [none] (L0 K rfl (pu 0)) (Ky 0) QL (Ko K 0)))))),?_⟩;left;simp only[QX];left;refine⟨a,rfl,⟨vs,hL⟩,?_⟩;have a0:=hA.1;refine Zt (xs:=vs) (En H (·.rn) rs) ⟨none,rfl,G7 _,rfl⟩ (λi acc σ' H' _ h=>by obtain⟨_,_,g',_⟩:=h;exact g'.seq hL) (by omega) ?_ ?_
 ·rintro i v acc _ H2 J U ⟨x0,rfl,g,rfl⟩;obtain⟨r,hr,⟨p2,rfl,hT⟩⟩:=hA.getV J;have a4:=g.sqT hT;simp only[Zw];left;exact CN.mk (Qt J) (by rw[Aq,Av];omega) ⟨_,rfl,g,(JH hr).symm⟩
 ·rintro acc _ H2 ⟨x0,rfl,g,rfl⟩ p2 hp2;rw[AJ (by omega)];exact⟨p2,_,rfl,G5 Qb,q _ (g.trans (Qd hp2 _))⟩
inductive me (K)(x:V)(H)(Q:VK):Prop
 | mk (ps:List L2.Pr) (l:Addr) (h1:x=.ref l) (h2:Pl K H ps l) (h3:Zf (-1) ps=true) (h4:Q .non H):me K x H Q
inductive O8 (K)(x:V)(H)(Q:VK):Prop
 | mk (ps:List L2.Pr) (l:Addr) (a s V:Nat) (h1:x=.ref l) (h2:Pl K H ps l) (h3:ps.length<=60) (h5:Zf (-1) ps=true) (h6:∀p∈ps,Bd a p.1/\RB s p.2) (h7:2*a+V+s<=8000) (h8:1<=s) (h9:∀i,i<ps.length->a+s+6+(s+2)*i<=V) (h10:1<=V)
   (h4:∀l' rows H',H l'=none->Same H H'->Fo K H' rows l'->Draws rows (QT ps)->XD rows->VZ rows->(∀r∈rows,nS (a+1) V s r)->rows.length<=ps.length+1->Q (.ref l') H'):O8 K x H Q
theorem iR (T:Tx w K mg):LB P w K mg base 1 "check_limits" ["pairs"] (Sp1M (me K)):=by
 refine QI T 56 ["pairs","ahead","pair"] Zq λH Q dn hr h=>?_
 obtain⟨_,rfl,ps,l,rfl,⟨vs,U,hA⟩,J,hq⟩:=h;refine⟨_,(Qa (Ks 1 OC) (Qc (Lx (L0 K rfl (pu 0)) (Ky 2) (Qa (Qn (Ku ZU (Ko K 2) (pu 1)) (Qc XI) Qh) (Qc (Ks 1 (Ko K 2))))))),?_⟩;left;refine⟨_,rfl,⟨vs,U⟩,?_⟩;refine WL (xs:=vs) (λi σ' H'=>∃(ah:Int) (x2:Option V),σ'=[some (.ref l),some (.int ah),x2]/\H'=H/\Zf ah (ps.drop i)=Zf (-1) ps) ⟨-1,none,rfl,rfl,rfl⟩ (λi σ' H' _ h=>by obtain⟨_,_,_,rfl,_⟩:=h;exact U) ?_ ?_
 ·rintro i v _ _ hv ⟨ah,x2,rfl,rfl,hlim⟩;obtain⟨p,hp,a,y,rfl,hT,hf⟩:=hA.getV hv;have hd:=JS hp;left;rw[hd] at hlim;refine Qo (λc=>?_) (λc=>?_)
  ·have e:Zf (-1) ps=false:=by
    rw [<-hlim];show (decide (ah<p.1)&&_)=false;rw [AV (by omega),Bool.false_and]
   rw[e] at J;cases J
  ·refine Zg hT rfl ?_;refine ⟨p.1,_,rfl,rfl,?_⟩;rw [<-hlim];show _=(decide (ah<p.1)&&_);rw [A5 (by omega),Bool.true_and]
 ·rintro _ _ ⟨ah,x2,rfl,rfl,hlim⟩;rw[List.drop_eq_nil_of_le (by rw[hA.1];exact Au _)] at hlim;exact hq
def SJ (za zs zV:Nat)(K:W.Frag)(H:Hp)(ps:List L2.Pr)(l p:Addr)(i:Nat)(σ':L2.St)(H':Hp):Prop:=∃(rows:List L2.Row3) (ws:List V) (x2 x3 x4 x5:Option V),σ'=[some (.ref l),some (.ref p),x2,x3,x4,x5]/\Same H H'/\H' p=some (.lst ws)/\All2 (Fw K H') rows ws /\
 ((Ng ps i rows/\(i=0->∀p,ps[0]?=some p->0<p.1))∨(i=0/\rows=[(0,0,0)]))/\(∀r∈rows,nS (za+1) zV zs r)/\rows.length<=i+1
theorem iS (T:Tx w K mg):LB P w K mg base 5 "bands" ["pairs"] (Sp1M (O8 K)):=by
 refine QI T 57 ["pairs","stretches","limit","rate","start","value"] Zq λH Q dn hr h=>?_
 obtain⟨_,rfl,ps,l,za,zs,zV,rfl,hP,hn,J,hs,bh,av,ak,aj,q⟩:=h;refine⟨_,(Qa (Qw (Kn (iR T) (Km (pu 0)))) (Qa (Ks 1 (Kn (iP T) (Kq (GB T.aL) (GB T.aL)))) (Qa (Lx (L0 K rfl (pu 0)) (ON (n:=2) K rfl rfl (Qm (Ky 2) (Qm (Ky 3) QV))) (Qa (Ks 4 (Qz (Kq (pu 2) Qe))) (Qa (Ks 5 (Kn (dO T) (Kq (LD K (pu 1) OC) (pu 4)))) (Qa (Qn (Ku (QR K) (pu 2) Qe) (Qc (Qw (PR K rfl AL PySem.F.slot_list_pop PySem.F.type_list_pop FI (pu 1)))) Qh) (Qc (Qw (QA K rfl AL A0 A1 Qv (pu 1) (Km (Qz (Lu (pu 4) (pu 5) (pu 3))))))))))) (Qc (Qf (Kn (iM T) (Km (pu 1)))))))),?_⟩;left;refine⟨ps,l,rfl,hP,J,?_⟩;left;refine⟨0,0,T.aL.fq0,T.aL.fq0,λp H1 hp g1 ⟨ws,ba,ar⟩=>?_⟩;obtain⟨vs,hL,hA⟩:=hP;refine⟨_,rfl,⟨vs,g1.seq hL⟩,?_⟩;have b5:nS (za+1) zV zs ((0,0,0):L2.Row3):=⟨RB.zero (by omega),RB.zero aj,RB.zero av⟩
 refine WL (xs:=vs) (λi σ' H'=>SJ za zs zV K H ps l p i σ' H') ⟨[(0,0,0)],ws,none,none,none,none,rfl,g1,ba,ar,.inr ⟨rfl,rfl⟩,λr hr=>by rw[AA.mp hr];exact b5,by simp⟩ (λi σ' H' _ h=>by obtain⟨_,_,_,_,_,_,_,g,_⟩:=h;exact g.seq hL) ?_ ?_
 ·rintro i v _ H' hv ⟨rows,ws,x2,x3,x4,x5,rfl,g,hk,ha,hB,hsz,hlen⟩;obtain ⟨p',a0,a,y,rfl,hT,hf⟩:=hA.getV hv;have af:=g.sqT hT;have ag:=hf.same g;have hi:=Qt hv;have aw:vs.length<=60:=by rw [<-hA.1];exact hn
  obtain⟨b3,ah⟩:=hs p' (AG a0);have bb:-1<p'.1:=(XQ (p':=p') J a0).1;have bj:0<rows.length:=by
   rcases hB with ⟨z,_⟩|⟨_,z⟩
   ·obtain⟨_,z,_⟩:=z.s;exact Qt z
   ·rw[z];decide
  obtain⟨k,a5⟩:∃k,rows[rows.length-1]?=some k:=⟨_,Ax (by omega)⟩
  obtain⟨kv,a9,ax⟩:=ha.get a5;rw[ha.1] at a9;refine YM af rfl ?_;left;refine⟨by decide,λp1 au=>?_⟩;have g2:=Qd au (.tup [.int p'.1,.int 1]);have eS:Fq K (upd H' p1 (.tup [.int p'.1,.int 1])) (p'.1:Rat) (.ref p1):=Fq.int (G6 Qb);generalize upd H' p1 (.tup [.int p'.1,.int 1])=H2 at *;have ae:=g2 _ _ hk;refine QO (G5 ae) (Mh a9) ?_;have aa:RB (za+1) (p'.1:Rat):=RB.int (b3.mono (by omega)) (by omega);refine⟨k,_,za+1,zV,zs,za+1,ax.same g2,eS,hsz k (AG a5),aa,by omega,λz H3 g3 eV=>?_⟩;have a6:=g3 _ _ ae;left;have ab:=(g.trans g2).trans g3;have b6:All2 (Fw K H3) rows ws:=ha.imp λ_ _ z=>(z.same g2).same g3
  have b4:=eS.same g3;have az:=(ag.same g2).same g3;have ay:∀f':Rat,f'=QT ps p'.1->RB zV f':=λf' e=>by
   rw[e];have bf:=ak i (Qt a0);have bg:(zs+1)*i<=(zs+2)*i:=Nat.mul_le_mul_right _ (by omega);exact(Kc J hs i p' a0).rb (by omega) (by omega)
  have app:∀(H4:Hp) (a8:List V) (U:List L2.Row3),Same H H4->Grow H3 H4->H4 p=some (.lst a8)->All2 (Fw K H4) U a8->a8.length<=100->(Ng ps (i+1) (U++[((p'.1:Rat),Zx k p'.1,p'.2)])/\Zx k p'.1=QT ps p'.1)->(∀r∈U,nS (za+1) zV zs r)->U.length<=i+1 ->
    lq K "list" (.ref p) H4/\3<=sizeLine/\∀p5,H4 p5=none->Y9 (.ref p) [.ref p5] (upd H4 p5 (.tup [.ref p1,z,y])) λ_ H5=>SJ za zs zV K H ps l p (i+1) [some (V.ref l),some (V.ref p),some (V.int p'.1),some y,some (V.ref p1),some z] H5:=by
   intro H4 a8 U gH gG h4 a4 hw hb hz hl;refine⟨.inl ⟨rfl,_,G5 h4⟩,by decide,λp5 ao=>?_⟩;have g5:=Qd ao (.tup [.ref p1,z,y]);have h5:=g5 _ _ h4;have w5:Fw K (upd H4 p5 (.tup [.ref p1,z,y])) ((p'.1:Rat),Zx k p'.1,p'.2) (.ref p5):=⟨p5,_,_,_,rfl,G6 Qb,(b4.grow gG).same g5,(eV.grow gG).same g5,(az.grow gG).same g5⟩
   refine X6 h5 (Zl (by omega)) ?_;refine⟨_,_,_,_,_,_,rfl,Z3 (gH.trans g5) hp,Qb,((a4.imp λ_ _ z=>z.same g5).imp λ_ _ z=>z.grow (Ym h5)).snoc (w5.grow (Ym h5)),.inl ⟨hb.1,λz=>absurd z (by omega)⟩,λr hr=>?_,by rw[Aq,Av];omega⟩;rcases AK.mp hr with hr|hr
   ·exact hz r hr
   ·rw[AA.mp hr];exact⟨aa,ay _ hb.2,ah⟩
  refine Qo (λc=>?_) (λc=>?_)
  ·
   have i0:i=0:=by
    cases i with
    | zero=>rfl
    | succ j=>
     obtain⟨q',a7⟩:∃q',ps[j]?=some q':=⟨_,Ax (by have:=Qt a0;omega)⟩
     have z:=XQ (p':=p') J a7;have:=z.2 a0;omega
   subst i0;have er:rows=[(0,0,0)]:=by
    rcases hB with ⟨z,_⟩|⟨_,z⟩
    ·exact z.z rfl
    ·exact z
   subst er;have ek:k=(0,0,0):=by cases a5;rfl
   subst ek;obtain⟨b1,b2⟩:=Lf J a0 c;have ev:Zx (0,0,0) (p'.1:Rat)=QT ps p'.1:=by rw[b2];unfold Zx;grind
   refine⟨.inl ⟨rfl,_,G5 a6⟩,?_⟩;refine⟨p,ws,kv,rfl,rfl,a6,a9,?_⟩;left;have bc:ws.length=1:=ha.1.symm;have aq:ws.dropLast=[]:=IP.mp (by rw[List.length_dropLast];omega);rw[aq];exact app _ [] [] (Z3 ab hp) (Ym a6) Qb All2.nil (by simp) ⟨by rw[List.nil_append,ev];exact b1,ev⟩ (λr hr=>nomatch hr) (by simp)
  ·have b0:Ng ps i rows:=by
    rcases hB with ⟨z,_⟩|⟨z1,z2⟩
    ·exact z
    ·subst z1;rw[z2];exact Kb J (λq' a7=>by rw[a0] at a7;cases a7;omega)
   exact app H3 ws rows ab (Grow.refl _) a6 b6 (by rw [<-ha.1];omega) (Lg J a0 b0 a5) hsz hlen
 ·rintro _ H' ⟨rows,ws,x2,x3,x4,x5,rfl,g,hk,ha,hB,hsz,hlen⟩;left;have aw:vs.length<=60:=by rw [<-hA.1];exact hn
  refine⟨rows,p,rfl,⟨ws,G5 hk,ha⟩,by omega,λl' H2 ai g2 hO=>?_⟩;have hd:Draws rows (QT ps)/\XD rows:=by
   have hz:Yj ps vs.length=none:=by unfold Yj;rw [<-hA.1,Il (Au _)];rfl
   rcases hB with ⟨z,_⟩|⟨z1,z2⟩
   ·have d:=z.d;rw[hz] at d;exact⟨d,z.s⟩
   ·have pe:ps=[]:=IP.mp (by rw[hA.1];exact z1);subst pe;rw[z2];have d:=(Kb (ps:=[]) rfl (λp hp=>nomatch hp)).d;exact⟨d,⟨_,rfl,rfl⟩⟩
  obtain⟨m1,m2,m3⟩:=Ux hd.1 hd.2;exact q l' _ H2 (g.free ai) (g.trans g2) hO m1 m2 m3 (λr hr=>hsz r (GF hr)) (by have:=GG (rows:=rows);have:=hA.1;omega)
theorem Xa {m:Int}(h:Kt K H p [.int m,.int 1]):Fq K H (m:Rat) (.ref p):=by
 refine⟨p,rfl,?_⟩;rw[Rat.num_intCast,Rat.den_intCast];exact h
def OQ (qs:List Rat):Rat:=qs.foldl (·+·) 0
theorem Jx {qs:List Rat}(h:qs[i]?=some q):OQ (qs.take (i+1))=OQ (qs.take i)+q:=by
 unfold OQ;rw[AX,h,List.foldl_append];rfl
inductive mP (K)(x:V)(H)(Q:VK):Prop
 | mk (l:Addr) (vs:List V) (qs:List Rat) (h1:x=.ref l) (h2:Kv K H l vs) (h3:All2 (Fq K H) qs vs) (h4:∀q∈qs,RB 60 q) (h5:qs.length<=10) (h6:∀z H',Same H H'->Fq K H' (OQ qs) z->Q z H'):mP K x H Q
theorem iT (T:Tx w K mg):LB P w K mg base 4 "total_of" ["ones"] (Sp1M (mP K)):=by
 refine QI T 23 ["ones","total","one"] Zq λH Q dn J h=>?_
 obtain⟨_,rfl,l,vs,qs,rfl,hl,hA,hB,hn,q⟩:=h;have a0:=hA.1;refine⟨_,(Qa (Ks 1 (GB T.aL)) (Qa (Lx (L0 K rfl (pu 0)) (Ky 2) (Qc (Ks 1 (Kn (cJ T) (Kq (pu 1) (pu 2)))))) (Qc (Qf (pu 1))))),?_⟩;left;refine⟨l,rfl,⟨_,hl⟩,WL (xs:=vs) (λi σ' H'=>∃(z:V) (x2:Option V),σ'=[some (.ref l),some z,x2]/\Same H H'/\Fq K H' (OQ (qs.take i)) z/\RX (61+61*i) (60*i+1) (OQ (qs.take i))) ⟨_,none,rfl,G7 _,T.aL.fq0,by show RX 61 1 (0:Rat);exact⟨(RB.zero (m:=1) (by decide)).1.mono (by decide),(RB.zero (m:=1) (by decide)).2⟩⟩ (λi σ' H' _ h=>by obtain⟨_,_,_,g,_⟩:=h;exact g.seq hl) ?_ ?_⟩
 ·rintro i u _ H2 hu ⟨z,x2,rfl,g2,hz,hR⟩;have hi:=Qt hu;obtain⟨r,J,hF⟩:=hA.getV hu;have rb:=hB r (AG J);left;refine⟨_,r,900,60,hz,hF.same g2,hR.rb (by omega) (by omega),rb,by decide,λz' H3 g3 U=>⟨z',_,rfl,g2.trans g3,?_,?_⟩⟩
  ·rw[Jx J];exact U
  ·rw[Jx J];have r2:RX 60 60 r:=rb;exact(hR.add r2).mono (by omega) (by omega)
 ·rintro _ H2 ⟨z,x2,rfl,g2,hz,_⟩;left;rw[AJ (by omega)] at hz;exact q z H2 g2 hz
inductive O6 (K)(x)(H)(Q:VK):Prop
 | mk (r:Rat) (h1:Fq K H r x) (h2:RB 8900 r) (h3:∀f:Int,Bd 8900 f->f*r.den<=r.num->r.num<(f+1)*r.den->Q (.int f) H):O6 K x H Q
inductive Y0 (K)(x)(H)(Q:VK):Prop
 | mk (r:Rat) (h1:Fq K H r x) (h2:RB 8900 r) (h3:∀f:Int,Bd 8900 f->(f-1)*r.den<r.num->r.num<=f*r.den->Q (.int f) H):Y0 K x H Q
theorem N1 {a b:Int}(hb:0<b):a.fdiv b*b<=a/\a<(a.fdiv b+1)*b:=by
 rw[Int.fdiv_eq_ediv_of_nonneg _ (Int.le_of_lt hb)];have h1:=Int.mul_ediv_add_emod a b;have h2:=AY a (Int.ne_of_gt hb);have J:=A6 a hb;rw[Int.add_mul,Int.mul_comm (a / b) b];omega
theorem Mg {a b:Int}(hb:0<b)(h:Bd m a):Bd m (a.fdiv b):=by
 rw[Int.fdiv_eq_ediv_of_nonneg _ (Int.le_of_lt hb)];exact IT (Int.natAbs_ediv_le_natAbs a b) h
theorem G0 {a:Int}(h:Bd m a):Bd m (-a):=by
 unfold Bd at h ⊢;rwa [Int.natAbs_neg]
theorem dP (T:Tx w K mg):LB P w K mg base 1 "floor_of" ["one"] (Sp1M (O6 K)):=by
 refine QI T 30 ["one"] Zq λH Q U hr h=>?_
 obtain⟨_,rfl,r,⟨p,rfl,hT⟩,J,q⟩:=h;refine⟨_,(Qc (Qf (Qg QB (Ko K 0) (Ko K 0)))),?_⟩;left;have e:=N1 (a:=r.num) (Kx r);exact⟨⟨Lv _,J.2.mono (by decide)⟩,q _ (Mg (Kx r) J.1) e.1 e.2⟩
theorem iU (T:Tx w K mg):LB P w K mg base 1 "ceil_of" ["one"] (Sp1M (Y0 K)):=by
 refine QI T 31 ["one"] Zq λH Q U hr h=>?_
 obtain⟨_,rfl,r,⟨p,rfl,hT⟩,J,q⟩:=h;refine⟨_,(Qc (Qf (JC XW (Qg QB (JC XW (Ko K 0)) (Ko K 0))))),?_⟩;left;have e:=N1 (a:=-r.num) (Kx r);refine⟨⟨Lv _,J.2.mono (by decide)⟩,q _ (G0 (Mg (Kx r) (G0 J.1))) ?_ ?_⟩
 ·have e2:=e.2;rw[Int.add_mul] at e2;rw[Int.sub_mul,Int.neg_mul];omega
 ·have e1:=e.1;rw[Int.neg_mul];omega
def nX (r:Rat)(u:Int)(w:Str)(n:Int):Prop:=
 if w=Str.ofString "down" then 0<=r.num-n*u*r.den/\r.num-n*u*r.den<u*r.den
 else if w=Str.ofString "up" then -u*r.den<r.num-n*u*r.den/\r.num-n*u*r.den<=0
 else -u*r.den<=2*(r.num-n*u*r.den)/\2*(r.num-n*u*r.den)<u*r.den
theorem HR {r s:Rat}{u:Int}(h:r=s*(u:Rat)):r.num*s.den=s.num*u*r.den:=by
 apply Rat.intCast_inj.mp;simp only [Gf];have e1:=Zs r;have e2:=Zs s;rw [<-e1,<-e2,h]
 grind
theorem Pf {r s:Rat}{u:Int}(h:r=(s-1 / 2)*(u:Rat)):2*r.num*s.den=(2*s.num-s.den)*u*r.den:=by
 apply Rat.intCast_inj.mp;simp only [Gf,Rat.intCast_sub];have e1:=Zs r;have e2:=Zs s;rw [<-e1,<-e2,h];have J:((2:Int):Rat)=2:=rfl;rw [J]
 grind
theorem NB {o d a b c e:Int}(hd:0<d)(he:0<e)(h:o*d=a*e)(l:b*d<=a)(u:a<c*d):b*e<=o/\o<c*e:=by
 constructor
 ·refine Int.le_of_mul_le_mul_right ?_ hd;rw[h,Int.mul_right_comm];exact Int.mul_le_mul_of_nonneg_right l (Int.le_of_lt he)
 ·refine Int.lt_of_mul_lt_mul_right (a:=d) ?_ (Int.le_of_lt hd);rw[h,Int.mul_right_comm];exact Int.mul_lt_mul_of_pos_right u he
theorem Bb {o d a b c e:Int}(hd:0<d)(he:0<e)(h:o*d=a*e)(l:b*d<a)(u:a<=c*d):b*e<o/\o<=c*e:=by
 constructor
 ·refine Int.lt_of_mul_lt_mul_right (a:=d) ?_ (Int.le_of_lt hd);rw[h,Int.mul_right_comm];exact Int.mul_lt_mul_of_pos_right l he
 ·refine Int.le_of_mul_le_mul_right ?_ hd;rw[h,Int.mul_right_comm];exact Int.mul_le_mul_of_nonneg_right u (Int.le_of_lt he)
inductive O5 (K)(x y z:V)(H)(Q:VK):Prop
 | mk (r:Rat) (u:Int) (wy:Str) (h1:Fq K H r x) (h2:y=.int u) (h3:z=.str wy) (h4:0<u) (h5:u<1000000000000) (h6:RB 60 r) (h7:∀(n:Int) p H',Same H H'->Kt K H' p [.int (n*u),.int 1]->nX r u wy n->Bd 9000 (n*u)->Q (.ref p) H'):O5 K x y z H Q
theorem iV (T:Tx w K mg):LB P w K mg base 4 "rounded" ["one","unit","way"] (Sp3M (O5 K)):=by
 refine QI T 32 ["one","unit","way","units"] Wp λH Q dn hr h=>?_
 obtain⟨_,_,_,rfl,r,u,wy,hF,rfl,rfl,u0,u1,hB,q⟩:=h;refine⟨_,(Qa (Ks 3 (Kn (iJ T) (Kq (pu 0) (Qz (Kq (pu 1) Qe))))) (Qa (Qn (Ku (QR K) (pu 2) Qi) (Qc (Qf (Qz (Kq (Qg Qr (Kn (dP T) (Km (pu 3))) (pu 1)) Qe)))) Qh) (Qa (Qn (Ku (QR K) (pu 2) Qi) (Qc (Qf (Qz (Kq (Qg Qr (Kn (iU T) (Km (pu 3))) (pu 1)) Qe)))) Qh) (Qc (Qf (Qz (Kq (Qg Qr (Kn (dP T) (Km (Kn (cJ T) (Kq (pu 3) (Qz (Kq Qe Qe)))))) (pu 1)) Qe))))))),?_⟩;have ne:(u:Rat)≠0:=λe=>by
  have:u=0:=Rat.intCast_inj.mp e;omega
 have bu:RB 60 (u:Rat):=RB.int (Ll (by omega) (by omega)) (by decide);have dr:=Kx r;left;refine⟨by decide,λp hp=>?_⟩;have g1:=Qd hp (.tup [.int u,.int 1]);refine⟨r,(u:Rat),60,60,hF.same g1,Xa (G6 Qb),ne,hB,bu,by decide,λz H2 g2 hz=>?_⟩;have a0:=g1.trans g2;have hr:r=r / (u:Rat)*(u:Rat):=(Rat.div_mul_cancel ne).symm;have rx:RB 120 (r / (u:Rat)):=RB.div ne hB bu;generalize r / (u:Rat)=s at *;have ds:=Kx s;have de:0<u*(r.den:Int):=Int.mul_pos u0 dr;have J:Bd 60 u:=Ll (by omega) (by omega);have re:=HR hr;left;refine Qo (λc=>?_) (λc=>?_)
 ·left;refine⟨s,hz,rx.mono (by decide),λf bf f1 f2=>⟨⟨bf.mono (by decide),J.mono (by decide)⟩,by decide,λp2 U=>?_⟩⟩;refine q f p2 _ (a0.trans (Qd U _)) (G6 Qb) ?_ ((bf.mul J).mono (by decide));unfold nX;rw[An c];have h:=NB (o:=r.num-f*u*r.den) (a:=s.num-f*s.den) (b:=0) (c:=1) ds de (by rw[Int.sub_mul,re];grind) (by omega) (by rw[Int.add_mul] at f2;omega);omega
 left;refine Qo (λc2=>?_) (λc2=>?_)
 ·left;refine⟨s,hz,rx.mono (by decide),λf bf f1 f2=>⟨⟨bf.mono (by decide),J.mono (by decide)⟩,by decide,λp2 U=>?_⟩⟩;refine q f p2 _ (a0.trans (Qd U _)) (G6 Qb) ?_ ((bf.mul J).mono (by decide));unfold nX;rw[Am c,An c2,Int.neg_mul];have h:=Bb (o:=r.num-f*u*r.den) (a:=s.num-f*s.den) (b:=-1) (c:=0) ds de (by rw[Int.sub_mul,re];grind) (by rw[Int.sub_mul] at f1;omega) (by omega);omega
 left;refine⟨by decide,λp3 a9=>?_⟩;have g3:=Qd a9 (.tup [.int 1,.int 2]);have fh:Fq K (upd H2 p3 (.tup [.int 1,.int 2])) (1 / 2:Rat) (.ref p3):=by
  have e1:(1 / 2:Rat).num=1:=by decide +kernel
  have e2:(1 / 2:Rat).den=2:=by decide +kernel
  refine⟨p3,rfl,?_⟩;rw[e1,e2];exact G6 Qb
 have bh:RB 2 (1 / 2:Rat):=by
  have e1:(1 / 2:Rat).num=1:=by decide +kernel
  have e2:(1 / 2:Rat).den=2:=by decide +kernel
  unfold RB Bd;rw[e1,e2]
  decide
 generalize upd H2 p3 (.tup [.int 1,.int 2])=H3 at *;refine⟨s,1 / 2,120,2,hz.same g3,fh,rx,bh,by decide,λz4 H4 g4 a4=>?_⟩;have a7:r=(s+1 / 2-1 / 2)*(u:Rat):=by rw[hr];grind
 have a6:RB 123 (s+1 / 2):=rx.add bh;have a4:Fq K H4 (s+1 / 2) z4:=a4;generalize s+1 / 2=s' at *;have a8:=Kx s';have a5:=Pf a7;refine⟨s',a4,a6.mono (by decide),λf bf f1 f2=>⟨⟨bf.mono (by decide),J.mono (by decide)⟩,by decide,λp2 U=>?_⟩⟩;refine q f p2 _ (a0.trans (g3.trans (g4.trans (Qd U _)))) (G6 Qb) ?_ ((bf.mul J).mono (by decide));unfold nX;rw[Am c,Am c2,Int.neg_mul];have h:=NB (o:=2*(r.num-f*u*r.den)) (a:=2*s'.num-s'.den-2*(f*s'.den)) (b:=-1) (c:=1) a8 de (by rw[Int.mul_sub,Int.sub_mul,a5];grind) (by omega) (by rw[Int.add_mul] at f2;omega);omega
def nj (K:W.Frag):V->V->V->Hp->VK->Prop:=λx y z H Q=>∃(a:Addr) (rs:List Pn) (lo hi:Int),x=.ref a/\y=.int lo/\z=.int hi/\Hm K H rs a/\rs.length<=100/\∀H',Same H H'->Q (.int ((rs.filter (Lq lo hi)).map (·.py)).sum) H'
theorem iW (T:Tx w K mg):LB P w K mg base 2 "pay_of" ["home","low","high"] (Sp3M (nj K)):=by
 refine QI T 16 ["home","low","high"] Wp λH Q dn hr h=>?_
 obtain⟨_,_,_,rfl,a,rs,lo,hi,rfl,rfl,rfl,hH,hn,q⟩:=h;refine⟨_,(Qc (Qf (QC (YB K rfl rfl) (by rfl) T.bC boot_sum (Km (Lz ["who"] [none] (L0 K rfl (Kn (dN T) (Lu (pu 0) (pu 1) (pu 2)))) (Ky 0) QL (Ko K 0)))))),?_⟩;left;simp only[QX];left;refine⟨a,rs,lo,hi,rfl,rfl,rfl,hH,hn,λp H1 g1 ⟨vs,hL,hA⟩=>?_⟩;refine⟨p,rfl,⟨vs,hL⟩,?_⟩;have a4:=hA.1;have a0:(rs.filter (Lq lo hi)).length<=rs.length:=Iw _ _;refine Zt (xs:=vs) (En H1 (·.py) (rs.filter (Lq lo hi))) ⟨none,rfl,G7 _,rfl⟩ (λi acc σ' H' _ h=>by obtain⟨_,_,g',_⟩:=h;exact g'.seq hL) (by omega) ?_ ?_
 ·rintro i v acc _ H2 J U ⟨x0,rfl,g,rfl⟩;obtain⟨r,hr,⟨p2,rfl,hT⟩⟩:=hA.getV J;have a5:=g.sqT hT;simp only[Zw];left;exact CN.mk (Qt J) (by rw[Aq,Av];omega) ⟨_,rfl,g,(JH hr).symm⟩
 ·rintro acc _ H2 ⟨x0,rfl,g,rfl⟩ p2 hp2;rw[AJ (by omega)];exact⟨p2,_,rfl,G5 Qb,q _ ((g1.trans g).trans (Qd hp2 _))⟩
theorem bJ (T:Tx w K mg):LB P w K mg base 1 "_law_whole" ["_law_found"] (Sp1M O0):=by
 refine QI T 90 ["_law_found"] Zq λH Q J U h=>?_
 obtain⟨_,rfl,i,rfl,q⟩:=h;refine⟨_,(Qc (Qf (Xg (QC (UI K rfl) (by rfl) T.aP boot_isinstance (Kq (pu 0) (WU T.cN boot_int))) (Yb (PH (QC (UI K rfl) (by rfl) T.aP boot_isinstance (Kq (pu 0) (WU T.cM boot_bool)))))))),?_⟩;left;exact q
inductive XU (K)(x:V)(H)(Q:VK):Prop
 | mk (a:Addr) (ns:List Int) (h1:x=.ref a) (h2:Kv K H a (ns.map V.int)) (h3:ns.length<=54) (h4:∀p rs vs H',Same H H'->H p=none->H' p=some (.lst vs)->All2 (Pr K H') rs vs->rs.length<=54->(∀r∈rs,(0<=r.ag/\r.ag<=150)/\(0<=r.rn/\r.rn<=1000000000)/\0<=r.py/\r.py<=1000000000)->Q (.ref p) H'):XU K x H Q
theorem Pr.upd {r}(h:Pr K H r v)(hk:H p=some (.lst xs)):Pr K (L2.upd H p (.lst ys)) r v:=by
 obtain⟨U,rfl,J⟩:=h;exact⟨U,rfl,Y6 J hk (λ_ z=>by cases z) (λ_ _ z=>by cases z)⟩
theorem Lk {ws}(p:ws.Perm vs):∀{rs:List Pn},All2 (Pr K H) rs vs->∃J,J.Perm rs/\All2 (Pr K H) J ws:=by
 have cons:∀{r:Pn} {v:V} {rs:List Pn} {vs:List V},Pr K H r v->All2 (Pr K H) rs vs->All2 (Pr K H) (r::rs) (v::vs):=λ{r v rs vs} hr h=>by
  refine⟨by simp[h.1],λi q u a b=>?_⟩;cases i with
  | zero=>simp at a b;subst a;subst b;exact hr
  | succ i=>simp at a b;exact h.2 i q u a b
 have a0:∀{rs:List Pn} {v:V} {vs:List V},All2 (Pr K H) rs (v::vs)->∃r J,rs=r::J/\Pr K H r v/\All2 (Pr K H) J vs:=λ{rs v vs} h=>by
  obtain⟨h1,h2⟩:=h;cases rs with
  | nil=>simp at h1
  | cons r J=>exact⟨r,J,rfl,h2 0 r v rfl rfl,by simpa using h1,λi q u a b=>h2 (i+1) q u (by simpa using a) (by simpa using b)⟩
 induction p with
 | nil=>intro rs h;exact⟨rs,.refl _,h⟩
 | cons x p ih=>
  intro rs h;obtain⟨r,J,rfl,hr,h'⟩:=a0 h;obtain⟨U,p2,h2⟩:=ih h';exact⟨r::U,p2.cons r,cons hr h2⟩
 | swap x y l=>
  intro rs h;obtain⟨r,J,rfl,hr,h'⟩:=a0 h;obtain⟨r2,U,rfl,a6,h2⟩:=a0 h';exact⟨r2::r::U,.swap _ _ _,cons a6 (cons hr h2)⟩
 | trans p q a4 a5=>
  intro rs h;obtain⟨a7,p1,h1⟩:=a5 h;obtain⟨U,p2,h2⟩:=a4 h1;exact⟨U,p2.trans p1,h2⟩
theorem Eg (x:Int):x % (10 ^ Int.toNat 9+1)<=1000000000:=by
 have e9:(10 ^ Int.toNat 9+1:Int)=1000000001:=by decide
 rw[e9];omega
def sN (K:W.Frag)(a p d:Addr)(H:Hp)(i:Nat)(σ':L2.St)(H':Hp):Prop:=∃(rs:List Pn) (vs:List V) (kvs:List (Key×V)) (x1 x2 x3 x4:Option V),σ'=[some (.ref a),some (.ref p),some (.ref d),x1,x2,x3,x4] /\
 Same H H'/\H' p=some (.lst vs)/\All2 (Pr K H') rs vs/\rs.length<=i/\(∀r∈rs,(0<=r.ag/\r.ag<=150)/\(0<=r.rn/\r.rn<=1000000000)/\0<=r.py/\r.py<=1000000000)/\H' d=some (.dK kvs)/\kvs.length<=i
theorem iX (T:Tx w K mg):LB P w K mg base 2 "_law_home" ["_law_cells"] (Sp1M (XU K)):=by
 refine QI T 96 ["_law_cells","_law_home_here","_law_taken_here","_law_cell_here","_law_name_here","_law_pay","_law_rent"] Zq λH Q dn hr h=>?_
 obtain⟨_,rfl,a,ns,rfl,hS,hl,q⟩:=h;refine⟨_,(Qa (Ks 1 (Qq QE)) (Qa (Ks 2 Bx) (Qa (Lx (L0 K rfl (pu 0)) (Ky 3) (Qa (Ks 4 (Kn (d6 T) (Km (Kn (aC T) (Kq (pu 3) Qe))))) (Qc (Qn (Bl (MG (ZM hr) (pu 4) (pu 2))) (Qa (NI (ZM hr) (pu 2) (pu 4) ZF rfl) (Qa (Ks 5 (Qg Qp (Qg QB (Kn (aC T) (Kq (pu 3) Qe)) Qe) (LD K (Qq (Kq Qe (Qg Qu (Qg Xh Qe Qe) Qe))) (Qg Qp (Kn (aC T) (Kq (pu 3) Qe)) Qe)))) (Qa (Ks 6 (Qg Qp (Qg QB (Kn (aC T) (Kq (pu 3) Qe)) Qe) (LD K (Qq (Kq Qe (Qg Qu (Qg Xh Qe Qe) Qe))) (Qg Qp (Kn (aC T) (Kq (pu 3) Qe)) Qe)))) (Qc (Qw (QA K rfl AL A0 A1 Qv (pu 1) (Km (Qz (lU (pu 4) (Qg Qp (Kn (aC T) (Kq (pu 3) Qe)) Qe) (pu 5) (pu 6)))))))))) Qh)))) (Qc (Qf (QC (VR K rfl) (by rfl) T.dZ boot_sorted (Km (pu 1)))))))),?_⟩;left;refine⟨AZ _,λp hp=>?_⟩;have g1:=Qd hp (.lst []);have k1:(upd H p (.lst [])) p=some (.lst []):=Qb;generalize upd H p (.lst [])=H1 at *;intro d hd;have b1:=g1.free hd;have g2:=Qd hd (.dK []);have k2:(upd H1 d (.dK [])) d=some (.dK []):=Qb;have aj:=g2 _ _ k1;generalize upd H1 d (.dK [])=H2 at *;refine⟨a,rfl,⟨_,(g1.trans g2).seq hS⟩,WL (xs:=ns.map V.int) (sN K a p d H) ⟨[],[],[],none,none,none,none,rfl,g1.trans g2,aj,All2.nil,Au _,by simp,k2,Au _⟩ (λi σ' H' _ h=>by obtain⟨_,_,_,_,_,_,_,_,g',_⟩:=h;exact g'.seq hS) ?_ ?_⟩
 ·rintro i v _ H3 hv ⟨rs,vs,kvs,x1,x2,x3,x4,rfl,g3,kp,hA,hrl,hag,kd,hkl⟩;have hi:=Qt hv;rw[As] at hi;rw[AS] at hv;obtain⟨c,hc,rfl⟩:=A8.mp hv;left;refine⟨c,0,rfl,rfl,by decide,λm0 H4 g4 ak ah=>⟨m0,rfl,⟨ak,ah⟩,λz hz=>?_⟩⟩;left;have U:=g4 _ _ kd;have a8:=g4 _ _ kp;have a7:=g3.trans g4;have aa:p≠d:=YH kp kd (by intro z;cases z);refine Du U ?_;cases b3:Xu kvs (Sum.inr z:Key) with
  | some u=>
   left;exact⟨rs,vs,kvs,_,_,_,_,rfl,a7,a8,hA.imp λ_ _ y=>y.same g4,by omega,hag,U,by omega⟩
  | none=>
   left;refine Dt U (Zl (by omega)) ?_;have el:(ZT kvs (Sum.inr z:Key) (V.bl true)).length=kvs.length+1:=by
    rw[Um _ b3,Aq];rfl
   have af:∀{r v},Pr K H4 r v->Pr K (upd H4 d (.dK (ZT kvs (Sum.inr z) (V.bl true)))) r v:=λ{r v} y=>by
    obtain⟨p5,rfl,h5⟩:=y;exact⟨p5,rfl,Y6 h5 U (λ_ z=>by cases z) (λ_ _ z=>by cases z)⟩
   have g5:Same H (upd H4 d (.dK (ZT kvs (Sum.inr z) (V.bl true)))):=Z3 a7 b1;have ax:(upd H4 d (.dK (ZT kvs (Sum.inr z) (V.bl true)))) d=some (.dK (ZT kvs (Sum.inr z) (V.bl true))):=Qb;have ab:(upd H4 d (.dK (ZT kvs (Sum.inr z) (V.bl true)))) p=some (.lst vs):=by rw[Qk aa];exact a8
   have ai:All2 (Pr K (upd H4 d (.dK (ZT kvs (Sum.inr z) (V.bl true))))) rs vs:=hA.imp λ_ _ y=>af (y.same g4)
   generalize upd H4 d (.dK (ZT kvs (Sum.inr z) (V.bl true)))=H5 at *;generalize ZT kvs (Sum.inr z) (V.bl true)=kvs' at *;left;have ae:∀(k:Int) (H':Hp) (Q':VK),0<=k/\k<=7->(∀(i:Int) H'',Same H' H''->0<=i->i<=1000000000->Q' (.int i) H'')->OI (.int c) (.int k) H' λx H1=>sI (λ_ j=>CDivB j) (λi j=>V.int (i.fdiv j)) x (.int 2) H1 λx H1=>Kz 10 9/\2<=sizeLine/\∀p_1,H1 p_1=none ->
     OI (.int c) (.int k) (upd H1 p_1 (.lst [V.int 100,V.int (10 ^ Int.toNat 9+1)])) λb0 H1=>sI (λ_ j=>0<j) (λi j=>V.int (i % j)) b0 (.int 2) H1 λy H2=>lF K (.ref p_1) y H2 λy H2=>sI (λ_ j=>0<j) (λi j=>V.int (i % j)) x y H2 Q':=by
    intro k H' Q' hk hq;refine⟨c,k,rfl,rfl,hk,λm1 H6 g6 _ _=>⟨CDivB.small (by decide) (by decide),by unfold Kz;decide,by decide,λp1 b4=>?_⟩⟩;have g7:=Qd b4 (.lst [V.int 100,V.int (10 ^ Int.toNat 9+1)]);have k7:(upd H6 p1 (.lst [V.int 100,V.int (10 ^ Int.toNat 9+1)])) p1=some (.lst [V.int 100,V.int (10 ^ Int.toNat 9+1)]):=Qb;generalize upd H6 p1 (.lst [V.int 100,V.int (10 ^ Int.toNat 9+1)])=H7 at *;refine⟨c,k,rfl,rfl,hk,λm2 H8 g8 _ _=>⟨(by show(0:Int)<2;decide),?_⟩⟩;show lF K (.ref p1) (.int (m2 % 2)) H8 _;rcases(show m2 % 2=0∨m2 % 2=1 by omega) with e|e<;>rw[e]
    ·exact QO (G5 (g8 _ _ k7)) rfl ⟨(by show(0:Int)<100;decide),hq _ _ (g6.trans (g7.trans g8)) (AY _ (by decide)) (by have:=A6 (m1.fdiv 2) (show 0<(100:Int) by decide);omega)⟩
    ·exact QO (G5 (g8 _ _ k7)) rfl ⟨(by show(0:Int)<10 ^ Int.toNat 9+1;decide),hq _ _ (g6.trans (g7.trans g8)) (AY _ (by decide)) (Eg _)⟩
   refine ae 2 H5 _ (by decide) λpy H6 g6 b2 az=>ae 3 H6 _ (by decide) λrn H7 g7 av au=>?_
   have a6:=g6.trans g7;have aq:=a6 _ _ ab;refine⟨.inl ⟨rfl,_,G5 aq⟩,c,1,rfl,rfl,by decide,λm3 H8 g8 _ _=>⟨(by show(0:Int)<151;decide),by decide,λp9 ag=>?_⟩⟩;have a0:=AY m3 (show(151:Int)≠0 by decide);have a1:=A6 m3 (show 0<(151:Int) by decide);have g9:=Qd ag (.tup [.str z,.int (m3 % 151),.int py,.int rn]);have k9:(upd H8 p9 (.tup [.str z,.int (m3 % 151),.int py,.int rn])) p9=some (.tup [.str z,.int (m3 % 151),.int py,.int rn]):=Qb;generalize upd H8 p9 (.tup [.str z,.int (m3 % 151),.int py,.int rn])=H9 at *;have a4:=a6.trans (g8.trans g9);have a5:=a4 _ _ ab;have ao:=hA.1;refine X6 a5 (Zl (by omega)) ?_;refine⟨rs++[⟨z,m3 % 151,py,rn⟩],vs++[.ref p9],kvs',_,_,_,_,rfl,Z3 (g5.trans a4) hp,Qb,(ai.imp λ_ _ y=>(y.same a4).upd a5).snoc (Pr.upd ⟨p9,rfl,G6 k9⟩ a5),by simp;omega,?_,by rw[Qk aa.symm];exact a4 _ _ ax,by omega⟩;intro r J;rcases AK.mp J with J|J
   ·exact hag r J
   ·have e:=AA.mp J;subst e;exact⟨⟨a0,by show m3 % 151<=150;omega⟩,⟨av,au⟩,b2,az⟩
 ·rintro _ H3 ⟨rs,vs,kvs,x1,x2,x3,x4,rfl,g3,kp,hA,hrl,hag,kd,hkl⟩;left;rw[As] at hrl;have ao:=hA.1;refine⟨p,vs,[false,false,false],rfl,G5 kp,by omega,λy hy=>?_,λl ws a9 pm=>?_⟩
  ·obtain⟨k,aw⟩:=I8 hy;obtain⟨r,J,⟨p5,rfl,h5⟩⟩:=hA.getV aw;exact⟨p5,_,rfl,h5,.cons ⟨_,rfl⟩ (.cons ⟨_,rfl⟩ (.cons ⟨_,rfl⟩ (.cons ⟨_,rfl⟩ .nil)))⟩
  ·have g5:=Qd a9 (.lst ws);obtain⟨ar,pr,ay⟩:=Lk pm hA;exact q l ar ws _ (g3.trans g5) (g3.free a9) Qb (ay.imp λ_ _ y=>y.same g5) (by rw[pr.length_eq];omega) (λr J=>hag r (pr.mem_iff.mp J))
inductive md (K)(x y z:V)(H)(Q:VK):Prop
 | mk (a:Addr) (rs:List Pn) (l h:Int) (h1:x=.ref a) (h2:y=.int l) (h3:z=.int h) (h4:Hm K H rs a) (h5:Q (.int (rs.filter (Lq l h)).length) H):md K x y z H Q
def rD (a:Addr)(rs:List Pn)(lo hi:Int)(H:Hp)(i:Nat)(σ':L2.St)(H':Hp):Prop:=∃x0,σ'=[some (.ref a),some (.int lo),some (.int hi),some (.int ((rs.take i).filter (Lq lo hi)).length),x0]/\H'=H
theorem dQ (T:Tx w K mg):LB P w K mg base 1 "_law_heads" ["_law_home_here","_law_low","_law_high"] (Sp3M (md K)):=by
 refine QI T 111 ["_law_home_here","_law_low","_law_high","_law_many","_law_one"] Wp λH Q dn hr h=>?_
 obtain⟨_,_,_,rfl,a,rs,lo,hi,rfl,rfl,rfl,⟨vs,hL,U⟩,q⟩:=h;refine⟨_,(Qa (Ks 3 Qe) (Qa (Lx (L0 K rfl (pu 0)) (Ky 4) (Qc (Qn (PW.pt (Zu (Ku ZU (pu 1) (Ko K 4)) (Zo (Ku ZU (Ko K 4) (pu 2))))) (Qc (Ks 3 (Qg Qu (pu 3) Qe))) Qh))) (Qc (Qf (pu 3))))),?_⟩;left;have a0:=U.1;refine⟨a,rfl,⟨vs,hL⟩,WL (xs:=vs) (rD a rs lo hi H) ⟨none,rfl,rfl⟩ (λi σ' H' _ h=>by obtain⟨_,_,e⟩:=h;rw[e];exact hL) ?_ ?_⟩
 ·rintro i v _ H2 hv ⟨x0,rfl,rfl⟩;obtain⟨r,J,⟨p,rfl,hT⟩⟩:=U.getV hv;have st:=JQ (f:=Lq lo hi) J;have no:¬(lo<=r.ag/\r.ag<=hi)->rD a rs lo hi H2 (i+1) [some (.ref a),some (.int lo),some (.int hi),some (.int ((rs.take i).filter (Lq lo hi)).length),some (.ref p)] H2:=λc=>by
   refine⟨some (.ref p),?_,rfl⟩;rw[st,Am (by unfold Lq;simp;omega),Ie]
  left;refine Qo (λc1=>?_) (λc1=>no (by omega));left;refine Qo (λc2=>?_) (λc2=>no (by omega));left;refine⟨some (.ref p),?_,rfl⟩;rw[st,An (by unfold Lq;simp;omega)];simp
 ·rintro _ H2 ⟨x0,rfl,rfl⟩;rw[AJ (by omega)];left;exact q
def W1 (m:Int):Prop:=0<=m/\m<1000000000000
def sumR (rs:List Pn):Int:=(rs.map (·.rn)).sum
theorem Mw {m:Int}(h:W1 m):RB 60 (m:Rat):=RB.int (Ll h.1 (by have:=h.2;omega)) (by decide)
theorem Vj:∀{xs:List Int},(∀x∈xs,0<=x/\x<=1000000000)->0<=xs.sum/\xs.sum<=xs.length*1000000000
 | [],_=>by simp
 | x::xs,h=>by
  have h1:=h x AH;have h2:=Vj (xs:=xs) λy J=>h y (AE _ J)
  simp only[List.sum_cons,AN];omega
structure HmOk (rs:List Pn):Prop where
 n:rs.length<=54
 b:∀r∈rs,(0<=r.ag/\r.ag<=150)/\(0<=r.rn/\r.rn<=1000000000)/\0<=r.py/\r.py<=1000000000
theorem HmOk.sumR {rs}(h:HmOk rs):W1 (sumR rs):=by
 have e:=Vj (xs:=rs.map (·.rn)) λx J=>by
  obtain⟨r,U,rfl⟩:=Ii.mp J;exact(h.b r U).2.1
 rw[As] at e;have:=h.n;unfold W1 My.sumR;omega
def By (rs:List Pn)(l h:Int):Int:=((rs.filter (Lq l h)).map (·.py)).sum
theorem HmOk.pay {rs}(h:HmOk rs)(lo hi:Int):W1 (By rs lo hi):=by
 have e:=Vj (xs:=(rs.filter (Lq lo hi)).map (·.py)) λx J=>by
  obtain⟨r,U,rfl⟩:=Ii.mp J;exact(h.b r (Ik.mp U).1).2.2
 rw[As] at e;have:=h.n;have:(rs.filter (Lq lo hi)).length<=rs.length:=Iw _ _;unfold W1 By;omega
def rt (r s:Int):Rat:=if h:s.toNat≠0/\r.natAbs.Coprime s.toNat then⟨r,s.toNat,h.1,h.2⟩ else 0
theorem Uk {s:Int}(h:Zn r s):(rt r s).num=r/\((rt r s).den:Int)=s:=by
 obtain⟨h1,h2,U,h4,J⟩:=h;have c:s.toNat≠0/\r.natAbs.Coprime s.toNat:=⟨by omega,by
  have J:Nat.gcd r.natAbs s.natAbs=1:=J;unfold Nat.Coprime;rwa [show s.toNat=s.natAbs by omega]⟩
 unfold rt;rw[dif_pos c];exact⟨rfl,by show((s.toNat:Nat):Int)=s;omega⟩
theorem NY {s:Int}(h:Zn r s)(hp:Kt K H p [.int r,.int s]):Fq K H (rt r s) (.ref p):=⟨p,rfl,by rw[(Uk h).1,(Uk h).2];exact hp⟩
theorem Uj {s:Int}(h:Zn r s):RB 14 (rt r s):=by
 obtain⟨e1,e2⟩:=Uk h;obtain⟨h1,h2,J,U,_⟩:=h;unfold RB;rw[e1,e2];exact⟨by unfold Bd;omega,by unfold Bd;omega⟩
theorem DN {s:Int}(h:Zn r s):0<=rt r s:=Rat.num_nonneg.mp (by rw[(Uk h).1];exact h.1)
def wR (a:Rat)(m s:Int):Rat:=if(m:Rat)<a*(s:Rat) then(m:Rat) else a*(s:Rat)
def Itm.wth (rs:List Pn):Itm->Rat
 | .base a=>(a:Rat)|.each a l h=>((a*(rs.filter (Lq l h)).length:Int):Rat)|.rent r s m=>wR (rt r s) m (sumR rs)|_=>0
def Itm.met (rs:List Pn):Itm->Bool
 | .term false n l h=>decide (((rs.filter (Lq l h)).length:Int)≥n)|.term true n l h=>decide (((rs.filter (Lq l h)).length:Int)<=n)|_=>false
def Itm.own (rs:List Pn):Itm->Rat
 | .pay r s l h=>rt r s*(By rs l h:Rat)|_=>0
def Itm.pr:Itm->L2.Pr
 | .off l r s=>(l,rt r s)|_=>(0,0)
theorem pX {m:Int}(h:ZR m):W1 m:=⟨h.1,by have:=h.2;omega⟩
theorem DO {a:Rat}{m s:Int}(ha:RB 14 a)(hm:W1 m)(hs:W1 s):RB 60 (wR a m s):=by
 unfold wR;split
 ·exact Mw hm
 ·have b:Bd 40 s:=by unfold W1 at hs;unfold Bd;omega
  exact(ha.mul (RB.int b (by decide))).mono (by decide)
theorem Be {rs:List Pn}(ho:HmOk rs){x:Itm}(ok:x.Ok):RB 60 (x.wth rs):=by
 have U:=ho.n;cases x with
 | base a=>exact Mw (pX ok)
 | each a l h=>
  have J:(rs.filter (Lq l h)).length<=rs.length:=Iw _ _;obtain⟨⟨h1,h2⟩,_⟩:=ok;have b1:Bd 30 a:=by unfold Bd;omega
  have b2:Bd 6 ((rs.filter (Lq l h)).length:Int):=by unfold Bd;omega
  exact RB.int ((b1.mul b2).mono (by decide)) (by decide)
 | rent r s m=>exact DO (Uj ok.1) (pX ok.2) ho.sumR
 | _=>exact RB.zero (by decide)
inductive OY (K)(t:OP)(n:Nat)(x y:V)(H:Hp)(Q:VK):Prop
 | mk (i:Itm) (a:Addr) (rs:List Pn) (h1:PIt K t H i x) (h2:i.ct=n) (h3:i.Ok) (h4:y=.ref a) (h5:Hm K H rs a) (h6:HmOk rs) (h7:∀z H',Same H H'->Fq K H' (i.wth rs) z->Q z H'):OY K t n x y H Q
inductive W8 (K)(t:OP)(n:Nat)(x y:V)(H:Hp)(Q:VK):Prop
 | mk (i:Itm) (a:Addr) (rs:List Pn) (h1:PIt K t H i x) (h2:i.ct=n) (h4:y=.ref a) (h5:Hm K H rs a) (h6:HmOk rs) (h7:∀H',Same H H'->Q (.bl (i.met rs)) H'):W8 K t n x y H Q
theorem iY (T:Tx w K mg):Z7 P w K mg base 1 t.zI "worth" ["self","home"] (Sp2M (OY K t 0)):=by
 refine Xq T 6601 ["self","home"] Zd λH Q dn hr h=>?_
 obtain⟨_,_,rfl,i,a,rs,hi,e,ok,rfl,hH,ho,q⟩:=h;refine⟨_,(Qc (Qf (Qz (Kq (LA K (pu 0)) Qe)))),?_⟩;obtain⟨m,x,dx,rfl,rfl,U⟩:=qo hi e;left;refine QH U T.aU T.bW Cu ⟨by decide,λp2 J=>?_⟩;exact q _ _ (Qd J _) (Xa (G6 Qb))
theorem iZ (T:Tx w K mg):Z7 P w K mg base 3 t.zJ "worth" ["self","home"] (Sp2M (OY K t 1)):=by
 refine Xq T 6701 ["self","home"] Zd λH Q dn hr h=>?_
 obtain⟨_,_,rfl,i,a,rs,hi,e,ok,rfl,hH,ho,q⟩:=h;refine⟨_,(Qc (Qf (Qz (Kq (Qg Qr (LA K (pu 0)) (Kn (cI T) (Lu (pu 1) (LA K (pu 0)) (LA K (pu 0))))) Qe)))),?_⟩;obtain⟨m,l,h',x,dx,rfl,rfl,U⟩:=qm hi e;obtain⟨⟨m0,m1⟩,_⟩:=ok;have a4:=ho.n;have a0:(rs.filter (Lq l h')).length<=rs.length:=Iw _ _;left;refine QH U T.aE T.bX Cr (QH U T.aE T.bY Cn (QH U T.aE T.bZ Co ?_));refine⟨a,rs,l,h',rfl,rfl,rfl,hH,by omega,λH1 g1=>?_⟩;refine⟨⟨Ll m0 (by omega),Ll (by omega) (by omega)⟩,by decide,λp2 J=>?_⟩;exact q _ _ (g1.trans (Qd J _)) (Xa (G6 Qb))
theorem j6 (T:Tx w K mg):Z7 P w K mg base 4 t.zK "worth" ["self","home"] (Sp2M (OY K t 2)):=by
 refine Xq T 6801 ["self","home"] Zd λH Q dn hr h=>?_
 obtain⟨_,_,rfl,i,a,rs,hi,e,ok,rfl,hH,U,q⟩:=h;refine⟨_,(Qc (Qf (Kn (iK T) (Kq (Kn (cK T) (Kq (LA K (pu 0)) (Qz (Kq (Kn (iQ T) (Km (pu 1))) Qe)))) (Qz (Kq (LA K (pu 0)) Qe)))))),?_⟩;obtain⟨r,s',m,x,dx,p,rfl,rfl,hx,hp⟩:=ql hi e;have a5:=U.n;have ha:=Uj ok.1;left;refine QH hx T.aO T.c7 Cg ?_;refine⟨a,rs,rfl,hH,by omega,λH1 g1=>⟨by decide,λp1 a4=>?_⟩⟩;have g2:=g1.trans (Qd a4 (.tup [.int (rs.map (·.rn)).sum,.int 1]));refine⟨rt r s',(sumR rs:Rat),14,60,NY ok.1 (g2.sqT hp),Xa (G6 Qb),ha,Mw U.sumR,by decide,λz H3 g3 f3=>?_⟩;have J:=g2.trans g3;refine QH (J _ _ hx) T.aO T.c8 Ci ⟨by decide,λp4 a0=>?_⟩;have g4:=Qd a0 (.tup [.int m,.int 1]);refine⟨rt r s'*(sumR rs:Rat),(m:Rat),74,60,f3.same g4,Xa (G6 Qb),ha.mul (Mw U.sumR),Mw (pX ok.2),by decide,λu hu=>?_⟩;exact q _ _ (J.trans g4) hu
theorem j8 (T:Tx w K mg):Z7 P w K mg base 3 t.zM "met" ["self","home"] (Sp2M (W8 K t 3)):=by
 refine Xq T 7001 ["self","home"] Zd λH Q dn hr h=>?_
 obtain⟨_,_,rfl,i,a,rs,hi,e,rfl,hH,ho,q⟩:=h;refine⟨_,(Qc (Qf (OJ GC (Kn (cI T) (Lu (pu 1) (LA K (pu 0)) (LA K (pu 0)))) (LA K (pu 0))))),?_⟩;obtain⟨n,l,h',x,dx,rfl,rfl,J⟩:=qk hi e;left;refine QH J T.aF T.cA Tr (QH J T.aF T.cB Ts ?_);refine⟨a,rs,l,h',rfl,rfl,rfl,hH,by have:=ho.n;omega,λH1 U=>?_⟩;exact QH (U _ _ J) T.aF T.c9 Tq (q _ U)
theorem j9 (T:Tx w K mg):Z7 P w K mg base 3 t.zN "met" ["self","home"] (Sp2M (W8 K t 4)):=by
 refine Xq T 7101 ["self","home"] Zd λH Q dn hr h=>?_
 obtain⟨_,_,rfl,i,a,rs,hi,e,rfl,hH,ho,q⟩:=h;refine⟨_,(Qc (Qf (OJ ZU (Kn (cI T) (Lu (pu 1) (LA K (pu 0)) (LA K (pu 0)))) (LA K (pu 0))))),?_⟩;obtain⟨n,l,h',x,dx,rfl,rfl,J⟩:=qj hi e;left;refine QH J T.aG T.cE Tr (QH J T.aG T.cG Ts ?_);refine⟨a,rs,l,h',rfl,rfl,rfl,hH,by have:=ho.n;omega,λH1 U=>?_⟩;exact QH (U _ _ J) T.aG T.cD Tq (q _ U)
structure KOk (K:W.Frag)(t:OP)(H:Hp)(k:Str×List Itm)(v:V):Prop where
 r:KdR K t (λ_=>True) H k v
 w:WfI k.2
theorem KOk.same {t}{k}(h:KOk K t H k v)(g:Same H H'):KOk K t H' k v:=⟨h.r.kp (.of g),h.w⟩
theorem WfI.len {xs}(h:WfI xs){j:Nat}(hj:j<7)(h3:j≠3):(Kr xs j).length<=6:=by
 have:=h.ct j hj h3;have:mo j<=6:=by
  rcases(show j=0∨j=1∨j=2∨j=4∨j=5∨j=6 by omega) with rfl|rfl|rfl|rfl|rfl|rfl<;>decide
 omega
theorem WfI.at {xs}(h:WfI xs){j:Nat}{x}(hx:x∈Kr xs j):x.Ok/\x.sl=j:=⟨h.ok x (Xx hx),Zr hx⟩
def Na (xs:List Itm):List L2.Pr:=(Kr xs 4).map Itm.pr
theorem qf {x:Itm}(h:x.sl=4):∃l r s,x=.off l r s:=by
 cases x with
 | off l r s=>exact⟨l,r,s,rfl⟩
 | _=>exact absurd h (by simp[Itm.sl])
theorem oM {x:Itm}(h:x.sl=2):∃r s l h',x=.pay r s l h':=by
 cases x with
 | pay r s l h'=>exact⟨r,s,l,h',rfl⟩
 | _=>exact absurd h (by simp[Itm.sl])
theorem BP:∀{ys:List Itm}{a:Int},ys.Pairwise nT->(∀y∈ys,y.sl=4)->(∀y∈ys,∀l r s,y=.off l r s->a<l)->Zf a (ys.map Itm.pr)=true
 | [],_,_,_,_=>rfl
 | y::ys,a,pw,sl,lo=>by
  obtain⟨l,r,s,rfl⟩:=qf (sl y AH);obtain⟨p1,p2⟩:=List.pairwise_cons.mp pw;refine limOk_cons.mpr ⟨lo _ AH l r s rfl,BP p2 (λz J=>sl z (AE _ J)) λz J l' U s' e=>(p1 z J).2 l r s l' U s' rfl e⟩
theorem Vu {xs}(h:WfI xs):Zf (-1) (Na xs)=true:=BP (h.pw.filter _) (λy hy=>Zr hy) λy hy l r s e=>by
 subst e;have:=(h.at hy).1.1.1;omega
theorem Yg {xs}(h:WfI xs){p}(hp:p∈Na xs):Bd 40 p.1/\RB 14 p.2/\0<=p.2:=by
 obtain⟨x,J,rfl⟩:=Ii.mp hp;obtain⟨ok,e⟩:=h.at J;obtain⟨l,r,s,rfl⟩:=qf e;exact⟨by have h1:=ok.1.1;have h2:=ok.1.2;show Bd 40 l;unfold Bd;omega,Uj ok.2,DN ok.2⟩
theorem NM {xs}(h:WfI xs):(Na xs).length<=6:=by
 unfold Na;rw[As];exact h.len (by decide) (by decide)
theorem Fi {t}{x}(h:PIt K t H x v)(ok:x.Ok)(e:x.sl=4):Fp K H x.pr v:=by
 cases h<;>first|(cases e;done)|skip
 next l r s x p h hp=>exact⟨x,_,rfl,h,NY ok.2 hp⟩
theorem Rw {f:α->β}{R:β->V->Prop}{xs:List α}(h:All2 (λa v=>R (f a) v) xs vs):All2 R (xs.map f) vs:=⟨by rw[As];exact h.1,λi b v J hv=>by
 rw[AS] at J;obtain⟨a,U,rfl⟩:=A8.mp J;exact h.2 i a v U hv⟩
theorem KOk.offs {t}{xs}(w:WfI xs)(hA:All2 (PIt K t H) (Kr xs 4) vs):All2 (Fp K H) (Na xs) vs:=Rw ⟨hA.1,λi x v J U=>Fi (hA.2 i x v J U) (w.at (AG J)).1 (w.at (AG J)).2⟩
inductive Xj (K)(t)(x y:V)(H:Hp)(Q:VK):Prop
 | mk (a:Addr) (rs:List Pn) (k:Str×List Itm) (h2:y=.ref a) (h3:KOk K t H k x) (h4:Hm K H rs a) (h5:HmOk rs) (h7:∀z H',Same H H'->Fq K H' (OQ ((Kr k.2 0).map (·.wth rs))) z->Q z H'):Xj K t x y H Q
inductive mX (K)(t)(x y:V)(H:Hp)(Q:VK):Prop
 | mk (a:Addr) (rs:List Pn) (k:Str×List Itm) (h2:y=.ref a) (h3:KOk K t H k x) (h4:Hm K H rs a) (h5:HmOk rs) (h7:∀H',Same H H'->Q (.bl (((Kr k.2 1).map (·.met rs)).all id)) H'):mX K t x y H Q
inductive Vd (K)(t)(x y:V)(H:Hp)(Q:VK):Prop
 | mk (a:Addr) (rs:List Pn) (k:Str×List Itm) (h2:y=.ref a) (h3:KOk K t H k x) (h4:Hm K H rs a) (h5:HmOk rs) (h7:∀l vs H',Same H H'->H l=none->H' l=some (.lst vs)->All2 (Fq K H') ((Kr k.2 2).map (·.own rs)) vs->Q (.ref l) H'):Vd K t x y H Q
inductive mW (K)(t)(x)(H:Hp)(Q:VK):Prop
 | mk (k:Str×List Itm) (h3:KOk K t H k x) (h7:∀l rows H',H l=none->Same H H'->Fo K H' rows l->Draws rows (QT (Na k.2))->XD rows->VZ rows->(∀r∈rows,nS 500 500 500 r)->rows.length<=10->Q (.ref l) H'):mW K t x H Q
def mx (m:Rat)(p:Int×Rat):Rat:=if m<p.2 then p.2 else m
def gr (os:List (Int×Rat)):Rat:=os.foldl mx 0
theorem BK {m:Rat}{p}(h:RB n m)(h':RB n p.2):RB n (mx m p):=by
 unfold mx;split
 ·exact h'
 ·exact h
theorem B0 {p}{os}(h:0<=p.2):(p::os).foldl mx p.2=gr (p::os):=by
 unfold gr;rw[List.foldl_cons,List.foldl_cons];have e1:mx p.2 p=p.2:=by unfold mx;split<;>rfl
 have e2:mx 0 p=p.2:=by
  unfold mx;split
  ·rfl
  ·rename_i c;exact Rat.le_antisymm h (Rat.not_lt.mp c)
 rw[e1,e2]
inductive m8 (K)(t)(x)(H:Hp)(Q:VK):Prop
 | mk (k:Str×List Itm) (h3:KOk K t H k x) (h7:∀z,Fq K H (gr (Na k.2)) z->Q z H):m8 K t x H Q
inductive ml (K)(t)(x y)(H:Hp)(Q:VK):Prop
 | mk (k:Str×List Itm) (a:Rat) (h3:KOk K t H k x) (h4:Fq K H a y) (h5:RB 60 a) (h7:Kr k.2 6=[]->Q y H) (h8:∀u z (n:Int) q H',Kr k.2 6=[.rnd u z]->Itm.Ok (.rnd u z)->Same H H'->Kt K H' q [.int (n*u),.int 1]->nX a u z n->Bd 9000 (n*u)->Q (.ref q) H'):ml K t x y H Q
theorem Yv {f:α->β}{l:List α}{x:α}(h:l[i]?=some x):((l.map f).take (i+1))=((l.map f).take i)++[f x]:=by
 rw[AX,AS,h];rfl
theorem GP {g i}:(kF a b c d e f g h i).lookup (Str.ofString "full_of")=none:=by kernel_rfl
theorem UG {g i}:(kF a b c d e f g h i).lookup (Str.ofString "may_have")=none:=by kernel_rfl
theorem Tc {g i}:(kF a b c d e f g h i).lookup (Str.ofString "owns")=none:=by kernel_rfl
theorem VD {g i}:(kF a b c d e f g h i).lookup (Str.ofString "taken_off")=none:=by kernel_rfl
theorem WK {g i}:(kF a b c d e f g h i).lookup (Str.ofString "greatest_rate")=none:=by kernel_rfl
theorem JM {g i}:(kF a b c d e f g h i).lookup (Str.ofString "amount_from")=none:=by kernel_rfl
theorem Rb:(fB a).lookup (Str.ofString "worth")=none:=by kernel_rfl
theorem Ra {l}:(fE a l h).lookup (Str.ofString "worth")=none:=by kernel_rfl
theorem B9 {r m}:(fR r m).lookup (Str.ofString "worth")=none:=by kernel_rfl
theorem B7 {n l}:(fT n l h).lookup (Str.ofString "met")=none:=by kernel_rfl
theorem jA (T:Tx w K mg):Z7 P w K mg base 5 t.zE "full_of" ["self","home"] (Sp2M (Xj K t)):=by
 refine Xq T 6001 ["self","home"] Zd λH Q dn hr h=>?_
 obtain⟨_,_,rfl,a,rs,k,rfl,⟨⟨x,dx,li,un,wa,m,rfl,h0,hm,_⟩,w⟩,hH,ho,q⟩:=h;obtain⟨_,v1,a1,b1⟩:=hm 0 (by decide)
 change All2 (PIt K t H) (Kr k.2 0) v1 at b1
 have a4:=b1.1;have w1:=w.len (j:=0) (by decide) (by decide);refine⟨_,(Qc (Qf (Kn (iT T) (Km (Lz ["part","home"] [none,some 1] (L0 K rfl (LA K (pu 0))) (Ky 0) QL (Xp (ZJ (iY T) (LG hr) T.aU (pu 0) (Km (pu 1))) (Xp (ZJ (iZ T) (LG hr) T.aE (pu 0) (Km (pu 1))) (ZJ (j6 T) (LG hr) T.aO (pu 0) (Km (pu 1)))))))))),?_⟩;left;simp only[QX];left;refine QH h0 T.aB T.bN UF ⟨m 0,rfl,⟨_,G5 a1⟩,Zt (xs:=v1) (λi acc σ' H'=>∃x0,σ'=[x0,some (.ref a)]/\Same H H'/\All2 (Fq K H') (((Kr k.2 0).map (·.wth rs)).take i) acc) ⟨none,rfl,G7 _,All2.nil⟩ (λi acc σ' H' _ h=>by obtain⟨_,_,g',_⟩:=h;exact G5 (g' _ _ a1)) (by omega) ?_ ?_⟩
 ·rintro i v acc _ H2 hv a0 ⟨x0,rfl,g,hA⟩;obtain⟨y,hy,hP⟩:=b1.getV hv;obtain⟨ok,sl⟩:=w.at (AG hy);have hi:=Qt hv;simp only[Zw];left;have fin:∀z H3,Same H2 H3->Fq K H3 (y.wth rs) z->CN (λi acc σ' H'=>∃x0,σ'=[x0,some (.ref a)]/\Same H H'/\All2 (Fq K H') (((Kr k.2 0).map (·.wth rs)).take i) acc) v1.length i (acc++[z]) [some v,some (.ref a)] H3:=λz H3 g3 hz=>by
   refine CN.mk hi (by rw[Aq,Av];omega) ⟨_,rfl,g.trans g3,?_⟩;rw[Yv hy];exact(hA.imp λ_ _ y=>y.same g3).snoc hz
  have U:=hP.kp (N:=λ_=>True) (.of g);have J:=U;cases U with
  | base n x dx h=>
   refine .inl (Xm h Rb ?_);left;exact⟨_,a,rs,J,rfl,ok,rfl,hH.same g,ho,fin⟩
  | each n l h' x dx h=>
   refine .inr (.inl (Xm h Ra ?_));left;exact⟨_,a,rs,J,rfl,ok,rfl,hH.same g,ho,fin⟩
  | rent r s' m x dx p h hp=>
   refine .inr (.inr (Xm h B9 ?_));left;exact⟨_,a,rs,J,rfl,ok,rfl,hH.same g,ho,fin⟩
  | _=>exact absurd sl (by simp[Itm.sl])
 ·rintro acc _ H2 ⟨x0,rfl,g,hA⟩ l hl;rw[AJ (by rw[As];omega)] at hA;have g2:=Qd hl (.lst acc);refine⟨l,acc,_,rfl,G5 Qb,hA.imp λ_ _ y=>y.same g2,?_,by rw[As];omega,λz H' g' hz=>q z H' (g.trans (g2.trans g')) hz⟩;intro r hr;obtain⟨w',hw,rfl⟩:=Ii.mp hr;exact Be ho (w.at hw).1
theorem jB (T:Tx w K mg):Z7 P w K mg base 4 t.zE "may_have" ["self","home"] (Sp2M (mX K t)):=by
 refine Xq T 6002 ["self","home"] Zd λH Q dn hr h=>?_
 obtain⟨_,_,rfl,a,rs,k,rfl,⟨⟨x,dx,li,un,wa,m,rfl,h0,hm,_⟩,w⟩,hH,ho,q⟩:=h;obtain⟨_,v2,a1,b1⟩:=hm 1 (by decide)
 change All2 (PIt K t H) (Kr k.2 1) v2 at b1
 have a4:=b1.1;have w1:=w.len (j:=1) (by decide) (by decide);refine⟨_,(Qc (Qf (QC (XS K rfl rfl) (by rfl) T.aX boot_all (Km (Lz ["term","home"] [none,some 1] (L0 K rfl (LA K (pu 0))) (Ky 0) QL (Xp (ZJ (j8 T) (LG hr) T.aF (pu 0) (Km (pu 1))) (ZJ (j9 T) (LG hr) T.aG (pu 0) (Km (pu 1))))))))),?_⟩;left;simp only[QX];left;refine QH h0 T.aB T.bO UE ⟨m 1,rfl,⟨_,G5 a1⟩,Zt (xs:=v2) (λi acc σ' H'=>∃x0,σ'=[x0,some (.ref a)]/\Same H H'/\acc=(((Kr k.2 1).map (·.met rs)).take i).map V.bl) ⟨none,rfl,G7 _,rfl⟩ (λi acc σ' H' _ h=>by obtain⟨_,_,g',_⟩:=h;exact G5 (g' _ _ a1)) (by omega) ?_ ?_⟩
 ·rintro i v acc _ H2 hv a0 ⟨x0,rfl,g,rfl⟩;obtain⟨y,hy,hP⟩:=b1.getV hv;obtain⟨ok,sl⟩:=w.at (AG hy);have hi:=Qt hv;simp only[Zw];left;have st:(((Kr k.2 1).map (·.met rs)).take (i+1)).map V.bl=(((Kr k.2 1).map (·.met rs)).take i).map V.bl++[V.bl (y.met rs)]:=by rw[Yv hy,Az];rfl
  have fin:∀H3,Same H2 H3->CN (λi acc σ' H'=>∃x0,σ'=[x0,some (.ref a)]/\Same H H'/\acc=(((Kr k.2 1).map (·.met rs)).take i).map V.bl) v2.length i ((((Kr k.2 1).map (·.met rs)).take i).map V.bl++[V.bl (y.met rs)]) [some v,some (.ref a)] H3:=λH3 g3=>CN.mk hi (by rw[Aq,Av];omega) ⟨_,rfl,g.trans g3,st.symm⟩
  have J:=hP.kp (N:=λ_=>True) (.of g);have U:=J;cases J with
  | from' n l h' x dx h=>
   refine .inl (Xm h B7 ?_);left;exact⟨_,a,rs,U,rfl,rfl,hH.same g,ho,fin⟩
  | upto n l h' x dx h=>
   refine .inr (Xm h B7 ?_);left;exact⟨_,a,rs,U,rfl,rfl,hH.same g,ho,fin⟩
  | _=>exact absurd sl (by simp[Itm.sl])
 ·rintro acc _ H2 ⟨x0,rfl,g,rfl⟩ l hl;rw[AJ (by rw[As];omega)];exact⟨l,_,rfl,G5 Qb,q _ (g.trans (Qd hl _))⟩
theorem jC (T:Tx w K mg):Z7 P w K mg base 4 t.zE "owns" ["self","home"] (Sp2M (Vd K t)):=by
 refine Xq T 6003 ["self","home"] Zd λH Q dn hr h=>?_
 obtain⟨_,_,rfl,a,rs,k,rfl,⟨⟨x,dx,li,un,wa,m,rfl,h0,hm,_⟩,w⟩,hH,ho,q⟩:=h;obtain⟨_,v3,a1,b1⟩:=hm 2 (by decide)
 change All2 (PIt K t H) (Kr k.2 2) v3 at b1
 have a6:=b1.1;have w1:=w.len (j:=2) (by decide) (by decide);have a7:=ho.n;refine⟨_,(Qc (Qf (Lz ["rate","low","high","home"] [none,none,none,some 1] (L0 K rfl (LA K (pu 0))) (ON (n:=3) K rfl rfl (Qm (Ky 0) (Qm (Ky 1) (Qm (Ky 2) QV)))) QL (Kn (cK T) (Kq (pu 0) (Qz (Kq (Kn (iW T) (Lu (pu 3) (pu 1) (pu 2))) Qe))))))),?_⟩;left;simp only[QX];left;refine QH h0 T.aB T.bP NS ⟨m 2,rfl,⟨_,G5 a1⟩,Zt (xs:=v3) (λi acc σ' H'=>∃x0 x1 x2,σ'=[x0,x1,x2,some (.ref a)]/\Same H H'/\All2 (Fq K H') (((Kr k.2 2).map (·.own rs)).take i) acc) ⟨none,none,none,rfl,G7 _,All2.nil⟩ (λi acc σ' H' _ h=>by obtain⟨_,_,_,_,g',_⟩:=h;exact G5 (g' _ _ a1)) (by omega) ?_ ?_⟩
 ·rintro i v acc _ H2 hv a5 ⟨x0,x1,x2,rfl,g,hA⟩;obtain⟨y,hy,hP⟩:=b1.getV hv;obtain⟨ok,sl⟩:=w.at (AG hy);have hi:=Qt hv;obtain⟨r,s',lo,J,rfl⟩:=oM sl;obtain⟨p2,pz,rfl,hT,hz⟩:∃p2 pz,v=.ref p2/\Kt K H p2 [.ref pz,.int lo,.int J]/\Kt K H pz [.int r,.int s']:=by cases hP;exact⟨_,_,rfl,‹_›,‹_›⟩
  have hp:=ho.pay lo J;unfold W1 at hp;refine YM (g.sqT hT) rfl ?_;simp only[Zw];left;refine⟨a,rs,_,_,rfl,rfl,rfl,hH.same g,by omega,λH3 g3=>⟨by decide,λp3 a4=>?_⟩⟩;have g4:=Qd a4 (.tup [.int (By rs lo J),.int 1]);refine⟨rt r s',(By rs lo J:Rat),14,60,NY ok.1 ((g.trans (g3.trans g4)).sqT hz),Xa (G6 Qb),Uj ok.1,RB.int (Ll hp.1 (by omega)) (by decide),by decide,λz5 H5 g5 a0=>?_⟩;have U:=g3.trans (g4.trans g5);refine CN.mk hi (by rw[Aq,Av];omega) ⟨_,_,_,rfl,g.trans U,?_⟩;rw[Yv hy];exact(hA.imp λ_ _ y=>y.same U).snoc a0
 ·rintro acc _ H2 ⟨x0,x1,x2,rfl,g,hA⟩ l hl;rw[AJ (by rw[As];omega)] at hA;have g2:=Qd hl (.lst acc);exact q l acc _ (g.trans g2) (g.free hl) Qb (hA.imp λ_ _ y=>y.same g2)
theorem jD (T:Tx w K mg):Z7 P w K mg base 6 t.zE "taken_off" ["self"] (Sp1M (mW K t)):=by
 refine Xq T 6004 ["self"] Zq λH Q dn J h=>?_
 obtain⟨_,rfl,k,⟨⟨x,dx,li,un,wa,m,rfl,h0,hm,_⟩,w⟩,q⟩:=h;obtain⟨_,v5,a1,U⟩:=hm 4 (by decide);have U:=KOk.offs w U;have o1:=NM w;refine⟨_,(Qc (Qf (Kn (iS T) (Km (LA K (pu 0)))))),?_⟩;left;refine QH h0 T.aB T.aT Wj ⟨Na k.2,m 4,40,14,200,rfl,⟨_,G5 a1,U⟩,by omega,Vu w,λp hp=>⟨(Yg w hp).1,(Yg w hp).2.1⟩,by decide,by decide,λi hi=>by omega,by decide,λl rows H' hl g hO d s u sz ln=>?_⟩;exact q l rows H' hl g hO d s u (λr J=>⟨(sz r J).1.mono (by decide),(sz r J).2.1.mono (by decide),(sz r J).2.2.mono (by decide)⟩) (by omega)
theorem jE (T:Tx w K mg):Z7 P w K mg base 3 t.zE "greatest_rate" ["self"] (Sp1M (m8 K t)):=by
 refine Xq T 6005 ["self","most","off"] Zq λH Q dn hr h=>?_
 obtain⟨_,rfl,k,⟨⟨x,dx,li,un,wa,m,rfl,hp,hm,_⟩,w⟩,q⟩:=h;obtain⟨_,vs,U,hA⟩:=hm 4 (by decide);have hA:=KOk.offs w hA;have a0:=hA.1;have a5:∀p∈Na k.2,0<=p.2/\RB 14 p.2:=λp hp=>⟨(Yg w hp).2.2,(Yg w hp).2.1⟩
 refine⟨_,(Qa (Qn (Zc (X9 (LA K (pu 0)) (λ_=>rfl))) (Qc (Qf (GB T.aL))) Qh) (Qa (Ks 1 (LD K (LD K (LA K (pu 0)) Qe) Qe)) (Qa (Lx (L0 K rfl (LA K (pu 0))) (Ky 2) (Qc (Ks 1 (Kn (iL T) (Kq (pu 1) (Ko K 2)))))) (Qc (Qf (pu 1)))))),?_⟩;left;refine QH hp T.aB T.aT Wj ?_;refine⟨!vs.isEmpty,.inl ⟨_,G5 U,rfl⟩,?_⟩;cases J:Na k.2 with
 | nil=>
  have ev:vs=[]:=by rw[J] at a0;exact IP.mp a0.symm
  subst ev;left;refine q _ ?_;rw[J];exact T.aL.fq0
 | cons p0 os=>
  obtain ⟨v0,a4⟩:∃ v,vs[0]?=some v:=⟨_,Ax (by rw [<-a0,J];simp)⟩
  have ne:vs.isEmpty=false:=by cases vs with|nil=>cases a4|cons _ _=>rfl
  rw[ne];obtain⟨pt,z0,rfl,a8,a9⟩:=hA.2 0 p0 v0 (by rw[J];rfl) a4;have a6:p0∈Na k.2:=by rw[J];exact AH
  left;refine QH hp T.aB T.aT Wj (QO (G5 U) (QZ (j:=0) a4) (Zg a8 rfl ?_));refine QH hp T.aB T.aT Wj ⟨m 4,rfl,⟨_,G5 U⟩,?_⟩;refine WL (xs:=vs) (λi σ' H'=>∃(z:V) (x2:Option V),σ'=[some (.ref x),some z,x2]/\H'=H/\Fq K H (((Na k.2).take i).foldl mx p0.2) z/\RB 14 (((Na k.2).take i).foldl mx p0.2)) ⟨z0,none,rfl,rfl,a9,(a5 p0 a6).2⟩ (λi σ' H' _ h=>by obtain⟨_,_,_,rfl,_⟩:=h;exact G5 U) ?_ ?_
  ·rintro i v _ H2 hv ⟨z,x2,rfl,e2,hF,hB⟩;rw[e2];obtain⟨o,ho,pu,zu,rfl,hT,aa⟩:=hA.getV hv;have om:=(a5 o (AG ho)).2;left;have tk:((Na k.2).take (i+1)).foldl mx p0.2=mx (((Na k.2).take i).foldl mx p0.2) o:=by rw[AX,ho,List.foldl_append];rfl
   refine⟨_,_,14,14,hF,aa,hB,om,by decide,λz' a7=>⟨z',_,rfl,rfl,?_,?_⟩⟩
   ·rw[tk];exact a7
   ·rw[tk];exact BK hB om
  ·rintro _ H2 ⟨z,x2,rfl,e2,hF,hB⟩;rw [e2];left;rw [<-a0,IM] at hF;refine q z ?_;rw [J] at hF ⊢;rw [<-B0 (a5 p0 a6).1];exact hF
theorem jF (T:Tx w K mg):Z7 P w K mg base 5 t.zE "amount_from" ["self","left"] (Sp2M (ml K t)):=by
 refine Xq T 6006 ["self","left"] Zd λH Q dn hr h=>?_
 obtain⟨_,_,rfl,k,a,⟨⟨x,dx,li,un,wa,m,rfl,hp,hm,_,U⟩,w⟩,hF,hB,q1,J⟩:=h;refine⟨_,(Qa (Qn (Ku Fz (LA K (pu 0)) JD) (Qc (Qf (pu 1))) Qh) (Qc (Qf (Kn (iV T) (Lu (pu 1) (LA K (pu 0)) (LA K (pu 0))))))),?_⟩;left;refine QH hp T.aB T.bE VC ⟨trivial,?_⟩;rcases Ba w U with ⟨e,rfl⟩|⟨u,z,e,rfl,rfl,ok⟩
 ·left;exact q1 e
 ·left;refine QH hp T.aB T.bE VC ?_;refine QH hp T.aB T.bQ BU ?_;exact⟨a,u,z,hF,rfl,rfl,by have:=ok.1.1;omega,by have:=ok.1.2;omega,hB,λn q H' g hT hR hb=>J u z n q H' e ok g hT hR hb⟩
theorem D8 (a:Rat)(s:Int):Rat.divInt (a.num*s) a.den=a*(s:Rat):=by
 rw[Jg,Rat.num_intCast,Rat.den_intCast];simp
inductive nz (K)(x y)(H)(Q:VK):Prop
 | mk (a:Rat) (h1:Fq K H a x) (h2:Fq K H a y) (h3:Q (.bl true) H):nz K x y H Q
theorem aW (T:Tx w K mg):LB P w K mg base 2 "_law_is" ["_law_found","_law_value"] (Sp2M (nz K)):=by
 refine QI T 94 ["_law_found","_law_value"] Zd λH Q U hr h=>?_
 obtain⟨_,_,rfl,r,⟨p,rfl,J⟩,h2,q⟩:=h;refine⟨_,(Qa (Qn (PW.pt (Xo (Zc (QN (QC (UI K rfl) (by rfl) T.aP boot_isinstance (Kq (pu 0) (WU T.bD boot_tuple))))) (Z9 (Ku (WZ K) (Ln K T.aA (pu 0)) Qe)))) (Qc (Qf ZF)) Qh) (Qc (Qf (Xg (Kn (bJ T) (Km (Ko K 0))) (Xg (Kn (bJ T) (Km (Ko K 0))) (Yb (OJ (QR K) (pu 0) (pu 1)))))))),?_⟩;left;refine⟨_,rfl,?_⟩;left;refine⟨_,rfl,?_⟩;left;refine Er (a:=r) (b:=r) ⟨p,rfl,J⟩ h2 ?_;rw[A5 rfl];exact q
def FrR (K:W.Frag)(H:Hp)(s:Rat)(v:V):Prop:=∃p t b,v=.ref p/\Kt K H p [.int t,.int b]/\0<b/\(t:Rat)=s*(b:Rat)/\Bd 120 t/\Bd 120 b
theorem FrR.of {s:Rat}(h:Fq K H s v)(hb:RB 120 s):FrR K H s v:=by
 obtain⟨p,rfl,h⟩:=h;exact⟨p,_,_,rfl,h,Kx s,(Zs s).symm,hb.1,hb.2⟩
inductive mQ (K)(x:V)(H)(Q:VK):Prop
 | mk (l:Addr) (vs:List V) (qs:List Rat) (h1:x=.ref l) (h2:Kv K H l vs) (h3:All2 (FrR K H) qs vs) (h4:qs.length<=10) (h5:∀z H',Same H H'->Fq K H' (OQ qs) z->Q z H'):mQ K x H Q
theorem MZ {t b:Int}{s:Rat}(hb:0<b)(h:(t:Rat)=s*(b:Rat)):Rat.divInt t b=s:=by
 have J:(b:Rat)≠0:=λe=>by
  have:b=0:=Rat.intCast_inj.mp e;omega
 rw[Rat.divInt_eq_div,h,Rat.mul_div_cancel J]
theorem dR (T:Tx w K mg):LB P w K mg base 3 "_law_sum" ["_law_rows_here"] (Sp1M (mQ K)):=by
 refine QI T 112 ["_law_rows_here","_law_top","_law_bottom","_law_one"] Zq λH Q dn hr h=>?_
 obtain⟨_,rfl,l,vs,qs,rfl,hl,hA,hn,q⟩:=h;have a0:=hA.1;refine⟨_,(Qa (Ks 1 Qe) (Qa (Ks 2 Qe) (Qa (Lx (L0 K rfl (pu 0)) (Ky 3) (Qa (Ks 1 (Qg Qu (Qg Qr (pu 1) (Ko K 3)) (Qg Qr (Ko K 3) (pu 2)))) (Qc (Ks 2 (Qg Qr (pu 2) (Ko K 3)))))) (Qc (Qf (Kn (b8 T) (Kq (pu 1) (pu 2)))))))),?_⟩;left;refine⟨l,rfl,⟨_,hl⟩,WL (xs:=vs) (λi σ' H'=>∃(tp bt:Int) (x2:Option V),σ'=[some (.ref l),some (.int tp),some (.int bt),x2]/\H'=H/\0<bt/\(tp:Rat)=OQ (qs.take i)*(bt:Rat)/\Bd (121+121*i) tp/\Bd (120*i+1) bt) ⟨0,1,none,rfl,rfl,by decide,by show((0:Int):Rat)=OQ []*_;unfold OQ;simp,by unfold Bd;decide,by unfold Bd;decide⟩ (λi σ' H' _ h=>by obtain⟨_,_,_,_,rfl,_⟩:=h;exact hl) ?_ ?_⟩
 ·rintro i u _ H2 hu ⟨tp,bt,x2,rfl,e2,hb,hq,s1,s2⟩;rw[e2];have hi:=Qt hu;obtain⟨r,hr,p,t',b',rfl,hT,b0,hs,z1,J⟩:=hA.getV hu;left;refine⟨⟨s1.mono (by omega),J.mono (by decide)⟩,?_⟩;left;refine⟨⟨z1.mono (by decide),s2.mono (by omega)⟩,?_⟩;left;refine⟨⟨s2.mono (by omega),J.mono (by decide)⟩,_,_,_,rfl,(by first|rfl|trivial),Int.mul_pos hb b0,?_,((s1.mul J).add (z1.mul s2)).mono (by omega),(s2.mul J).mono (by omega)⟩;rw[Jx hr,Rat.intCast_add,Gf,Gf,Gf,hq,hs]
  grind
 ·rintro _ H2 ⟨tp,bt,x2,rfl,e2,hb,hq,s1,s2⟩;rw[e2];left;refine⟨_,_,rfl,rfl,by omega,s2.mono (by omega),λpr U=>?_⟩;rw[AJ (by omega)] at hq;have f:=Fq.new (K:=K) (H:=H) (p:=pr) (t:=tp) (b:=bt) (by omega);rw[MZ hb hq] at f;exact q _ _ (Qd U _) f
def Ye (p:L2.Pr)(t:List L2.Pr)(a:Rat):Int:=match t with
 | []=>a.num-p.1*a.den
 | p' :: _=>min (a.num-p.1*a.den) ((p'.1-p.1)*a.den)
theorem KQ {p}{t}{a:Rat}(h:Zf p.1 t=true):term p t a*((a.den:Int):Rat)=if 0<Ye p t a then p.2*(Ye p t a:Rat) else 0:=by
 have hD:=Kx a;have J:(0:Rat)<((a.den:Int):Rat):=ZZ hD;have e:=Zs a;have lt:∀{x y:Int},(x:Rat)<(y:Rat)↔x<y:=Rat.intCast_lt_intCast;cases t with
 | nil=>
  show(if a<=p.1 then 0 else p.2*(a-p.1))*((a.den:Int):Rat)=if 0<a.num-p.1*a.den then p.2*((a.num-p.1*a.den:Int):Rat) else 0
  have c:((a.num-p.1*a.den:Int):Rat)=(a-p.1)*((a.den:Int):Rat):=by rw[Rat.intCast_sub,Gf,<-e];grind
  have c2:(0<a.num-p.1*a.den)↔(0:Rat)<(a-p.1)*((a.den:Int):Rat):=by rw [<-c];exact lt.symm
  have U:(0:Rat)<(a-p.1)*((a.den:Int):Rat)↔¬a<=p.1:=by
   constructor
   ·intro h z;have:(a-p.1)*((a.den:Int):Rat)<=0:=by
     have:=Rat.mul_nonneg (show 0<=(p.1:Rat)-a by grind) (qS J)
     grind
    grind
   ·intro h;exact Rat.mul_pos (by grind) J
  rw[c];by_cases z:a<=p.1
  ·rw[An z,Am (by rw[c2,U];exact λh=>h z)];grind
  ·rw[Am z,An (by rw[c2,U];exact z)];grind
 | cons p' t=>
  obtain⟨k1,_⟩:=limOk_cons.mp h;have k2:=ZZ k1;show(if a<=p.1 then 0 else if a<=p'.1 then p.2*(a-p.1) else p.2*((p'.1:Rat)-p.1))*((a.den:Int):Rat)=if 0<min (a.num-p.1*a.den) ((p'.1-p.1)*a.den) then p.2*((min (a.num-p.1*a.den) ((p'.1-p.1)*a.den):Int):Rat) else 0
  have c:((a.num-p.1*a.den:Int):Rat)=(a-p.1)*((a.den:Int):Rat):=by rw[Rat.intCast_sub,Gf,<-e];grind
  have d:(((p'.1-p.1)*a.den:Int):Rat)=((p'.1:Rat)-p.1)*((a.den:Int):Rat):=by rw[Gf,Rat.intCast_sub]
  have d0:0<(p'.1-p.1)*(a.den:Int):=Int.mul_pos (by omega) hD;have c2:(0<a.num-p.1*a.den)↔(0:Rat)<(a-p.1)*((a.den:Int):Rat):=by rw [<-c];exact lt.symm
  have U:(0:Rat)<(a-p.1)*((a.den:Int):Rat)↔¬a<=p.1:=by
   constructor
   ·intro h z;have:(a-p.1)*((a.den:Int):Rat)<=0:=by
     have:=Rat.mul_nonneg (show 0<=(p.1:Rat)-a by grind) (qS J)
     grind
    grind
   ·intro h;exact Rat.mul_pos (by grind) J
  have c4:(p'.1-p.1)*(a.den:Int)<a.num-p.1*a.den↔¬a<=p'.1:=by
   rw [<-lt,c,d];constructor
   ·intro h z;have:=Rat.mul_nonneg (show 0<=(p'.1:Rat)-a by grind) (qS J)
    grind
   ·intro h;have:=Rat.mul_pos (show 0<a-(p'.1:Rat) by grind) J
    grind
  by_cases z:a<=p.1
  ·have n1:¬0<a.num-p.1*a.den:=by rw[c2,U];exact λh=>h z
   rw[An z,Am (by omega)];grind
  ·have n1:0<a.num-p.1*a.den:=by rw[c2,U];exact z
   rw[Am z,An (show 0<min (a.num-p.1*(a.den:Int)) ((p'.1-p.1)*(a.den:Int)) by omega)];by_cases y:a<=p'.1
   ·have n2:¬(p'.1-p.1)*(a.den:Int)<a.num-p.1*a.den:=by rw[c4];exact λh=>h y
    rw[An y,show min (a.num-p.1*a.den) ((p'.1-p.1)*a.den)=a.num-p.1*a.den by omega,c];grind
   ·have n2:(p'.1-p.1)*(a.den:Int)<a.num-p.1*a.den:=by rw[c4];exact y
    rw[Am y,show min (a.num-p.1*a.den) ((p'.1-p.1)*a.den)=(p'.1-p.1)*a.den by omega,d];grind
inductive O3 (K)(x y:V)(H)(Q:VK):Prop
 | mk (l:Addr) (os:List L2.Pr) (a:Rat) (h1:x=.ref l) (h2:Pl K H os l) (h3:Fq K H a y) (h4:os.length<=6) (h5:Zf (-1) os=true) (h6:∀p∈os,Bd 40 p.1/\RB 14 p.2) (h7:RB 60 a) (h8:∀z H',Same H H'->Fq K H' (QT os a) z->Q z H'):O3 K x y H Q
theorem PV {p}{t}{a:Rat}(hs:Bd 40 p.1)(ht:∀q∈t,Bd 40 q.1)(ha:RB 60 a):Bd 101 (Ye p t a):=by
 have h1:Bd 101 (a.num-p.1*a.den):=(ha.1.sub (hs.mul ha.2)).mono (by decide);cases t with
 | nil=>exact h1
 | cons p' t=>
  have h2:Bd 101 ((p'.1-p.1)*a.den):=(((ht p' (by simp)).sub hs).mul ha.2).mono (by decide);show Bd 101 (min (a.num-p.1*a.den) ((p'.1-p.1)*a.den));by_cases c:a.num-p.1*a.den<=(p'.1-p.1)*a.den
  ·rw[Int.min_eq_left c];exact h1
  ·rw[Int.min_eq_right (by omega)];exact h2
theorem L8 {qs}:OQ (qs++[q])=OQ qs+q:=by
 unfold OQ;rw[List.foldl_append];rfl
def qt (K:W.Frag)(H:Hp)(l r lr:Addr)(os:List L2.Pr)(a:Rat)(i:Nat)(σ':L2.St)(H':Hp):Prop:=∃(qs:List Rat) (vs:List V) (x3 x4 x5 x6:Option V),σ'=[some (.ref l),some (.ref r),some (.ref lr),x3,x4,x5,x6]/\Same H H'/\H' lr=some (.lst vs)/\All2 (FrR K H') qs vs/\qs.length<=i/\OQ qs+QT (os.drop i) a=QT os a
theorem Hy {p}{t}{a:Rat}(hl:Zf p.1 t=true)(h:0<Ye p t a):((p.2.num*Ye p t a:Int):Rat)=term p t a*(((p.2.den:Int)*(a.den:Int):Int):Rat):=by
 have e1:=KQ (a:=a) hl;rw[An h] at e1;have e2:=Zs p.2;rw[Gf,Gf,<-e2]
 grind
theorem DC {p}{t}{a:Rat}(hl:Zf p.1 t=true)(h:¬0<Ye p t a):term p t a=0:=by
 have e1:=KQ (a:=a) hl;rw[Am h] at e1;have J:(0:Rat)<((a.den:Int):Rat):=ZZ (Kx a);rcases Rat.mul_eq_zero.mp e1 with h|h
 ·exact h
 ·rw[h] at J;exact absurd J (Rat.lt_irrefl)
theorem jG (T:Tx w K mg):LB P w K mg base 4 "_law_taken" ["_law_offs","_law_place"] (Sp2M (O3 K)):=by
 refine QI T 113 ["_law_offs","_law_place","_law_rows_here","_law_k","_law_limit_here","_law_rate_here","_law_part_here"] Zd λH Q dn hr h=>?_
 obtain⟨_,_,rfl,l,os,a,rfl,⟨vs,hL,hA⟩,⟨r,rfl,hT⟩,hn,a5,hsz,J,q⟩:=h;refine⟨_,(Qa (Ks 2 (Qq QE)) (Qa (Lx (XJ rfl T.aY (Km (Ln K T.aA (pu 0)))) (Ky 3) (Qa (YQ (LD K (pu 0) (pu 3)) (ON (n:=2) K rfl rfl (Qm (Ky 4) (Qm (Ky 5) QV)))) (Qa (Ks 6 (Qg ZK (Ko K 1) (Qg Qr (pu 4) (Ko K 1)))) (Qa (Qn (Ku Zi (Qg Qu (pu 3) Qe) (Ln K T.aA (pu 0))) (Qc (Ks 6 (QC (M8 rfl) (by rfl) T.dX boot_min (Kq (pu 6) (Qg Qr (Qg ZK (LD K (LD K (pu 0) (Qg Qu (pu 3) Qe)) Qe) (pu 4)) (Ko K 1)))))) Qh) (Qc (Qn (Ku XY (pu 6) Qe) (Qc (Qw (QA K rfl AL A0 A1 Qv (pu 2) (Km (Qz (Kq (Qg Qr (Ko K 5) (pu 6)) (Qg Qr (Ko K 5) (Ko K 1)))))))) Qh)))))) (Qc (Qf (Kn (dR T) (Km (pu 2))))))),?_⟩;have ak:=hA.1;left;refine⟨AZ _,λlr a0=>?_⟩;have g0:=Qd a0 (.lst []);refine Q7 (g0.seq hL) ?_;left;refine⟨by omega,by omega,B4 (qt K H l r lr os a) ⟨[],[],none,none,none,none,rfl,g0,Qb,All2.nil,Au _,by rw[List.drop_zero];exact Rat.zero_add _⟩ ?_ ?_⟩
 ·rintro i _ H1 hi ⟨qs,ws,x3,x4,x5,x6,rfl,g1,kr,hR,hq,hs⟩;have aa:i<os.length:=by omega
  obtain⟨p,hp⟩:∃p,os[i]?=some p:=⟨_,Ax aa⟩
  obtain⟨v,hv,b,y,rfl,a9,z,rfl,af⟩:=hA.get hp;have i1:Nd vs (0+(i:Int))=some (.ref b):=by rw[qR];exact QZ hv
  have a4:=g1.seq hL;have ao:=g1.sqT hT;have ai:=g1.sqT a9;have aj:=g1.sqT af;generalize ab:Jv _ (LZ _) _=R;left;refine QO a4 i1 ?_;left;have sp:=hsz p (AG hp);have sz:=PV sp.1 (λq hq=>(hsz q (List.mem_of_mem_drop hq)).1) J (t:=os.drop (i+1));have ld:=GN a5 i p hp;refine⟨⟨sp.1.mono (by decide),J.2.mono (by decide)⟩,?_⟩;left;rw[JS hp,G1] at hs;have a6:∀(D:QY),D.nx=qt K H l r lr os a (i+1)->R D [some (.ref l),some (.ref r),some (.ref lr),some (.int (0+i)),some (.int p.1),some (.ref z),some (.int (Ye p (os.drop (i+1)) a))] H1:=by
   intro D hD;subst ab;left;refine Qo (λc=>?_) (λc=>?_)
   ·left;refine⟨.inl ⟨rfl,_,G5 kr⟩,?_⟩;left;refine⟨⟨sp.2.1.mono (by decide),sz.mono (by decide)⟩,?_⟩;left;refine⟨⟨sp.2.2.mono (by decide),J.2.mono (by decide)⟩,by decide,λp5 ae=>?_⟩;have g5:=Qd ae (.tup [.int (p.2.num*Ye p (os.drop (i+1)) a),.int ((p.2.den:Int)*(a.den:Int))]);have k5:=g5 _ _ kr;have aq:=hR.1;refine X6 k5 (Zl (by omega)) ?_;rw[hD];have fr:∀s v,FrR K H1 s v->FrR K (upd (upd H1 p5 (.tup [.int (p.2.num*Ye p (os.drop (i+1)) a),.int ((p.2.den:Int)*(a.den:Int))])) lr (.lst (ws++[.ref p5]))) s v:=λs v h=>by
     obtain⟨p6,t6,b6,rfl,h1,h2⟩:=h;exact⟨p6,t6,b6,rfl,Y6 (g5.sqT h1) k5 (λ_ z=>by cases z) (λ_ _ z=>by cases z),h2⟩
    refine⟨qs++[term p (os.drop (i+1)) a],_,_,_,_,_,rfl,Z3 (g1.trans g5) a0,Qb,(hR.imp λ_ _ z=>fr _ _ z).snoc ⟨p5,_,_,rfl,Y6 (G6 Qb) k5 (λ_ z=>by cases z) (λ_ _ z=>by cases z),Int.mul_pos (Kx _) (Kx _),Hy ld c,(sp.2.1.mul sz).mono (by decide),(sp.2.2.mul J.2).mono (by decide)⟩,by rw[Aq,Av];omega,?_⟩;rw[L8,<-hs]
    grind
   ·left;rw [hD];refine ⟨qs,ws,_,_,_,_,rfl,g1,kr,hR,by omega,?_⟩;rw [DC ld c] at hs;rw [<-hs]
    grind
  refine Qo (λc=>?_) (λc=>?_)
  ·obtain⟨p',U⟩:∃p',os[i+1]?=some p':=⟨_,Ax (by omega)⟩
   obtain⟨v',ag,b',y',rfl,a7,z',rfl,ah⟩:=hA.get U;have i2:Nd vs (0+(i:Int)+1)=some (.ref b'):=by
    rw[show(0+(i:Int)+1)=((i+1:Nat):Int) by omega];exact QZ ag
   have sp':=hsz p' (AG U);have a8:=g1.sqT a7;refine QO a4 i2 ?_;left;refine⟨⟨(sp'.1.sub sp.1).mono (by decide),J.2.mono (by decide)⟩,?_⟩;have e:(if(p'.1-p.1)*(a.den:Int)<a.num-p.1*a.den then(p'.1-p.1)*(a.den:Int) else a.num-p.1*a.den)=Ye p (os.drop (i+1)) a:=by
    rw[JS U];show _=min (a.num-p.1*(a.den:Int)) ((p'.1-p.1)*(a.den:Int));split<;>omega
   rw[e];exact a6 _ rfl
  ·have e:a.num-p.1*a.den=Ye p (os.drop (i+1)) a:=by
    rw[List.drop_eq_nil_of_le (by omega)];rfl
   rw[e];exact a6 _ rfl
 ·rintro _ H1 ⟨qs,ws,x3,x4,x5,x6,rfl,g1,kr,hR,hq,hs⟩;left;refine ⟨lr,ws,qs,rfl,G5 kr,hR,by omega,fun z H2 g2 hz=>q z H2 (g1.trans g2) ?_⟩;rw [List.drop_eq_nil_of_le (by omega),show QT [] a=0 from rfl] at hs;have e:OQ qs=QT os a:=by rw [<-hs];grind
  rw [<-e];exact hz
inductive W9 (K)(x y:V)(H)(Q:VK):Prop
 | mk (a:Addr) (rs:List Pn) (i:Itm) (h1:x=.ref a) (h2:LIt K H i y) (h3:i.Ok) (h4:i.sl=0) (h5:Hm K H rs a) (h6:HmOk rs) (h7:∀z H',Same H H'->Fq K H' (i.wth rs) z->Q z H'):W9 K x y H Q
inductive Wx (K)(x y:V)(H)(Q:VK):Prop
 | mk (a:Addr) (rs:List Pn) (i:Itm) (h1:x=.ref a) (h2:LIt K H i y) (h4:i.sl=1) (h5:Hm K H rs a) (h7:Q (.bl (i.met rs)) H):Wx K x y H Q
inductive Ww (K)(x y:V)(H)(Q:VK):Prop
 | mk (a:Addr) (rs:List Pn) (i:Itm) (h1:x=.ref a) (h2:LIt K H i y) (h3:i.Ok) (h4:i.sl=2) (h5:Hm K H rs a) (h6:HmOk rs) (h7:∀z H',Same H H'->Fq K H' (i.own rs) z->Q z H'):Ww K x y H Q
theorem Nz {s n:Int}(ok:Zn r s)(hn:W1 n)(q:∀p H',Same H H'->Kt K H' p [.int (rt r s*(n:Rat)).num,.int (rt r s*(n:Rat)).den]->Q (.ref p) H'):OB (.int (r*n)) (.int s) H Q:=by
 obtain⟨e1,e2⟩:=Uk ok;have s0:=ok.2.2.1;have U:=ok.2.2.2.1;refine⟨_,_,rfl,rfl,by omega,Ll (by omega) (by omega),λp hp=>?_⟩;have f:=Fq.new (K:=K) (H:=H) (p:=p) (t:=r*n) (b:=s) (by omega);have e:=D8 (rt r s) n;rw[e1,e2] at e;rw[e] at f;obtain⟨p',J,h⟩:=f;cases J;exact q _ _ (Qd hp _) h
theorem Sg {s n:Int}(ok:Zn r s)(hn:W1 n):CMulB r n:=⟨Ll ok.1 (by have:=ok.2.1;omega),Ll hn.1 (by have:=hn.2;omega)⟩
theorem jH (T:Tx w K mg):LB P w K mg base 3 "_law_worth" ["_law_home_here","_law_part_here"] (Sp2M (W9 K)):=by
 refine QI T 115 ["_law_home_here","_law_part_here","_law_worth_here"] Zd λH Q dn hr h=>?_
 obtain⟨_,_,rfl,a,rs,i,rfl,hi,ok,sl,hH,ho,q⟩:=h;have a8:=ho.n;refine⟨_,(Qa (Qn (Ku (QR K) (Ko K 1) Qi) (Qc (Qf (Qz (Kq (Ko K 1) Qe)))) Qh) (Qa (Qn (Ku (QR K) (Ko K 1) Qi) (Qc (Qf (Qz (Kq (Qg Qr (Ko K 1) (Kn (dQ T) (Lu (pu 0) (Ko K 1) (Ko K 1)))) Qe)))) Qh) (Qa (Ks 2 (Kn (b8 T) (Kq (Qg Qr (LD K (Ko K 1) Qe) (QC (YB K rfl rfl) (by rfl) T.bC boot_sum (Km (Lz ["_law_one"] [none] (L0 K rfl (pu 0)) (Ky 0) QL (Ko K 0))))) (LD K (Ko K 1) Qe)))) (Qa (Qn (Ku Zi (Qg Qr (Ko K 1) (Ko K 2)) (Ko K 2)) (Qc (Qf (Qz (Kq (Ko K 1) Qe)))) Qh) (Qc (Qf (pu 2))))))),?_⟩;cases hi with
 | base n x h=>
  left;exact⟨by decide,λp hp=>q _ _ (Qd hp _) (Xa (G6 Qb))⟩
 | each n l h' x h=>
  have a6:(rs.filter (Lq l h')).length<=rs.length:=Iw _ _;obtain⟨⟨m0,m1⟩,_⟩:=ok;left;refine⟨a,rs,l,h',rfl,rfl,rfl,hH,⟨Ll m0 (by omega),Ll (by omega) (by omega)⟩,by decide,λp hp=>q _ _ (Qd hp _) (Xa (G6 Qb))⟩
 | rent r s' m x p h hp=>
  obtain⟨vs,hL,hA⟩:=hH;have a5:=hA.1;have hs:=ho.sumR;left;simp only[QX];left;refine⟨a,rfl,⟨vs,hL⟩,Zt (xs:=vs) (En H (·.rn) rs) ⟨none,rfl,G7 _,rfl⟩ (λi acc σ' H' _ h=>by obtain⟨_,_,g',_⟩:=h;exact g'.seq hL) (by omega) ?_ ?_⟩
  ·rintro i v acc _ H2 hv a4 ⟨x0,rfl,g,rfl⟩;obtain⟨r,hr,⟨p2,rfl,hT⟩⟩:=hA.getV hv;have a7:=g.sqT hT;simp only[Zw];left;exact CN.mk (Qt hv) (by rw[Aq,Av];omega) ⟨_,rfl,g,(JH hr).symm⟩
  ·rintro acc _ H2 ⟨x0,rfl,g,rfl⟩ p2 hp2;rw[AJ (by omega)];have g2:=g.trans (Qd hp2 (.lst ((rs.map (·.rn)).map V.int)));refine⟨p2,_,rfl,G5 Qb,Sg ok.1 hs,?_⟩;generalize upd H2 p2 (.lst ((rs.map (·.rn)).map V.int))=H3 at *;have a9:=g2.sqT hp;have h3:=g2.sqT h;left;refine Nz (K:=K) ok.1 hs λpw H4 g4 hw=>?_
   have h4:=g4.sqT h3;have rb:=(Uj ok.1).mul (Mw hs);obtain⟨m0,m1⟩:=ok.2;have J:(m*((rt r s'*(sumR rs:Rat)).den:Int)<(rt r s'*(sumR rs:Rat)).num)↔((m:Rat)<rt r s'*(sumR rs:Rat)):=by
    rw[Rat.lt_iff,Rat.num_intCast,Rat.den_intCast];simp
   left;refine⟨⟨Ll m0 (by omega),rb.2.mono (by decide)⟩,?_⟩;left;have U:=g2.trans g4;refine Qo (λc1=>?_) (λc1=>?_)
   ·refine Zg h4 rfl ⟨by decide,λp9 a0=>q _ _ (U.trans (Qd a0 _)) ?_⟩;show Fq K _ (wR _ _ _) _;unfold wR;rw[An (J.mp c1)];exact Xa (G6 Qb)
   ·refine q _ _ U ?_;show Fq K _ (wR _ _ _) _;unfold wR;rw[Am (λz=>c1 (J.mpr z))];exact⟨_,rfl,hw⟩
 | _=>exact absurd sl (by simp[Itm.sl])
theorem jI (T:Tx w K mg):LB P w K mg base 2 "_law_met" ["_law_home_here","_law_term_here"] (Sp2M (Wx K)):=by
 refine QI T 116 ["_law_home_here","_law_term_here","_law_there"] Zd λH Q U hr h=>?_
 obtain⟨_,_,rfl,a,rs,i,rfl,hi,sl,J,q⟩:=h;refine⟨_,(Qa (Ks 2 (Kn (dQ T) (Lu (pu 0) (Ko K 1) (Ko K 1)))) (Qa (Qn (Ku (QR K) (Ko K 1) Qi) (Qc (Qf (OJ GC (pu 2) (Ko K 1)))) Qh) (Qc (Qf (OJ ZU (pu 2) (Ko K 1)))))),?_⟩;cases hi with
 | from' n l h' x h=>
  left;refine⟨a,rs,l,h',rfl,rfl,rfl,J,?_⟩;left;exact q
 | upto n l h' x h=>
  left;refine⟨a,rs,l,h',rfl,rfl,rfl,J,?_⟩;left;exact q
 | _=>exact absurd sl (by simp[Itm.sl])
theorem jJ (T:Tx w K mg):LB P w K mg base 3 "_law_own" ["_law_home_here","_law_pay"] (Sp2M (Ww K)):=by
 refine QI T 117 ["_law_home_here","_law_pay","_law_rate_here","_law_low","_law_high","_law_earned"] Zd λH Q dn hr h=>?_
 obtain⟨_,_,rfl,a,rs,i,rfl,hi,ok,sl,⟨vs,hL,hA⟩,ho,q⟩:=h;have a7:=ho.n;have a4:=hA.1;refine⟨_,(Qa (YQ (pu 1) (ON (n:=3) K rfl rfl (Qm (Ky 2) (Qm (Ky 3) (Qm (Ky 4) QV))))) (Qa (Ks 5 (QC (YB K rfl rfl) (by rfl) T.bC boot_sum (Km (Lz ["_law_one","_law_low","_law_high"] [none,some 3,some 4] (L0 K rfl (pu 0)) (Ky 0) (Wa (PW.pt (Zu (Ku ZU (pu 1) (Ko K 0)) (Zo (Ku ZU (Ko K 0) (pu 2)))))) (Ko K 0))))) (Qc (Qf (Kn (b8 T) (Kq (Qg Qr (Ko K 2) (pu 5)) (Ko K 2))))))),?_⟩;cases hi with
 | pay r s' lo hi x p h hp=>
  have hs:=ho.pay lo hi;refine YM h rfl ?_;left;simp only[QX];left;refine⟨a,rfl,⟨vs,hL⟩,Zt (xs:=vs) (λi acc U H'=>∃x0,U=[x0,some (.int lo),some (.int hi)]/\Same H H'/\acc=(((rs.take i).filter (Lq lo hi)).map (·.py)).map V.int) ⟨none,rfl,G7 _,rfl⟩ (λi acc U H' _ h=>by obtain⟨_,_,g',_⟩:=h;exact g'.seq hL) (by omega) ?_ ?_⟩
  ·rintro i v acc _ H2 hv a0 ⟨x0,rfl,g,rfl⟩;obtain⟨r,hr,⟨p2,rfl,hT⟩⟩:=hA.getV hv;have a6:=g.sqT hT;have st:=JQ (f:=Lq lo hi) hr;have a5:((rs.take i).filter (Lq lo hi)).length<=i:=A4 (Iw _ _) (by rw[Ig];omega);have J:=Qt hv;have no:¬(lo<=r.ag/\r.ag<=hi)->CN (λi acc U H'=>∃x0,U=[x0,some (.int lo),some (.int hi)]/\Same H H'/\acc=(((rs.take i).filter (Lq lo hi)).map (·.py)).map V.int) vs.length i ((((rs.take i).filter (Lq lo hi)).map (·.py)).map V.int) [some (V.ref p2),some (V.int lo),some (V.int hi)] H2:=λc=>by
    refine CN.mk J (by rw[As,As];omega) ⟨_,rfl,g,?_⟩;rw[st,Am (by unfold Lq;simp;omega),Ie]
   left;refine Qo (λc1=>?_) (λc1=>no (by omega));left;refine Qo (λc2=>?_) (λc2=>no (by omega));left;refine CN.mk J (by rw[Aq,As,As,Av];omega) ⟨_,rfl,g,?_⟩;rw[st,An (by unfold Lq;simp;omega),Az,Az];rfl
  ·rintro acc _ H2 ⟨x0,rfl,g,rfl⟩ p2 hp2;rw[AJ (by omega)];have g2:=g.trans (Qd hp2 (.lst (((rs.filter (Lq lo hi)).map (·.py)).map V.int)));refine⟨p2,_,rfl,G5 Qb,?_⟩;generalize upd H2 p2 (.lst (((rs.filter (Lq lo hi)).map (·.py)).map V.int))=H3 at *;have a8:=g2.sqT hp;left;refine⟨Sg ok.1 hs,?_⟩;left;exact Nz (K:=K) ok.1 hs λpw H4 g4 hw=>q _ _ (g2.trans g4) ⟨_,rfl,hw⟩
 | _=>exact absurd sl (by simp[Itm.sl])
inductive OH (K)(t)(x y z:V)(H:Hp)(Q:VK):Prop
 | mk (k:Str×List Itm) (l:Addr) (vs:List V) (a:Rat) (h2:KOk K t H k x) (h3:y=.ref l) (h3':Kv K H l vs) (h3'':All2 (LIt K H) (Kr k.2 6) vs) (h4:Fq K H a z) (h5:RB 60 a) (h6:∀H',Same H H'->Q (.bl true) H'):OH K t x y z H Q
theorem jK (T:Tx w K mg):LB P w K mg base 6 "_law_rounds" ["_law_kind_here","_law_rounds_here","_law_left"] (Sp3M (OH K t)):=by
 refine QI T 114 ["_law_kind_here","_law_rounds_here","_law_left","_law_found","_law_unit","_law_way","_law_off"] Wp λH Q dn hr h=>?_
 obtain⟨_,_,_,rfl,k,l,vs,a,hK,rfl,hL,hA,hF,hB,q⟩:=h;refine⟨_,(Qa (Ks 3 (ZJ (jF T) (LG hr) T.aB (pu 0) (Km (pu 2)))) (Qa (Qn (Ku (WT K) (pu 1) (Qq QE)) (Qc (Qf (Kn (aW T) (Kq (pu 3) (pu 2))))) Qh) (Qa (Qn (PW.pt (Xo (Zc (QN (QC (UI K rfl) (by rfl) T.aP boot_isinstance (Kq (pu 3) (WU T.bD boot_tuple))))) (Xo (Ku (WZ K) (Ln K T.aA (pu 3)) Qe) (Xo (Zc (QN (Kn (bJ T) (Km (Ko K 3))))) (Z9 (Ku (WZ K) (Ko K 3) Qe)))))) (Qc (Qf ZF)) Qh) (Qa (YQ (Ko K 1) (ON (n:=2) K rfl rfl (Qm (Ky 4) (Qm (Ky 5) QV)))) (Qa (Ks 6 (Qg ZK (Ko K 2) (Qg Qr (Ko K 3) (Ko K 2)))) (Qa (Qn (PW.pt (Xo (Ku (WZ K) (Qg Qp (Ko K 3) (pu 4)) Qe) (Z9 (Zc (QN (Kn (bJ T) (Km (Ko K 3)))))))) (Qc (Qf ZF)) Qh) (Qa (Qn (Ku (QR K) (pu 5) Qi) (Qc (Qf (Xg (OJ ZU Qe (pu 6)) (Yb (OJ Zi (pu 6) (Qg Qr (pu 4) (Ko K 2))))))) Qh) (Qa (Qn (Ku (QR K) (pu 5) Qi) (Qc (Qf (Xg (OJ Zi (Qg Qr (JC XW (pu 4)) (Ko K 2)) (pu 6)) (Yb (OJ ZU (pu 6) Qe))))) Qh) (Qc (Qf (Xg (OJ ZU (Qg Qr (JC XW (pu 4)) (Ko K 2)) (Qg Qr Qe (pu 6))) (Yb (OJ Zi (Qg Qr Qe (pu 6)) (Qg Qr (pu 4) (Ko K 2))))))))))))))),?_⟩;obtain⟨⟨x,dx,li,un,wa,m,rfl,hp,hm,_⟩,w⟩:=id hK;obtain⟨pl,rfl,hT⟩:=id hF;generalize hR:X5 (Jv _ _ _) _=R;left;refine Xm hp JM ?_;left;refine⟨k,a,hK,hF,hB,λe=>?_,λu z n p2 H2 e ok g2 a4 J bn=>?_⟩
 ·subst hR;rw[e] at hA;have ev:vs=[]:=IP.mp hA.1.symm;subst ev;left;refine⟨by decide,λpe a0=>?_⟩;have U:=Qd a0 (.lst []);refine Xe (U.seq hL) (G5 Qb) ?_;left;exact⟨a,hF.same U,hF.same U,q _ U⟩
 ·subst hR;rw[e] at hA;obtain⟨v,rfl⟩:∃v,vs=[v]:=by
   match vs,hA.1 with
   | [v],_=>exact⟨v,rfl⟩
  have hv:=hA.2 0 _ _ rfl rfl;obtain⟨px,rfl,hx⟩:∃px,v=.ref px/\Kt K H px [.int u,.str z]:=by cases hv;exact⟨_,rfl,‹_›⟩
  have u0:=ok.1.1;have u1:=ok.1.2;have a7:=g2.sqT hT;have bu:Bd 60 u:=Ll (by omega) (by omega);left;refine⟨by decide,λpe a0=>?_⟩;have U:=Qd a0 (.lst []);refine Xe ((g2.trans U).seq hL) (G5 Qb) ?_;have g3:=g2.trans U;have a8:=U.sqT a4;have a6:=g3.sqT hT;have a5:=g3.sqT hx;generalize upd H2 pe (.lst [])=H3 at *;left;refine⟨_,rfl,?_⟩;left;refine QO (g3.seq hL) rfl ?_;refine YM a5 rfl ?_;left;refine⟨⟨bn.mono (by decide),hB.2.mono (by decide)⟩,?_⟩;left;refine⟨by show(0:Int)<u;omega,?_⟩;rw[Int.mul_emod_left];left;refine⟨_,rfl,?_⟩;left;have bo:Bd 9200 (a.num-n*u*a.den):=(hB.1.sub (bn.mul hB.2)).mono (by decide);have cu:CMulB u a.den:=⟨bu.mono (by decide),hB.2.mono (by decide)⟩
  have cv:CMulB (-u) a.den:=⟨(G0 bu).mono (by decide),hB.2.mono (by decide)⟩
  have cw:CMulB 2 (a.num-n*u*a.den):=⟨Ll (by decide) (by decide),bo.mono (by decide)⟩
  unfold nX at J;by_cases c:z=Str.ofString "down"
  ·rw[An c] at J ⊢;rw[An J.1];left;refine⟨cu,?_⟩;left;rw[A5 J.2];exact q _ g3
  rw[Am c] at J ⊢;left;by_cases c2:z=Str.ofString "up"
  ·rw[An c2] at J ⊢;left;refine⟨cv,?_⟩;left;rw[An J.1,A5 J.2];exact q _ g3
  ·rw[Am c2] at J ⊢;left;refine⟨cv,cw,?_⟩;left;rw[An J.1];refine⟨cw,?_⟩;left;refine⟨cu,?_⟩;left;rw[A5 J.2];exact q _ g3
inductive mi (K)(t)(x y z u:V)(H:Hp)(Q:VK):Prop
 | mk (a p:Addr) (rs:List Pn) (k:Str×List Itm) (q':Nat->Addr) (pl:Rat) (e2:y=.ref a) (e3:z=.ref p) (h1:KOk K t H k x) (h2:KL K H p k.1 k.2 q') (h3:Hm K H rs a) (h4:HmOk rs) (h5:Fq K H pl u) (h6:RB 60 pl) (h7:0<=pl) (h8:∀H',Same H H'->Q (.bl true) H'):mi K t x y z u H Q
theorem LIt.same {x}(h:LIt K H x v)(g:Same H H'):LIt K H' x v:=h.kp (N:=λ_=>True) (.of g)
theorem FM {x}(h:LIt K H x v)(ok:x.Ok)(e:x.sl=4):Fp K H x.pr v:=by
 cases h<;>first|(cases e;done)|skip
 next l r s x p h hp=>exact⟨x,_,rfl,h,NY ok.2 hp⟩
theorem BO {xs}(w:WfI xs)(hA:All2 (LIt K H) (Kr xs 4) vs):All2 (Fp K H) (Na xs) vs:=Rw ⟨hA.1,λi x v J U=>FM (hA.2 i x v J U) (w.at (AG J)).1 (w.at (AG J)).2⟩
theorem jL (T:Tx w K mg):LB P w K mg base 7 "_law_answers" ["_law_found","_law_home_here","_law_kind_here","_law_place"] (Sp4M (mi K t)):=by
 refine QI T 118 ["_law_found","_law_home_here","_law_kind_here","_law_place","_law_title","_law_parts","_law_terms","_law_pays","_law_counts","_law_offs","_law_limits","_law_ways","_law_worths","_law_may","_law_held","_law_owns","_law_most","_law_limit_here","_law_rate_here","_law_taken_here","_law_at"] G4 λH Q dn hr h=>?_
 obtain⟨_,_,_,x7,rfl,a,p,rs,k,J,pl,rfl,rfl,hK,hL,hH,ho,hF,hB,p0,q⟩:=h;obtain⟨⟨x,dx,li,un,wa,m,rfl,hp,_⟩,w⟩:=id hK;obtain⟨hT,hq⟩:=id hL;obtain⟨vp,Lp,Ap⟩:=hq 0 (by decide);obtain⟨vt,Lt,At⟩:=hq 1 (by decide);obtain⟨vy,Ly,Ay⟩:=hq 2 (by decide);obtain⟨vo,Lo,Ao⟩:=hq 4 (by decide);obtain⟨vr,Lr,Ar⟩:=hq 6 (by decide)
 change All2 (LIt K H) (Kr k.2 0) vp at Ap
 change All2 (LIt K H) (Kr k.2 1) vt at At
 change All2 (LIt K H) (Kr k.2 2) vy at Ay
 change All2 (LIt K H) (Kr k.2 6) vr at Ar
 have Ao:=BO w Ao;have w1:=w.len (j:=0) (by decide) (by decide);have t1:=w.len (j:=1) (by decide) (by decide);have y1:=w.len (j:=2) (by decide) (by decide);have o1:=NM w;have n1:=Ap.1;have n2:=At.1;have n3:=Ay.1;have n4:=Ao.1;refine⟨_,(Qa (YQ (pu 2) (ON (n:=8) K rfl rfl (Qm (Ky 4) (Qm (Ky 5) (Qm (Ky 6) (Qm (Ky 7) (Qm (Ky 8) (Qm (Ky 9) (Qm (Ky 10) (Qm (Ky 11) QV)))))))))) (Qa (Ji (i:=12) dn rfl (Or.inl rfl) (N:=["_law_part_here","_law_home_here"]) (caps:=[none,some 1]) rfl Rk (L0 K rfl (pu 5)) (λ_ _ _ _=>Wb (i:=0) (show(["_law_part_here","_law_home_here"]:List Str).Nodup by decide +kernel) rfl (Or.inl rfl) (.inr rfl)) (λ_ _ _ _=>QL) (λ_ _ _ _=>(Kn (jH T) (Kq (pu 1) (pu 0))))) (Qa (Qn (Zc (QN (Kn (aW T) (Kq (ZJ (jA T) (LG hr) T.aB (pu 0) (Km (pu 1))) (Kn (dR T) (Km (pu 12))))))) (Qc (Qf ZF)) Qh) (Qa (Ks 13 (ZJ (jB T) (LG hr) T.aB (pu 0) (Km (pu 1)))) (Qa (Ji (i:=14) dn rfl (Or.inl rfl) (N:=["_law_term_here","_law_home_here"]) (caps:=[none,some 1]) rfl Rk (L0 K rfl (pu 6)) (λ_ _ _ _=>Wb (i:=0) (show(["_law_term_here","_law_home_here"]:List Str).Nodup by decide +kernel) rfl (Or.inl rfl) (.inr rfl)) (λ_ _ _ _=>QL) (λ_ _ _ _=>(Kn (jI T) (Kq (pu 1) (pu 0))))) (Qa (Qn (PW.pt (Xo (Zc (QN (QC (UI K rfl) (by rfl) T.aP boot_isinstance (Kq (pu 13) (WU T.cM boot_bool))))) (Z9 (Ku (WZ K) (pu 13) (QC (XS K rfl rfl) (by rfl) T.aX boot_all (Km (pu 14))))))) (Qc (Qf ZF)) Qh) (Qa (Ks 15 (ZJ (jC T) (LG hr) T.aB (pu 0) (Km (pu 1)))) (Qa (Qn (PW.pt (Xo (Zc (QN (QC (UI K rfl) (by rfl) T.aP boot_isinstance (Kq (pu 15) (WU T.aJ boot_list))))) (Z9 (Ku (WZ K) (Ln K T.aA (pu 15)) (Ln K T.aA (pu 7)))))) (Qc (Qf ZF)) Qh) (Qa (Qn (Zc (QN (QC (XS K rfl rfl) (by rfl) T.aX boot_all (Km (Lz ["_law_one","_law_pay","_law_home_here"] [none,none,some 1] (Bq K rfl rfl T.cP (Kq (pu 15) (pu 7))) (ON (n:=2) K rfl rfl (Qm (Ky 0) (Qm (Ky 1) QV))) QL (Kn (aW T) (Kq (pu 0) (Kn (jJ T) (Kq (pu 2) (pu 1)))))))))) (Qc (Qf ZF)) Qh) (Qa (Ks 16 (Qz (Kq Qe Qe))) (Qa (Lx (L0 K rfl (pu 9)) (ON (n:=2) K rfl rfl (Qm (Ky 17) (Qm (Ky 18) QV))) (Qc (Qn (Ku Zi (Qg Qr (Ko K 16) (Ko K 18)) (Qg Qr (Ko K 18) (Ko K 16))) (Qc (Ks 16 (pu 18))) Qh))) (Qa (Qn (PW.pt (Xo (Zc (QN (Kn (aW T) (Kq (Zh (jE T) (LG hr) T.aB (pu 0)) (pu 16))))) (Z9 (Zc (QN (Kn (jK T) (Lu (pu 0) (pu 11) (pu 3)))))))) (Qc (Qf ZF)) Qh) (Qa (Ks 19 (Zh (jD T) (LG hr) T.aB (pu 0))) (Qa (Lx (L0 K rfl (Qg Qu (Qq (Km (pu 3))) (Lz ["_law_one"] [none] (L0 K rfl (pu 9)) (Ky 0) QL (Qz (Kq (Ko K 0) Qe))))) (Ky 20) (Qc (Qn (Zc (QN (Kn (aW T) (Kq (Kn (iO T) (Kq (pu 19) (pu 20))) (Kn (jG T) (Kq (pu 9) (pu 20))))))) (Qc (Qf ZF)) Qh))) (Qc (Qf ZF)))))))))))))))),?_⟩;generalize hR:X5 (Y5 _ (Xd 12)) _=R;left;refine YM (G6 hT) rfl ?_;left;subst hR;generalize hR:X5 (Y5 _ (Xd 13)) _=R;left;simp only[QX];left;refine⟨J 0,rfl,⟨_,G5 Lp⟩,Zt (xs:=vp) (λi acc σ' H'=>∃x0,σ'=[x0,some (.ref a)]/\Same H H'/\All2 (Fq K H') (((Kr k.2 0).map (·.wth rs)).take i) acc) ⟨none,rfl,G7 _,All2.nil⟩ (λi acc σ' H' _ h=>by obtain⟨_,_,g',_⟩:=h;exact G5 (g' _ _ Lp)) (by omega) ?_ ?_⟩
 ·rintro i v acc _ H2 hv ab ⟨x0,rfl,g,hA⟩;obtain⟨y,hy,hP⟩:=Ap.getV hv;obtain⟨ok,sl⟩:=w.at (AG hy);have hi:=Qt hv;simp only[Zw];left;refine⟨a,rs,y,rfl,hP.same g,ok,sl,hH.same g,ho,λz H3 g3 hz=>?_⟩;refine CN.mk hi (by rw[Aq,Av];omega) ⟨_,rfl,g.trans g3,?_⟩;rw[Yv hy];exact(hA.imp λ_ _ y=>y.same g3).snoc hz
 rintro acc _ H1 ⟨x0,rfl,g1,hA⟩ l2 hl2;rw[AJ (by rw[As];omega)] at hA;have g2:=Qd hl2 (.lst acc);have k2:=Qb (H:=H1) (a:=l2) (o:=.lst acc);have ay:All2 (Fq K (upd H1 l2 (.lst acc))) ((Kr k.2 0).map (·.wth rs)) acc:=hA.imp λ_ _ y=>y.same g2
 have ah:=g1.trans g2;generalize upd H1 l2 (.lst acc)=H2 at *;left;refine Xm (ah _ _ hp) GP ?_;left;refine⟨a,rs,k,rfl,hK.same ah,hH.same ah,ho,λz3 H3 g3 f3=>?_⟩;refine⟨l2,acc,_,rfl,G5 (g3 _ _ k2),⟨ay.1,λi q v h1 h2=>FrR.of ((ay.2 i q v h1 h2).same g3) ?_⟩,by rw[As];omega,λz4 H4 g4 f4=>⟨_,f3.same g4,f4,?_⟩⟩
 ·obtain⟨y,hy,rfl⟩:=Ii.mp (AG h1);exact(Be ho (w.at hy).1).mono (by decide)
 have ar:=ah.trans (g3.trans g4);clear hA ay f3 f4 g1 g2 g3 ah;left;subst hR;generalize hR:X5 (Y5 _ (Xd 15)) _=R;have c6:∀(D:QY) (H':Hp) (a6 a4 a7:Option V),D.rt=Q->Same H H'->R D [some (.ref x),some (.ref a),some (.ref p),some x7,some (.str k.1),some (.ref (J 0)),some (.ref (J 1)),some (.ref (J 2)),some (.ref (J 3)),some (.ref (J 4)),some (.ref (J 5)),some (.ref (J 6)),a6,a4,a7,none,none,none,none,none,none] H':=by
  intro D H5 a6 a4 a7 hD g5;subst hR;generalize hR:X5 (Y5 _ (Xd 16)) _=R;have b5:∀(D:QY) (H':Hp) (a8:Option V),D.rt=Q->Same H H'->R D [some (.ref x),some (.ref a),some (.ref p),some x7,some (.str k.1),some (.ref (J 0)),some (.ref (J 1)),some (.ref (J 2)),some (.ref (J 3)),some (.ref (J 4)),some (.ref (J 5)),some (.ref (J 6)),a6,a4,a7,a8,none,none,none,none,none] H':=by
   intro D H5 a8 hD g5;subst hR;generalize hR:X5 (Y5 _ (Xd 19)) _=R;have bp:∀(D:QY) (H':Hp) (ax ak aj:Option V),D.rt=Q->Same H H'->R D [some (.ref x),some (.ref a),some (.ref p),some x7,some (.str k.1),some (.ref (J 0)),some (.ref (J 1)),some (.ref (J 2)),some (.ref (J 3)),some (.ref (J 4)),some (.ref (J 5)),some (.ref (J 6)),a6,a4,a7,a8,ax,ak,aj,none,none] H':=by
    intro D bo ax ak aj hD ag;subst hR;left;refine Xm (ag _ _ hp) VD ?_;left;refine⟨k,hK.same ag,λlk rows bj cb c1 ⟨vk,kk,Ak⟩ dr st un sz ln=>?_⟩;have b3:=ag.trans c1;left;refine⟨by decide,λao bb=>?_⟩;have b2:=Qd bb (.lst [x7]);have bu:(upd bj ao (.lst [x7])) ao=some (.lst [x7]):=Qb;generalize upd bj ao (.lst [x7])=H14 at *;have a5:=b3.trans b2;simp only[QX];left;refine⟨J 4,rfl,⟨_,G5 (a5 _ _ Lo)⟩,Zt (xs:=vo) (λi acc σ' H'=>∃x0,σ'=[x0]/\Same H14 H'/\All2 (Fq K H') (((Na k.2).map (λo=>(o.1:Rat))).take i) acc) ⟨none,rfl,G7 _,All2.nil⟩ (λi acc σ' H' _ h=>by obtain⟨_,_,g,_⟩:=h;exact G5 ((a5.trans g) _ _ Lo)) (by omega) ?_ ?_⟩
    ·rintro i v acc _ H2 hv ab ⟨x0,rfl,g15,hA⟩;obtain⟨o,a0,pu,zu,rfl,hT,_⟩:=Ao.getV hv;have hi:=Qt hv;have cc:=(a5.trans g15).sqT hT;simp only[Zw];left;refine⟨by decide,λp5 c0=>?_⟩;have g5:=Qd c0 (.tup [.int o.1,.int 1]);refine CN.mk hi (by rw[Aq,Av];omega) ⟨_,rfl,g15.trans g5,?_⟩;rw[Yv a0];exact(hA.imp λ_ _ y=>y.same g5).snoc (Xa (G6 Qb))
    rintro acc _ b0 ⟨x0,rfl,g15,hA⟩ l6 hl6;rw[AJ (by rw[As];omega)] at hA;have aw:=Qd hl6 (.lst acc);have bc:=(g15.trans aw) _ _ bu;have ba:(upd b0 l6 (.lst acc)) l6=some (.lst acc):=Qb;have bw:All2 (Fq K (upd b0 l6 (.lst acc))) ((Na k.2).map (λo=>(o.1:Rat))) acc:=hA.imp λ_ _ y=>y.same aw
    generalize upd b0 l6 (.lst acc)=H16 at *;have az:=g15.trans aw;have bq:=hA.1;rw[As] at bq;refine T2 ⟨ao,l6,_,_,rfl,rfl,bc,ba,Za (by show 1+acc.length<=_;omega),λl7 c5=>?_⟩;have b6:=Qd c5 (.lst ([x7]++acc));have bt:(upd H16 l7 (.lst ([x7]++acc))) l7=some (.lst ([x7]++acc)):=Qb;have aa:=az.trans b6;have bf:All2 (Fq K (upd H16 l7 (.lst ([x7]++acc)))) ((Na k.2).map (λo=>(o.1:Rat))) acc:=bw.imp λ_ _ y=>y.same b6
    generalize upd H16 l7 (.lst ([x7]++acc))=H17 at *;have ae:=a5.trans aa;have b1:=b2.trans aa;have all:∀v∈[x7]++acc,∃r,Fq K H17 r v/\RB 60 r/\0<=r:=by
     intro v hv;rcases AK.mp hv with hv|hv
     ·rw[AA.mp hv];exact⟨pl,hF.same ae,hB,p0⟩
     ·obtain⟨j,hj⟩:=I8 hv;obtain⟨r,hr,hf⟩:=bf.getV hj;obtain⟨o,a0,rfl⟩:=Ii.mp (AG hr);obtain⟨j2,c3⟩:=I8 a0;have l0:=(XQ (p':=o) (Vu w) c3).1;exact⟨_,hf,RB.int ((Yg w a0).1.mono (by decide)) (by decide),Rat.intCast_nonneg.mpr (by omega)⟩
    refine⟨l7,rfl,⟨_,G5 bt⟩,WL (xs:=[x7]++acc) (λi σ' H'=>∃x20,σ'=[some (.ref x),some (.ref a),some (.ref p),some x7,some (.str k.1),some (.ref (J 0)),some (.ref (J 1)),some (.ref (J 2)),some (.ref (J 3)),some (.ref (J 4)),some (.ref (J 5)),some (.ref (J 6)),a6,a4,a7,a8,ax,ak,aj,some (.ref lk),x20]/\Same H17 H') ⟨none,rfl,G7 _⟩ (λi σ' H' _ h=>by obtain⟨_,_,g⟩:=h;exact G5 (g _ _ bt)) ?_ ?_⟩
    ·rintro i v _ bz hv ⟨a4,rfl,g18⟩;obtain⟨r,fr,rb,r0⟩:=all v (AG hv);left;have ai:=b1.trans g18;refine⟨rows,_,lk,r,500,500,500,60,rfl,⟨vk,G5 (ai _ _ kk),Ak.imp λ_ _ y=>y.same ai⟩,fr.same g18,dr,st,r0,sz,rb,by decide,by omega,λz1 c8 av f1=>?_⟩;left;have au:=ae.trans (g18.trans av);refine⟨J 4,Na k.2,r,rfl,⟨_,G5 (au _ _ Lo),Ao.imp λ_ _ y=>y.same au⟩,fr.same (g18.trans av),o1,Vu w,λo a0=>⟨(Yg w a0).1,(Yg w a0).2.1⟩,rb,λz2 c9 bh f2=>⟨_,f1.same bh,f2,?_⟩⟩;left;exact⟨_,rfl,g18.trans (av.trans bh)⟩
    ·rintro _ bz ⟨a4,rfl,g18⟩;left;rw[hD];exact q _ (ae.trans g18)
   left;refine⟨by decide,λpm c2=>?_⟩;have g9:=Qd c2 (.tup [.int 0,.int 1]);have bx:Fq K (upd H5 pm (.tup [.int 0,.int 1])) 0 (.ref pm):=⟨pm,rfl,G6 Qb⟩
   have U:=g5.trans g9;generalize upd H5 pm (.tup [.int 0,.int 1])=H9 at *;refine⟨J 4,rfl,⟨_,G5 (U _ _ Lo)⟩,WL (xs:=vo) (λi σ' H'=>∃z ak aj,σ'=[some (.ref x),some (.ref a),some (.ref p),some x7,some (.str k.1),some (.ref (J 0)),some (.ref (J 1)),some (.ref (J 2)),some (.ref (J 3)),some (.ref (J 4)),some (.ref (J 5)),some (.ref (J 6)),a6,a4,a7,a8,some z,ak,aj,none,none]/\H'=H9/\Fq K H9 (gr ((Na k.2).take i)) z/\RB 14 (gr ((Na k.2).take i))) ⟨_,none,none,rfl,rfl,bx,RB.zero (by decide)⟩ (λi σ' H' _ h=>by obtain⟨_,_,_,_,e,_⟩:=h;rw[e];exact G5 (U _ _ Lo)) ?_ ?_⟩
   ·rintro i v _ H2 hv ⟨z,x10,x11,rfl,e2,⟨pz,rfl,hTz⟩,rz⟩;rw[e2];obtain⟨o,a0,pu,zu,rfl,hT,⟨pr,rfl,c4⟩⟩:=Ao.getV hv;have oz:=(Yg w (AG a0)).2.1;have br:=U.sqT hT;have b4:=U.sqT c4;have tk:gr ((Na k.2).take (i+1))=mx (gr ((Na k.2).take i)) o:=by unfold gr;rw[AX,a0,List.foldl_append];rfl
    refine YM br rfl ?_;left;refine⟨⟨rz.1.mono (by decide),oz.2.mono (by decide)⟩,?_⟩;left;refine⟨⟨oz.1.mono (by decide),rz.2.mono (by decide)⟩,?_⟩;left;have lt:=Rat.lt_iff (gr ((Na k.2).take i)) o.2;refine Qo (λc=>?_) (λc=>?_)
    ·refine⟨_,_,_,rfl,(by first|rfl|trivial),?_,?_⟩
     ·rw[tk];unfold mx;rw[An (lt.mpr c)];exact⟨pr,rfl,b4⟩
     ·rw[tk];exact BK rz oz
    ·refine⟨_,_,_,rfl,(by first|rfl|trivial),?_,?_⟩
     ·rw[tk];unfold mx;rw[Am (λh=>c (lt.mp h))];exact⟨pz,rfl,hTz⟩
     ·rw[tk];exact BK rz oz
   rintro _ H2 ⟨z,x10,x11,rfl,e2,fz,rz⟩;rw[e2];rw[AJ (by omega)] at fz;left;refine Xm (U _ _ hp) WK ?_;left;refine⟨k,hK.same U,λzg fg=>⟨_,fg,fz,?_⟩⟩;left;refine⟨k,J 6,vr,pl,hK.same U,rfl,G5 (U _ _ Lr),Ar.imp λ_ _ h=>h.same U,hF.same U,hB,λbo aq=>?_⟩;left;exact bp _ _ _ _ _ hD (U.trans aq)
  left;refine Xm (g5 _ _ hp) Tc ?_;left;refine ⟨a,rs,k,rfl,hK.same g5,hH.same g5,ho,fun lf vf H7 g7 c7 kf bg=>?_⟩;have a9:=g5.trans g7;have nf:=bg.1;rw [As] at nf;refine Di (G5 kf) ?_;left;refine Q7 (G5 kf) (Q7 (G5 (a9 _ _ Ly)) ?_);rw [<-nf,n3];left;simp only [QX,LK];left;refine ⟨lf,J 2,rfl,⟨_,G5 kf⟩,⟨_,G5 (a9 _ _ Ly)⟩,SE (xs:=vf) (ys:=vy) (fun i acc σ' H'=>∃ x0 x1,σ'=[x0,x1,some (.ref a)]/\Same H7 H'/\acc=List.replicate i (V.bl true)) (by omega) ⟨none,none,rfl,G7 _,rfl⟩ (fun i acc σ' H' h=>by obtain ⟨_,_,_,g',_⟩:=h;exact ⟨G5 (g' _ _ kf),G5 ((a9.trans g') _ _ Ly)⟩) (by omega) ?_ ?_⟩
  ·rintro i u v acc _ H8 p2 hu hv ab ⟨x0,x1,rfl,g8,rfl⟩ hp2;obtain⟨y,hy,hP⟩:=Ay.getV hv;obtain⟨ok,sl⟩:=w.at (AG hy);have hi:=Qt hu;have g9:=Qd hp2 (.tup [u,v]);have br:Kt K (upd H8 p2 (.tup [u,v])) p2 [u,v]:=G6 Qb;generalize upd H8 p2 (.tup [u,v])=H9 at *;have U:=a9.trans (g8.trans g9);have fu:Fq K H7 (y.own rs) u:=bg.2 i _ _ (by rw[AS,hy];rfl) hu;left;simp only[Zw];left;refine⟨a,rs,y,rfl,hP.same U,ok,sl,hH.same U,ho,λz bo aq hz=>⟨_,fu.same (g8.trans (g9.trans aq)),hz,?_⟩⟩;exact CN.mk hi (by rw[Aq,List.length_replicate,Av];omega) ⟨_,_,rfl,g8.trans (g9.trans aq),by rw[List.replicate_succ']⟩
  rintro acc _ H8 ⟨x0,x1,rfl,g8,rfl⟩ l8 hl8;have g9:=Qd hl8 (.lst (List.replicate vf.length (V.bl true)));refine⟨l8,List.replicate vf.length true,rfl,by rw[List.map_replicate];exact G5 Qb,?_⟩;have ea:(List.replicate vf.length true).all id=true:=Io.mpr λb hb=>(List.mem_replicate.mp hb).2
  rw[ea];left;exact b5 _ _ _ hD (a9.trans (g8.trans g9))
 left;refine Xm (ar _ _ hp) UG ?_;left;refine⟨a,rs,k,rfl,hK.same ar,hH.same ar,ho,λH5 g5=>?_⟩;have af:=ar.trans g5;left;simp only[QX];left;refine⟨J 1,rfl,⟨_,G5 (af _ _ Lt)⟩,Zt (xs:=vt) (λi acc σ' H'=>∃x0,σ'=[x0,some (.ref a)]/\H'=H5/\acc=(((Kr k.2 1).map (·.met rs)).take i).map V.bl) ⟨none,rfl,rfl,rfl⟩ (λi acc σ' H' _ h=>by obtain⟨_,_,e,_⟩:=h;rw[e];exact G5 (af _ _ Lt)) (by omega) ?_ ?_⟩
 ·rintro i v acc _ H6 hv ab ⟨x0,rfl,e6,rfl⟩;rw[e6];obtain⟨y,hy,hP⟩:=At.getV hv;obtain⟨ok,sl⟩:=w.at (AG hy);have hi:=Qt hv;simp only[Zw];left;refine⟨a,rs,y,rfl,hP.same af,sl,hH.same af,?_⟩;exact CN.mk hi (by rw[Aq,As,Ig,As,Av];omega) ⟨_,rfl,(by first|rfl|trivial),by rw[Yv hy,Az];rfl⟩
 rintro acc _ H6 ⟨x0,rfl,e6,rfl⟩ l6 hl6;rw[e6] at hl6 ⊢;rw[AJ (by rw[As];omega)];have g6:=Qd hl6 (.lst (((Kr k.2 1).map (·.met rs)).map V.bl));have k6:=Qb (H:=H5) (a:=l6) (o:=.lst (((Kr k.2 1).map (·.met rs)).map V.bl));generalize upd H5 l6 (.lst (((Kr k.2 1).map (·.met rs)).map V.bl))=H7 at *;left;refine⟨l6,_,rfl,G5 k6,?_⟩;left;exact c6 _ _ _ _ _ rfl (af.trans g6)
theorem OfR.weak {t}(h:OfR K t N H v ks cs):OfR K t (λ_=>True) H v ks cs:=by
 obtain⟨x,dx,m1,m2,kvs,cvs,e,hx,_,_,j1,j2,U,J⟩:=h;exact⟨x,dx,m1,m2,kvs,cvs,e,hx,trivial,trivial,j1,j2,U.imp λ_ _ h=>h.imp λ_ _=>trivial,VM J λ_ _ _ _=>trivial⟩
theorem KdR.nk {K}{t}{N}{H}{k}{v}(h:KdR K t N H (nk k) v):KdR K t N H k v:=by
 obtain⟨x,dx,li,un,wa,m,e,h1,h2,h3,h4⟩:=h;have U:=ZH k.2 (j:=5) (by decide);have J:=ZH k.2 (j:=6) (by decide);unfold Kr at U J;refine⟨x,dx,li,un,wa,m,e,h1,λj hj=>?_,?_,?_⟩
 ·have ej:=ZH k.2 (j:=j) (by omega);unfold Kr at ej;rw [<-ej];exact h2 j hj
 ·rw [<-U];exact h3
 ·rw [<-J];exact h4
theorem OfR.nk {K}{t}{N}{H}{v}{ks}{cs}(h:OfR K t N H v (ks.map nk) cs):OfR K t N H v ks cs:=by
 obtain⟨x,dx,m1,m2,kvs,cvs,e,hx,n1,U,j1,j2,J,hc⟩:=h;exact⟨x,dx,m1,m2,kvs,cvs,e,hx,n1,U,j1,j2,⟨by have:=J.1;rwa [As] at this,λi k v h1 h2=>(J.2 i (My.nk k) v (by rw[AS,h1];rfl) h2).nk⟩,hc⟩
theorem BJ:∀{ks:List (Str×List Itm)},(ks.map (·.1)).Nodup->∀{r k},r∈ks->k∈ks->r.1=k.1->r=k
 | [],_,_,_,hr,_,_=>nomatch hr
 | a::ks,nd,r,k,hr,hk,e=>by
  rw[A3,II] at nd;rcases AF.mp hr with e1|h1
  ·rcases AF.mp hk with e2|h2
   ·rw[e1,e2]
   ·exact absurd (Ii.mpr ⟨k,h2,by rw [<-e,e1]⟩) nd.1
  ·rcases AF.mp hk with e2|h2
   ·exact absurd (Ii.mpr ⟨r,h1,by rw[e,e2]⟩) nd.1
   ·exact BJ nd.2 h1 h2 e
inductive mV (K)(t)(x y:V)(H:Hp)(Q:VK):Prop
 | mk (N:Addr->Prop) (ks:List (Str×List Itm)) (cs:List Cp) (k:Str×List Itm) (h1:OfR K t N H x ks cs) (h2:y=.str k.1) (h3:k∈ks) (h4:(ks.map (·.1)).Nodup) (h5:∀v,KdR K t N H k v->Q v H):mV K t x y H Q
theorem jM (T:Tx w K mg):Z7 P w K mg base 1 t.zG "kind" ["self","title"] (Sp2M (mV K t)):=by
 refine Xq T 6201 ["self","title","one"] Zd λH Q dn hr h=>?_
 obtain⟨_,_,rfl,N,ks,cs,k,⟨x,dx,m1,m2,kvs,cvs,rfl,hx,_,_,j1,j2,hk,hc⟩,rfl,J,nd,q⟩:=h;have a0:=hk.1;refine⟨_,(Qa (Lx (L0 K rfl (LA K (pu 0))) (Ky 2) (Qc (Qn (Ku (QR K) (LA K (pu 2)) (pu 1)) (Qc (Qf (pu 2))) Qh))) (Qc XI)),?_⟩;left;refine QH hx T.aR T.bU Us ⟨m1,rfl,⟨_,G5 j1⟩,WL (xs:=kvs) (λi σ' H'=>∃x0:Option V,σ'=[some (.ref x),some (.str k.1),x0]/\H'=H/\k.1∉(ks.take i).map (·.1)) ⟨none,rfl,rfl,by simp⟩ (λi σ' H' _ h=>by obtain⟨_,_,e,_⟩:=h;rw[e];exact G5 j1) ?_ ?_⟩
 ·rintro i v _ H2 hv ⟨x0,rfl,e2,hno⟩;rw[e2];obtain⟨r,U,kd⟩:=hk.getV hv;obtain⟨kx,a4,li,un,wa,m,rfl,h1,_⟩:=id kd;left;refine QH h1 T.aB T.bM UD ?_;left;split
  ·rename_i e;left;cases BJ nd (AG U) J e;exact q _ kd
  ·rename_i e;refine⟨_,by first|exact trivial|rfl,by first|exact trivial|rfl,?_⟩;rw[AX,U,Az];intro J;rcases AK.mp J with J|J
   ·exact hno J
   ·exact e (AA.mp J).symm
 ·rintro _ H2 ⟨x0,rfl,e2,hno⟩;rw [<-a0,IM] at hno;exact absurd (Ii.mpr ⟨k,J,rfl⟩) hno
inductive V4 (K)(t)(x y:V)(H:Hp)(Q:VK):Prop
 | mk (N:Addr->Prop) (c:Cp) (a:Addr) (vs:List V) (h1:CpR K t N H c x) (h2:y=.ref a) (h3:Kv K H a vs) (h4:vs.length<=60) (h5:ZR c.2.1) (h6:∀p H',Same H H'->Kt K H' p [.int (c.1+c.2.1*vs.length),.int 1]->Q (.ref p) H'):V4 K t x y H Q
theorem TF:(cF a b c).lookup (Str.ofString "room_for")=none:=by kernel_rfl
theorem NA {b:Int}(h:ZR b)(hn:n<=60):CMulB b (n:Int):=⟨Ll h.1 (by have:=h.2;omega),Ll (by omega) (by omega)⟩
theorem jN (T:Tx w K mg):Z7 P w K mg base 1 t.zF "room_for" ["self","home"] (Sp2M (V4 K t)):=by
 refine Xq T 6101 ["self","home"] Zd λH Q dn hr h=>?_
 obtain⟨_,_,rfl,N,c,a,vs,⟨x,dx,l,rfl,U,_⟩,rfl,hL,hn,be,q⟩:=h;refine⟨_,(Qc (Qf (Qz (Kq (Qg Qu (LA K (pu 0)) (Qg Qr (LA K (pu 0)) (Ln K T.aA (pu 1)))) Qe)))),?_⟩;left;refine QH U T.aM T.bR U1 (QH U T.aM T.bS Mf (Q7 hL ?_));left;refine⟨NA be hn,by decide,λr J=>?_⟩;exact q r _ (Qd J _) (G6 Qb)
def LV (K:W.Frag)(H:Hp)(a c:Addr)(ks:List (Str×List Itm))(cs:List Cp):Prop:=∃(ps:List Addr) (qs:Nat->Nat->Addr) (cvs:List V),H a=some (.lst (ps.map V.ref))/\ps.length=ks.length/\(∀(i:Nat) p k,ps[i]?=some p->ks[i]?=some k->KL K H p k.1 k.2 (qs i))/\H c=some (.lst cvs)/\All2 (CL K (λ_=>True) H) cs cvs
theorem LV.same {a c}(h:LV K H a c ks cs)(g:Same H H'):LV K H' a c ks cs:=by
 obtain⟨ps,qs,cvs,h1,h2,J,h4,U⟩:=h;exact⟨ps,qs,cvs,g _ _ h1,h2,λi p k a b=>(J i p k a b).mono g,g _ _ h4,WN (.of g) U⟩
inductive WR (K)(t)(x y z u v:V)(H:Hp)(Q:VK):Prop
 | mk (a p c:Addr) (rs:List Pn) (ks:List (Str×List Itm)) (cs:List Cp) (as:List Str) (pl:Rat) (e2:y=.ref a) (e3:z=.ref p) (e4:u=.ref c) (h1:OfR K t (λ_=>True) H x ks cs) (h2:WfO ks cs as) (h3:LV K H p c ks cs) (h4:Hm K H rs a) (h5:HmOk rs) (h6:Fq K H pl v) (h7:RB 60 pl) (h8:0<=pl) (h9:∀H',Same H H'->Q (.bl true) H'):WR K t x y z u v H Q
theorem OfR.same {t}(h:OfR K t N H v ks cs)(g:Same H H'):OfR K t N H' v ks cs:=h.kp (.of g)
theorem P4:(oF a b).lookup (Str.ofString "kind")=none:=by kernel_rfl
theorem Ae {m}{sp}{tt}{σ}:X7 C m sp [] E0 ta tt σ H Q=ta σ H λx H1=>∃p dx fs,x=.ref p/\H1 p=some (.ins C dx fs)/\fs.lookup m=none/\tt σ H1 λvs H2=>sp (x::(vs++[])) H2 Q E0:=rfl
theorem dS (T:Tx w K mg):LB P w K mg base 8 "_law_office" ["_law_office_here","_law_home_here","_law_kinds","_law_caps","_law_place"] (Sp5M (WR K t)):=by
 refine QI T 119 ["_law_office_here","_law_home_here","_law_kinds","_law_caps","_law_place","_law_kind_here","_law_k","_law_room"] Ag λH Q dn hr h=>?_
 obtain⟨_,_,_,_,x5,rfl,a,p,c,rs,ks,cs,as,pl,rfl,rfl,rfl,hO,wf,hV,hH,ho,hF,hB,p0,q⟩:=h;obtain⟨x,dx,m1,m2,kvs,cvs,rfl,hx,_,_,j1,j2,hk,hc⟩:=id hO;obtain⟨ps,qs,ag,l1,pn,l3,l4,l5⟩:=id hV;have l8:=wf.l8;have c4:=wf.l4;refine⟨_,(Qa (Lx (L0 K rfl (pu 2)) (Ky 5) (Qc (Qn (Zc (QN (Kn (jL T) (lU (ZJ (jM T) (LG hr) T.aR (pu 0) (Km (Ko K 5))) (pu 1) (pu 5) (pu 4))))) (Qc (Qf ZF)) Qh))) (Qa (Lx (XJ rfl T.aY (Km (Ln K T.aA (pu 3)))) (Ky 6) (Qa (Ks 7 (Qg Qu (LD K (LD K (pu 3) (pu 6)) Qe) (Qg Qr (LD K (LD K (pu 3) (pu 6)) Qe) (Ln K T.aA (pu 1))))) (Qc (Qn (Zc (QN (Kn (aW T) (Kq (ZJ (jN T) (LG hr) T.aM (LD K (LA K (pu 0)) (pu 6)) (Km (pu 1))) (Qz (Kq (pu 7) Qe)))))) (Qc (Qf ZF)) Qh)))) (Qc (Qf ZF)))),?_⟩;generalize hR:X5 (RY _ _ _) (RW _)=R;left;refine⟨p,rfl,⟨_,G5 l1⟩,WL (xs:=ps.map V.ref) (λi σ' H'=>∃x5',σ'=[some (.ref x),some (.ref a),some (.ref p),some (.ref c),some x5,x5',none,none]/\Same H H') ⟨none,rfl,G7 _⟩ (λi σ' H' _ h=>by obtain⟨_,_,g⟩:=h;exact G5 (g _ _ l1)) ?_ ?_⟩
 ·rintro i v _ H2 hv ⟨x5',rfl,g⟩;have hi:=Qt hv;rw[As] at hi;rw[AS] at hv;obtain⟨pk,ae,rfl⟩:=A8.mp hv;obtain⟨k,a0⟩:∃k,ks[i]?=some k:=⟨_,Ax (by omega)⟩
  have hm:=AG a0;have hL:=(l3 i pk k ae a0).mono g;have hT:=G6 (K:=K) hL.hp;left;refine Xm (g _ _ hx) P4 ?_;left;refine⟨_,ks,cs,k,hO.same g,rfl,hm,wf.nd,λv hK=>?_⟩;refine⟨a,pk,rs,k,_,pl,rfl,rfl,⟨hK,wf.i k hm⟩,hL,hH.same g,ho,hF.same g,hB,p0,λH3 J=>?_⟩;left;exact⟨_,rfl,g.trans J⟩
 ·rintro _ H2 ⟨x5',rfl,g⟩;subst hR;have n5:=l5.1;have nh:=ho.n;obtain⟨hv,a5,a9⟩:=id hH;have nv:=a9.1;left;refine Q7 (G5 (g _ _ l4)) ?_;left;refine⟨by omega,by omega,B4 (λi σ' H'=>∃x6 x7,σ'=[some (.ref x),some (.ref a),some (.ref p),some (.ref c),some x5,x5',x6,x7]/\Same H H') ⟨none,none,rfl,g⟩ ?_ ?_⟩
  ·rintro i _ H3 hi ⟨x6,x7,rfl,J⟩;obtain⟨cp,U⟩:∃cp,cs[i]?=some cp:=⟨_,Ax (by omega)⟩
   obtain⟨lv,a6,pc,ll,rfl,af,_⟩:=l5.get U;obtain⟨ov,a8,a4⟩:=hc.get U;have ok:=wf.c cp (AG U);have hT:Kt K H3 pc [.int cp.1,.int cp.2.1,.ref ll]:=G6 (J _ _ af);have i1:Nd ag (0+(i:Int))=some (.ref pc):=by rw[qR];exact QZ a6
   have i2:Nd cvs (0+(i:Int))=some ov:=by rw[qR];exact QZ a8
   left;refine QO (G5 (J _ _ l4)) i1 (Zg hT rfl (QO (G5 (J _ _ l4)) i1 (Zg hT rfl (Q7 (J.seq a5) ?_))));left;refine⟨NA ok.2.1 (by omega),?_⟩;left;obtain⟨cx,a7,cl,rfl,aa,ai,_⟩:=id a4;rw[Ae];left;refine QH (J _ _ hx) T.aR T.bV NN (QO (G5 (J _ _ j2)) i2 ⟨cx,a7,_,rfl,J _ _ aa,TF,?_⟩);left;refine⟨_,cp,a,hv,a4.kp (.of J),rfl,J.seq a5,by omega,ok.2.1,λpr H4 g4 ab=>⟨by decide,λpt ah=>?_⟩⟩;have g5:=Qd ah (.tup [.int (cp.1+cp.2.1*hv.length),.int 1]);refine⟨_,Xa (g5.sqT ab),Xa (G6 Qb),?_⟩;left;exact⟨_,_,rfl,J.trans (g4.trans g5)⟩
  ·rintro _ H3 ⟨x6,x7,rfl,J⟩;left;exact q _ J
theorem Sf (h:Kv K H p xs)(g:Same H H1)(sn:Sn (λb=>H b=none) H1 H2):Kv K H2 p xs:=by
 rcases h with (h|⟨u,h⟩)|h
 ·exact .inl (.inl (sn _ _ (λe=>by have e:H p=none:=e;rw[h] at e;cases e) (g _ _ h)))
 ·exact .inl (.inr ⟨u,sn _ _ (λe=>by have e:H p=none:=e;rw[h] at e;cases e) (g _ _ h)⟩)
 ·exact .inr h
theorem FY {a}(h:H a=some (.lst [])):Hm K H [] a:=⟨[],G5 h,All2.nil⟩
theorem FE:HmOk []:=⟨by decide,λr h=>nomatch h⟩
theorem FF (T:Tx w K mg){f:Addr}{q:Str}(F:Fun K x q (top 120) f fd):FnOk P w K mg base OX 9 f fd ["_law_script"] (Ug K):=by
 refine F.ok HP (λvs H Q E h=>by obtain⟨_,rfl,_⟩:=h;rfl) (λcdv A outer s H vs Q E hr h=>?_);obtain⟨_,rfl,sc,J,rfl,hS,cp,q⟩:=h;refine⟨_,(Qa (Ks 1 (Kn (i8 T) (Kq (Kn (bG T) (Kq (pu 0) Qe)) (Qg Qu Qe (Qg Qp (Kn (bG T) (Kq (pu 0) Qe)) Qe))))) (Qa (Ks 2 (Qq QE)) (Qa (Ks 3 (Qq QE)) (Qa (Ks 4 (Kn (iE T) (lU (Zy (lY K rfl) (pu 0) (ZA Qe) (ZA Qe)) (pu 1) (pu 2) (pu 3)))) (Qa (Ks 4 (Kn (iF T) (lU (pu 4) (pu 1) (pu 2) (Kn (bG T) (Kq (pu 0) Qe))))) (Qa (Ks 5 (Kn (iX T) (Km (Zy (lY K rfl) (pu 0) (ZA Qe) (ZA Qe))))) (Qa (Ks 6 (Kn (bG T) (Kq (pu 0) Qe))) (Qa (Ks 7 (Kn (b8 T) (Kq (Qg Qp (Kn (aC T) (Kq (pu 6) Qe)) (Qg Xh Qe Qe)) (Qg Qu Qe (Qg Qp (Kn (aC T) (Kq (pu 6) Qe)) Qe))))) (Qa (Ks 8 (Kn (d5 T) (Km (pu 4)))) (Qa (Lx (L0 K rfl (Qq (Kq (pu 5) (Qq QE)))) (Ky 9) (Qc (Qn (Zc (QN (Kn (dS T) (oR (pu 8) (pu 9) (pu 2) (pu 3) (pu 7))))) (Qc (Qf ZF)) Qh))) (Qc (Qf (Kn (dS T) (oR (Kn (d5 T) (Km (Kn (iH T) (Km (pu 8))))) (pu 5) (pu 2) (pu 3) (pu 7))))))))))))))),?_⟩;left;refine⟨sc,J,0,rfl,rfl,hS,by decide,?_⟩;left;refine⟨sc,J,0,rfl,rfl,hS,by decide,?_⟩;left;have d0:=AY (cl J 0) (show(8:Int)≠0 by decide);have d1:=A6 (cl J 0) (show(0:Int)<8 by decide);refine⟨trivial,_,_,rfl,rfl,by omega,λpl ns H1 g1 ck aj nd bf n1 n8=>?_⟩;left;refine⟨by decide,λa ha=>?_⟩;have g2:=Qd ha (.lst []);have ka:=Qb (H:=H1) (a:=a) (o:=.lst []);generalize upd H1 a (.lst [])=H2 at *;left;refine⟨by decide,λc hc=>?_⟩;have g3:=Qd hc (.lst []);have kc:=Qb (H:=H2) (a:=c) (o:=.lst []);generalize upd H2 c (.lst [])=H3 at *;have gA:=g1.trans (g2.trans g3);have a0:H a=none:=g1.free ha;have c0:H c=none:=(g1.trans g2).free hc;have bj:c≠a:=λe=>by rw[e,ka] at hc;cases hc
 have bg:pl≠a:=Qj aj ha;have bx:pl≠c:=Qj (g2 _ _ aj) hc;have S3:LwS K (λb=>H b=none) (λb=>if b=a then 0 else if b=c then 1 else 4) H3 a c [] (λ_ _=>0) [] [(4,pl,ns.map V.str)] [] []:=by
  refine⟨g3 _ _ ka,kc,a0,c0,rfl,λi p k h=>by simp at h,λi h=>by simp at h,Q5,An rfl,?_,λi h=>by simp at h,λe he=>?_⟩
  ·simp only[Am bj,if_true]
  ·rw[AA.mp he];refine⟨(g2.trans g3) _ _ aj,?_,Au 4,G8 rfl⟩;simp only[Am bg,Am bx]
 left;refine YF (gA.seq hS) λd hd=>?_
 rw[show Yp (J.map V.int) (some 2) (some 62)=((J.drop 2).take 60).map V.int by rw[List.map_take,List.map_drop];exact Mc _ 2 62];have g4:=Qd hd (.lst (((J.drop 2).take 60).map V.int));have S4:=S3.addB (n:=5) hd g4 Qb (by decide) (by decide);generalize upd H3 d (.lst (((J.drop 2).take 60).map V.int))=H4 at *;have gB:=gA.trans g4;refine⟨_,d,pl,a,c,(J.drop 2).take 60,ns,rfl,rfl,rfl,rfl,⟨_,_,_,_,S4⟩,λb hb=>gB.free hb,by rw[Ig];omega,bf,nd,⟨n1,n8⟩,λr rs ks cs as H5 ak cf T5 br c2 nr=>?_⟩;left;refine⟨sc,J,1,rfl,rfl,Sf hS gB ak,by decide,?_⟩;left;refine⟨_,r,pl,a,c,d,_,_,rs,ns,ks,cs,as,rfl,rfl,rfl,rfl,T5,cf,nr,br,bf,nd,⟨n1,n8⟩,c2,λrs ks cs as H6 b4 d2 ⟨cv,bh,c5,b2,S6⟩ a4 all cw=>?_⟩;have b5:H6 r=some (.lst (LF rs)):=(S6.hb (6,r,LF rs) (by simp)).1;have sk:=a4.sml.k;have sx:=a4.sml.x;have s4:=a4.c4;have av:∀z∈as,z∈ks.map (·.1):=λz hz=>all z (a4.ain z hz)
 have wf:WfO ks cs as:=by
  have:=Gj WfO.nil a4.acc;rw[a4.run] at this;exact this
 have cx:My.nr ks cs=rs.length:=by
  have:=BD (as:=[]) a4.acc;rw[a4.run] at this;simpa[My.nr] using this
 obtain⟨a8,as',a9,b6⟩:=Dy wf;have cm:WfO (ks.map nk) cs as':=by
  have:=Gj WfO.nil a8;rw[a9] at this;exact this
 have cj:My.nr (ks.map nk) cs=My.nr ks cs:=by
  rw [<-Gp,DA,Gp]
 have ab:∀k∈ks,k.2.length<=100:=λk hk=>by have:=sx k hk;omega
 have bo:∀k∈ks.map nk,k.2.length<=100:=λk hk=>by
  obtain⟨k0,h0,rfl⟩:=Ii.mp hk;show(nrm k0.2).length<=100;rw[Jj];exact ab k0 h0
 have aw:(tl ks cs).length<=80:=by rw[Gp];omega
 have b3:∀z∈as',z∈(ks.map nk).map (·.1):=λz hz=>by
  rw[IV];exact av z (b6 z hz)
 have bt:LV K H6 a c ks cs:=⟨bh,c5,b2,S6.ha,S6.dl,S6.dr,S6.hc,Md S6.cr λ_ _ _ _=>trivial⟩
 have ax:=Sf hS gB λb o h1 h2=>b4 b o h1 (ak b o h1 h2)
 clear S6 ak b4 S3 S4 T5;left;refine YF ax λd7 bu=>?_
 rw[show Yp (J.map V.int) (some 2) (some 14)=((J.drop 2).take 12).map V.int by rw[List.map_take,List.map_drop];exact Mc _ 2 14];have g7:=Qd bu (.lst (((J.drop 2).take 12).map V.int));refine⟨d7,_,rfl,G5 Qb,by rw[Ig];omega,λhl hrs bw H8 g8 c9 hk hA c6 au=>?_⟩;have ho:HmOk hrs:=⟨c6,au⟩
 have ai:=g7.trans g8;have mh:Hm K H8 hrs hl:=⟨bw,G5 hk,hA⟩
 generalize upd H6 d7 (.lst (((J.drop 2).take 12).map V.int))=H7 at *;clear hA au hk c9;refine⟨sc,J,1,rfl,rfl,ai.seq ax,by decide,?_⟩;refine⟨_,1,rfl,rfl,by decide,λt1 H9 g9 d3 cz=>⟨by unfold Kz;decide,(by show(0:Int)<10 ^ Int.toNat 12;decide),?_⟩⟩;have c7:(10:Int) ^ Int.toNat 12=1000000000000:=by decide
 rw[c7];refine⟨_,2,rfl,rfl,by decide,λt2 ba ag cu cy=>⟨(by show(0:Int)<12;decide),?_⟩⟩;left;have x0:=AY t1 (show(1000000000000:Int)≠0 by decide);have x1:=A6 t1 (show 0<(1000000000000:Int) by decide);have b0:=AY t2 (show(12:Int)≠0 by decide);have b1:=A6 t2 (show 0<(12:Int) by decide);generalize t1 % 1000000000000=tt at *;generalize t2 % 12=bb at *;refine⟨_,_,rfl,rfl,by omega,Ll (by omega) (by omega),λpp ay=>?_⟩;have rx:RB 60 (Rat.divInt tt (1+bb)):=RB.of (by omega) (Ll (by omega) (by omega)) (Ll (by omega) (by omega));have r0:0<=Rat.divInt tt (1+bb):=Rat.divInt_nonneg x0 (by omega);have fp:=Fq.new (K:=K) (H:=ba) (p:=pp) (t:=tt) (b:=1+bb) (by omega);have az:=ai.trans (g9.trans (ag.trans (Qd ay (.tup [.int (fnum tt (1+bb)),.int (fden tt (1+bb))]))));have ar:=g9.trans (ag.trans (Qd ay (.tup [.int (fnum tt (1+bb)),.int (fden tt (1+bb))])));generalize upd ba pp (.tup [.int (fnum tt (1+bb)),.int (fden tt (1+bb))])=H11 at *;generalize Rat.divInt tt (1+bb)=pr at *;have aa:=mh.same ar;have ae:=bt.same az;refine⟨r,rs,ks,cs,as,rfl,G5 (az _ _ b5),by omega,a4.acc,a4.run,av,λv ao bp hO=>?_⟩;clear b5 ai g9 ag g7 g8 mh;left;refine⟨by decide,λpe bq=>⟨by decide,λpf cb=>?_⟩⟩;have c1:=Qd bq (.lst []);have aq:=Qd cb (.lst [V.ref hl,V.ref pe]);have ke:=aq _ _ (Qb (H:=ao) (a:=pe) (o:=.lst []));have kf:=Qb (H:=upd ao pe (.lst [])) (a:=pf) (o:=.lst [V.ref hl,V.ref pe]);have a7:=c1.trans aq;generalize upd (upd ao pe (.lst [])) pf (.lst [V.ref hl,V.ref pe])=H14 at *;have a6:=bp.trans a7;have af:=hO.weak.same a7;refine⟨pf,rfl,⟨_,G5 kf⟩,WL (xs:=[V.ref hl,V.ref pe]) (λi σ' H'=>∃x9,σ'=[some (.ref sc),some (.ref pl),some (.ref a),some (.ref c),some (.ref r),some (.ref hl),some (.int (cl J 1)),some (.ref pp),some v,x9]/\Same H14 H') ⟨none,rfl,G7 _⟩ (λi σ' H' _ h=>by obtain⟨_,_,g⟩:=h;exact G5 (g _ _ kf)) ?_ ?_⟩
 ·rintro i u _ bc hu ⟨x9,rfl,g15⟩;have U:=a6.trans g15;obtain⟨ha,hrs',rfl,bz,cc⟩:∃ha hrs',u=.ref ha/\Hm K bc hrs' ha/\HmOk hrs':=by
   match i,hu with
   | 0,hu=>cases hu;exact⟨hl,hrs,rfl,aa.same U,ho⟩
   | 1,hu=>cases hu;exact⟨pe,[],rfl,FY (g15 _ _ ke),FE⟩
  left;refine⟨ha,a,c,hrs',ks,cs,as,pr,rfl,rfl,rfl,af.same g15,wf,ae.same U,bz,cc,fp.same U,rx,r0,λcg ah=>?_⟩;left;exact⟨_,rfl,g15.trans ah⟩
 ·rintro _ bc ⟨x9,rfl,g15⟩;have U:=a6.trans g15;left;refine⟨_,ks,cs,as,af.same g15,wf,ab,by omega,λc8 cg ah f0 kf=>?_⟩;left;refine⟨c8,tl ks cs,ks.map nk,cs,as',rfl,G5 kf,aw,a8,a9,b3,λv2 cn bl c3=>?_⟩;have a5:=U.trans (ah.trans bl);exact⟨hl,a,c,hrs,ks,cs,as,pr,rfl,rfl,rfl,c3.nk.weak,wf,ae.same a5,aa.same a5,ho,fp.same a5,rx,r0,λcq _=>q _⟩
end
theorem all_mk {l:W.OpenLaw}(T:Tx w K mg)(hfa:mg "law"=some (.ref fa)):∃fd:FuncData,(∀(s:Shared) (v:Value),BindsTo s fd ⟨[v],[]⟩ [("_law_script",v)])/\∀base:Heap,K.In base->base.Ns mainGlobals mg->FnOk l.prog w K mg base OX 9 fa fd ["_law_script"] (Ug K):=by
 obtain⟨x,q,f,fd,a,F⟩:=T.fG _ (XO (i:=120) (a:=("law":Str)) rfl);have e:=hfa.symm.trans a;cases e;have J:=F;obtain⟨⟨oc,od,kV,doc,pm,an,cdv,ct,a0,rfl,lk,U⟩,hk⟩:=J;exact⟨_,λs v=>.of_eq rfl,λbase _ _=>FF T F⟩
theorem walk {l:W.OpenLaw}{q:Program}{d:DefRec}{K:Params->W.Frag}(hn:l.most=some 63)(hdf:d.params.defaults=[])
  (hY:∀(w:World) (h:Heap),YP w h->(K w.params).In h)
  (F:∀(w:World) (mg:Str->Option Value) (fa:Addr) (h:Heap),(K w.params).In h->h.Ns mainGlobals mg->mg d.name=some (.ref fa) ->
   ∃fd:FuncData,(∀(s:Shared) (u:Value),BindsTo s fd ⟨[u],[]⟩ [("_law_script",u)])/\∀base:Heap,(K w.params).In base->base.Ns mainGlobals mg->FnOk l.prog w (K w.params) mg base OX 9 fa fd ["_law_script"] (Ug (K w.params))) :
  W.WalkO q loose XP YP l.row.toRowW d [] (λf vs=>PySem.call f vs):=
 L2.walk_of (n:=63) (k:=9) (x:="_law_script") (CX:=λ_=>OX) (sp:=λw=>Ug (K w.params)) hn (by decide) hdf ⟨rfl,by decide,by decide⟩ hY F (λ_ _ a ns hl U J=>Ue hl U J) λ_ _ _ _ _ z=>z
end My
open PySem PySem.W PyProof.Rows
set_option maxRecDepth 100000 in
set_option maxHeartbeats 0 in
theorem PySem.Challenge.cw_doletaper_k39_whole_read_kinds_answer_holds : PySem.Challenge.rw_doletaper_k39_whole_read_kinds_answer.Holds := by
 w_on;refine holds_law wsd λsaid=>?_
 refine W.holds_open (r:=PySem.Challenge.rw_doletaper_k39_whole_read_kinds_answer.row) (q:=My.hkV) (loose:=My.hkLo) (Xt:=λs=>xlAt My.hkV [] s&&recOk (RowW.records (OpenRow.toRowW PySem.Challenge.rw_doletaper_k39_whole_read_kinds_answer.row)) s) (XP:=XL My.hkV []) (Yf:=Hook.obs (kHook My.HK My.hkA My.hkA_eq)) (Ya:=Hook.val (kHook My.HK My.hkA My.hkA_eq)) (YP:=Hook.says (kHook My.HK My.hkA My.hkA_eq)) (N:=400000) My.hd_left (Hook.of (kHook My.HK My.hkA My.hkA_eq)) (Hook.keeps (kHook My.HK My.hkA My.hkA_eq)) (λs e=>xl_of s (Bool.and_eq_true_iff.mp e).1) XL.keeps (by rfl) (by rfl) (by rfl) (λs e=>recFacts_of (Bool.and_eq_true_iff.mp e).2) (by rfl) (by assumption) (by decide +kernel) ⟨rfl,rfl,rfl,rfl,rfl,by decide +kernel⟩ ?hw ?hc
 (case hw=>exact⟨[W.WData.list []],by kernel_rfl,by kernel_rfl⟩)
 k_fill
 refine My.walk (l:=PySem.Challenge.rw_doletaper_k39_whole_read_kinds_answer) rfl rfl (λw h Y=>W.kIn_of Y) ?F
 case F=>
  intro w mg fa h KX G hmg;have T:My.Tx w (My.HK w.params) mg:=by
   have mN {n}:=@W.mg_none_of _ _ _ n KX G;have mO {n v}:=@W.mg_of _ _ _ n v KX G;have fl {α:Type} {p:α->Prop} {a:α} {l:List α} (h:p a) (g:∀x∈l,p x):∀x∈a::l,p x:=List.forall_mem_cons.2 ⟨h,g⟩;constructor
   ·dsimp only[My.ixG,List.flatten_cons,List.flatten_nil,List.cons_append,List.nil_append]
    repeat' refine fl ?_ ?_
    any_goals first|exact λ_ h=>nomatch h|exact⟨_,_,_,_,mO (by k_is),L2.fun_mk (by k_is) (by kernel_rfl) (by k_is)⟩
   ·dsimp only[My.ixM,List.flatten_cons,List.flatten_nil,List.cons_append,List.nil_append]
    repeat' refine fl ?_ ?_
    any_goals first|exact λ_ h=>nomatch h|exact⟨_,_,_,_,by k_is,by k_is,L2.fun_mk (by k_is) (by kernel_rfl) (by k_is),by k_is,by k_is⟩
   ·exact⟨_,_,_,_,_,_,_,_,_,_,_,_,_,by k_is,by k_is,by k_is,by kernel_rfl,by k_is,by k_is,by k_is,by k_is⟩
   all_goals first|exact mN (by k_is)|exact mO (by k_is)|exact⟨_,mO (by k_is),_,rfl⟩|(unfold L2.NoAttr;k_is)|exact⟨by k_is,by k_is,by k_is,by k_is⟩|kit_is|k_exc|kernel_rfl|exact L2.ktup2 (mO (by k_is)) (by k_is)|refine⟨mO (by k_is),?_⟩
   all_goals first|exact L2.kds_of (l:=[("kind",_,.str "NAME" _),("base",_,.str "AMOUNT" _),("each",_,.str "AMOUNT LOW HIGH" _),("rent",_,.str "RATE MOST" _),("from",_,.str "MANY LOW HIGH" _),("upto",_,.str "MANY LOW HIGH" _),("pay",_,.str "RATE LOW HIGH" _),("counts",_,.str "NAME RATE" _),("off",_,.str "LIMIT RATE" _),("until",_,.str "LIMIT" _),("round",_,.str "UNIT WAY" _),("cap",_,.str "LIMIT EACH NAME" _)]) (by k_is) (by rfl) (by decide +kernel) (.cons ⟨rfl,_,rfl⟩ <| .cons ⟨rfl,_,rfl⟩ <| .cons ⟨rfl,_,rfl⟩ <| .cons ⟨rfl,_,rfl⟩ <| .cons ⟨rfl,_,rfl⟩ <| .cons ⟨rfl,_,rfl⟩ <| .cons ⟨rfl,_,rfl⟩ <| .cons ⟨rfl,_,rfl⟩ <| .cons ⟨rfl,_,rfl⟩ <| .cons ⟨rfl,_,rfl⟩ <| .cons ⟨rfl,_,rfl⟩ <| .cons ⟨rfl,_,rfl⟩ <| .nil) (by decide)|exact L2.kds_of (l:=[("base",_,.str "parts" _),("each",_,.str "parts" _),("rent",_,.str "parts" _),("from",_,.str "terms" _),("upto",_,.str "terms" _),("pay",_,.str "pays" _),("counts",_,.str "counts" _),("off",_,.str "offs" _),("until",_,.str "untils" _),("round",_,.str "rounds" _)]) (by k_is) (by rfl) (by decide +kernel) (.cons ⟨rfl,_,rfl⟩ <| .cons ⟨rfl,_,rfl⟩ <| .cons ⟨rfl,_,rfl⟩ <| .cons ⟨rfl,_,rfl⟩ <| .cons ⟨rfl,_,rfl⟩ <| .cons ⟨rfl,_,rfl⟩ <| .cons ⟨rfl,_,rfl⟩ <| .cons ⟨rfl,_,rfl⟩ <| .cons ⟨rfl,_,rfl⟩ <| .cons ⟨rfl,_,rfl⟩ <| .nil) (by decide)|exact L2.kds_of (l:=[("parts",_,.int 6 _),("terms",_,.int 6 _),("pays",_,.int 4 _),("offs",_,.int 6 _),("untils",_,.int 1 _),("rounds",_,.int 1 _)]) (by k_is) (by rfl) (by decide +kernel) (.cons ⟨rfl,_,rfl⟩ <| .cons ⟨rfl,_,rfl⟩ <| .cons ⟨rfl,_,rfl⟩ <| .cons ⟨rfl,_,rfl⟩ <| .cons ⟨rfl,_,rfl⟩ <| .cons ⟨rfl,_,rfl⟩ <| .nil) (by decide)|exact L2.kts_of (by k_is) (by decide) (.cons ⟨_,rfl⟩ <| .cons ⟨_,rfl⟩ <| .nil)|exact L2.kts_of (by k_is) (by decide) (.cons ⟨_,rfl⟩ <| .cons ⟨_,rfl⟩ <| .cons ⟨_,rfl⟩ <| .nil)
  exact My.all_mk T hmg
