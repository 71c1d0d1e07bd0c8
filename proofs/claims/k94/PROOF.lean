import PyProof.Rows.All
import Wide.All
import OpenK.AllK
import Wide.FinOn
import PySem.Challenge.RW_haulbell_k94_no_states
import Lean
import PyProof.EqAt
import PyProof.EqKinds
import PyProof.TupleCall
import PyProof.EnumStmt
import PyProof.NeKinds
import PyProof.ExcAttrAll.ValueError
import PyProof.ExcInit
import PyProof.StationsW
import PyProof.NsDelKeeps
import PyProof.InstStoreFacts
import PyProof.ZipIter
import PyProof.IsiBase
import PyProof.AttrMiss
import KE.KDictOf
import KE.KDictList
import PyProof.InstEq
import PyProof.Rows.Range3
import PyProof.EnumMake
import PyProof.StrWalks
import PyProof.DictWalks
import PyProof.Rows.StrWeight2
import PyProof.StrCalls2
import PyProof.Rows.StrFacts2
import KE.KEqDict
import KE.KTab
import KE.KTabLook
import KE.KIntText
import PyProof.SliceStr
import PyProof.StrOps2
import KE.LcSums
open PySem.W renaming behindTheImports→ac
open PySem renaming wpAny_bind→am,wpAny_pure→ap,wpAny_field→bd,wpAny_holding→be,wpAny_truthy_bool→bi,starEach→bm,sizeLine→bn,wpAny_Call_Name_kw→bv
open List renaming length_map→ce,length_append→ci,mem_of_getElem?→cr,length_take→db,mem_cons_of_mem→dl,map_append→dL,length_singleton→f8,size_toArray→ge,mem_append_right→gt,getElem?_map→ii,length_drop→im,append_assoc→io,getElem?_eq_getElem→jp,mem_cons_self→le,mem_cons→lf
open Bool renaming and_eq_true→li
open Option renaming map_eq_some_iff→lw
open Nat renaming lt_of_lt_of_le→mo,le_of_ble_eq_true→nb,ne_of_lt→nl,le_refl→pc
open Int renaming toNat_natCast→pi,eq_ofNat_of_zero_le→re
open List renaming replicate→s0,getElem?_eq_some_iff→sn
open PySem.Heap renaming get?_push_of_some→ss,lt_size→sw,get?_push_size→sK
set_option linter.all false
set_option maxRecDepth 100000
set_option Elab.async false
set_option compiler.extract_closed false
theorem My.kleA {a b k:Nat}(h:a<=k)(e:Nat.ble (b+1) a=true):b<=k-1:=Nat.le_sub_one_of_lt (mo (nb e) h)
theorem My.kleB {a b k:Nat}(h:a<=k)(e:Nat.ble b a=true):b<=k:=Nat.le_trans (nb e) h
set_option hygiene false
local macro_rules| `(tactic|sleep $n:num)=>`(tactic|((conv at h=>lhs;whnf);iterate $n (split at h;rotate_left;cases h)))
set_option hygiene true
local macro_rules|`(command|abbrev $i:declId $s:optDeclSig $v:declVal)=>`(command|noncomputable def $i:declId $s:optDeclSig $v:declVal)
local macro_rules|`(command|def $i:declId $b:bracketedBinder* :$t $v:declVal)=>`(command|theorem $i:declId $b:bracketedBinder* :$t $v:declVal)
local macro_rules|`(nofun)=>`(by first|exact My.kleA (by assumption) (by rfl)|exact My.kleB (by assumption) (by rfl)|lia|omega)
local macro_rules|`(tactic|omega)=>`(tactic|lia)
noncomputable abbrev My.pr:PySem.Program:=PySem.Challenge.rw_haulbell_k94_no_states.row.prog
open PySem PySem.W in
set_option maxHeartbeats 0 in
def My.Aw:PySem.Challenge.rw_haulbell_k94_no_states.wellSaid=true:=by
  rewrite [Fast.te9446332074065402090]
  kernel_rfl
namespace L2
open PySem PySem.Spec
abbrev inClass (s:Stmt)(j:Nat):Stmt:=match s with
  | .ClassDef _ _ _ body _ _ _ _ _ _ _=>body.getD j (.Pass ⟨0,0,0,0⟩)
  |_=>.Pass ⟨0,0,0,0⟩
abbrev lY (s:Stmt):Arguments:=match s with
  | .FunctionDef _ a _ _ _ _ _ _ _ _=>a
  |_=>{ posonlyargs:=[],args:=[],vararg:=none,kwonlyargs:=[],kw_defaults:=[],kwarg:=none,defaults:=[] }
abbrev mv (s:Stmt):List Stmt:=match s with
  | .FunctionDef _ _ b _ _ _ _ _ _ _=>b
  |_=>[]
abbrev jw (s:Stmt):Scope:=match s with
  | .FunctionDef _ _ _ _ _ _ sc _ _ _=>sc
  |_=>{ kind:=.function,names:=[],isGenerator:=false,isCoroutine:=false }
end L2
namespace My
open PySem L2 PySem.W
abbrev top (i:Nat):Stmt:=PySem.Challenge.pw_haulbell_k94_no_states.main.body.getD i (.Pass ⟨0,0,0,0⟩)
abbrev tq (i j:Nat):Stmt:=inClass (top i) j
/-- the top's run on a tree -/
abbrev gH (tb:String->Option Builtin)(p:Program)(w:World)(m:Nat)(ann:Option Value):Nat->SharedT->Thread->Option SharedT
  |0,_,_=>none
  |n+1,s,t=>match through t with
    |true=>some s
    |false=>match stepOk m ann t with
      |false=>none
      |true=>match stepT (denote tb) p w s t with
        |some r=>gH tb p w m ann n r.1 r.2
        |none=>none
def l5 {tb:String->Option Builtin}{p:Program}{w:World}{m:Nat}{ann:Option Value}:∀ {n:Nat}{s s':SharedT}{t:Thread},gH tb p w m ann n s t=some s'->topRun tb p w m ann n s.abs t=some s'.abs
  |0,_,_,_,h=>by cases h
  |n+1,s,s',t,h=>by
    unfold gH at h;unfold topRun;cases a:through t
    · rw[a]at h;dsimp only at h⊢
      cases b:stepOk m ann t
      · rw[b]at h;cases h
      · rw[b]at h;dsimp only at h⊢
        cases c:stepT (denote tb) p w s t with
        |none=>rw[c]at h;cases h
        |some r=>rw[c]at h;rw[stepT_spec c];exact l5 h
    · rw[a]at h;cases h;rfl
abbrev AS:Nat->BT->List Obj->BT
  |_,t,[]=>t
  |n,t,o::os=>AS (n+1) (t.ins n o) os
abbrev qq (P:Params):BT:=AS 0 .nil (boot_heap P).objs.toList
abbrev AO (P:Params)(os:OsState):SharedT:=⟨qq P,11,(boot_heap P).life,Array.mk [],boot_drawn,boot_toks,os⟩
def oO {p q:Program}{loose:List Str}{Xt:Shared->Bool}{α:Type}{Yf:Shared->α}{Ya:World->α}{N:Nat}(e:opening p=plainProg p.main.scope.names)(hN:Nat.ble 600 N=true)(f:∀ s,fenceModules? p s=some s)
    (h0:∀ P,absHeap (qq P) 11 (boot_heap P).life=boot_heap P) (h1:∀ P,((boot_heap P).isNs mainGlobals,(boot_heap P).objs.size,(boot_heap P).nsMap mainGlobals "__annotations__")=(true,11,some (.ref 6)))
    (run:∀ (w:World) (os:OsState),(gH treeTable p w 11 (some (.ref 6)) N (AO w.params os) (topStub p)).map (λs=>(staticsOk (importedModules p.main.body) (boot_heap w.params) s.abs.heap&&namesBound p s.abs.heap&&gensDone s.abs&&laidKept (boot_heap w.params) s.abs.heap,
      openSeen q loose (importedModules p.main.body) Xt true s.abs,Yf s.abs))=some (true,openGood q loose,Ya w)):LeftO p q loose Xt Yf Ya N:=λw=>by
  obtain⟨⟨hp,gs,d,k,os⟩,e1,e2⟩:=lw.mp (boot_open e hN f w);obtain⟨rfl,rfl,rfl,rfl⟩:hp=boot_heap w.params/\gs=Array.mk []/\d=boot_drawn/\k=boot_toks:=by simpa using e2
  obtain⟨z1,z2,z3⟩:_/\_/\_:=by simpa only [Prod.mk.injEq] using h1 w.params
  obtain⟨s,r,l⟩:=lw.mp (run w os);obtain⟨l1,l2,l3⟩:_/\_/\_:=by simpa only [Prod.mk.injEq] using l
  have r1:=l5 r;have a0:(AO w.params os).abs=⟨boot_heap w.params,Array.mk [],boot_drawn,boot_toks,os⟩:=by
    show(⟨absHeap (qq w.params) 11 (boot_heap w.params).life,Array.mk [],boot_drawn,boot_toks,os⟩:Shared)=_;rw[h0]
  rw[a0]at r1;unfold openEnds;rw[e1];have t:topFrom treeTable p w N ⟨boot_heap w.params,Array.mk [],boot_drawn,boot_toks,os⟩=some s.abs:=by
    unfold topFrom;dsimp only;rw[z1,z2,z3,r1];show(match staticsOk (importedModules p.main.body) (boot_heap w.params) s.abs.heap&&namesBound p s.abs.heap&&gensDone s.abs&&laidKept (boot_heap w.params) s.abs.heap with|true=>some s.abs|false=>none)=some s.abs;rw[l1]
  show(topFrom treeTable p w N _).map _=_;rw[t];exact congrArg some (Prod.ext l2 l3)
abbrev AG:List Addr:=2::3::30::31::47::48::50::51::66::67::69::70::85::86::88::89::104::105::107::108::123::124::126::127::135::136::142::143::144::150::151::157::158::159::163::164::170::171::175::176::189::190::196::197::203::204::245::246::259::260::264::265::271::272::278::279::281::282::290::291::297::298::304::305::311::312::318::319::323::324::330::331::335::336::340::341::347::348::352::353::359::360::366::367::373::374::380::381::[]
abbrev Bm:List Addr:=48::67::86::105::124::136::143::151::158::164::171::176::190::197::204::246::260::265::272::279::291::298::305::312::319::324::331::336::341::348::353::360::367::374::381::[]
abbrev BV:List Addr:=[31,51,70,89,108,127,282]
abbrev runK (tb:String->Option Builtin)(p:Program)(w:World)(m:Nat)(ann:Option Value):Nat->SharedT->Thread->Option (SharedT×Thread)
  |0,s,t=>some (s,t)
  |n+1,s,t=>match through t with
    |true=>none
    |false=>match stepOk m ann t with
      |false=>none
      |true=>match stepT (denote tb) p w s t with
        |some r=>runK tb p w m ann n r.1 r.2
        |none=>none
def dX {tb:String->Option Builtin}{p:Program}{w:World}{m:Nat}{ann:Option Value}{k:Nat}:∀ {n:Nat}{s:SharedT}{t:Thread}{r:SharedT×Thread},runK tb p w m ann n s t=some r->gH tb p w m ann (n+k) s t=gH tb p w m ann k r.1 r.2
  |0,s,t,r,h=>by
    rw[Nat.zero_add];cases h
    rfl
  |n+1,s,t,r,h=>by
    rw[Nat.succ_add];unfold runK at h;conv=>lhs;unfold gH
    cases a:through t
    · rw[a]at h;dsimp only at h⊢
      cases b:stepOk m ann t
      · rw[b]at h;cases h
      · rw[b]at h;dsimp only at h⊢
        cases c:stepT (denote tb) p w s t with
        |none=>rw[c]at h;cases h
        |some r=>rw[c]at h;exact dX h
    · rw[a]at h;cases h
abbrev kT (x y:Str)(s:Stmt):Obj:=⟨.none,none,.func { name:=x,qualname:=y,params:=lY s,body:=.stmts (mv s),scope:=jw s,globals:=builtinsNs,closure:=[],defaults:=.none,kwdefaults:=.none },#[]⟩
abbrev bo (P:Params)(i:Nat):Obj:=(boot_heap P).objs.toList.getD i ⟨.none,none,.plain,#[]⟩
abbrev d9 (p:Program):Env:={ scope:=p.main.scope,locals:=mainNs,globals:=mainNs,cells:=[],code:=.ref 13,frame:=some 14 }
abbrev Cb:Frame:=.ret (λx=>Sem.bind (match x with| .ok f=>Sem.pure f| .error e=>Sem.raise e) (λ_=>ret .none)) none false [] (.builtin "claim.caller" {}) default []
abbrev tQ (p:Program)(X:List Stmt):Sem Fin:=Sem.bind (Sem.onRaise (execs X (d9 p)) (leaving (d9 p))) (λa=>Sem.pure (Fin.done a))
abbrev qH (p:Program)(X:List Stmt)(q:Pos):Thread:=⟨tQ p X,.body (ac p) (d9 p),q,[Cb]⟩
def pE {tb:String->Option Builtin}{p:Program}(h:blockStart (ac p) (d9 p)=Sem.pure ()):denote tb (.body (ac p) (d9 p))=tQ p (ac p):=by
  show Sem.bind (blockStart (ac p) (d9 p)) (λ_=>tQ p (ac p))=_;rw[h]
  rfl
abbrev o0:Obj:=⟨.type "tuple",none,.seq #[] 0,#[]⟩
abbrev oN:Obj:=⟨.none,none,.fields #[],#[]⟩
abbrev oL:List Str->Nat->List Value
  | [],_=>[]
  |x::r,t=>.str x t::oL r (t+1)
abbrev oS (l:List Str)(t:Nat):Obj:=⟨.type "tuple",none,.seq (Array.mk (oL l t)) 0,#[]⟩
abbrev Co (l:List (Int×Nat)):Array Value:=(l.flatMap λp=>[.int p.1 0,.int 0 0,.ref p.2]).toArray
abbrev Ck:List (Int×Nat):=[(1,20),(5,27),(7,40),(12,59),(18,78),(23,97),(28,116),(35,135),(37,142),(41,150),(43,157),(57,163),(64,170),(66,175),(70,182),(126,290),(132,297),(138,304),(144,311),(160,318),(169,323),(177,330),(185,335),(192,340),(215,347),(224,352),(231,359),(235,366),(242,373)]
abbrev oI (l c a:Nat):Obj:=⟨.none,none,.fields #[.int l 0,.int c 0,.ref a],#[]⟩
abbrev oK (x:Str)(t l r:Nat):Obj:=⟨.type "code",none,.fields #[.str x t,.str x (t+1),.str "/claim/cut.py" (t+2),.int l 0,.int 0 0,.int 0 0,.int 0 0,.int 0 0,.ref r,.bool false,.int 181 0,.ref (r+1),.none,.none,.none,.none,.int (t+3:Nat) 0,.int l 0,.str "/claim/cut.py" (t+4)],#[]⟩
abbrev oC (x y:Str)(t l n r u:Nat):Obj:=⟨.type "code",none,.fields #[.str x t,.str y (t+1),.str "/claim/cut.py" (t+2),.int l 0,.int n 0,.int 0 0,.int 0 0,.int 3 0,.ref r,.bool true,.int 181 0,.ref (r+1),.none,.ref (r+2),.ref (r+3),.ref (r+4),.int u 0,.int l 0,.str "/claim/cut.py" (u+1)],#[]⟩
abbrev oF (x y:Str)(s:Stmt)(m:Str)(t c:Nat)(d:Value:=.none):Obj:=⟨.type "function",none,.func (fnOf x y (lY s) (mv s) (jw s) d .none .none (.str m t) none (.ref c) .none),#[]⟩
abbrev oR (a b:Nat)(m:Str)(t:Nat):Obj:=⟨.type "frame",none,.plain,#[some (.ref a),some (.ref 3),some (.ref b),none,some (.str m t),none,some (.ref 0)]⟩
abbrev oX (x:Str)(b m:List Value)(n:Addr)(s:List Value)(r t u:Nat)(w:String):Obj:=⟨.type "type",none,.cls ⟨x,b,m,n,x,true,[],s,false,none,false⟩,#[some (.ref r),none,some (.str x t),some (.str x u),some (.builtin w),some (.bool true)]⟩
abbrev oU (a:Addr):Obj:=⟨.type "super",none,.fields #[.ref a,.ref a,.ref a],#[]⟩
abbrev oJ (a:Addr):Obj:=⟨.type "builtin_function_or_method",none,.fields #[.builtin "object.__init_subclass__",.ref a],#[]⟩
abbrev oP:Obj:=⟨.type "builtin_function_or_method",none,.fields #[.builtin "type.__prepare__",.type "type"],#[]⟩
abbrev oQ (a:Addr):Obj:=⟨.type "tuple",none,.seq #[.ref a] 0,#[]⟩
abbrev fG (x y:Str)(s:Stmt)(m:Str)(mt:Nat)(l:List Str)(t ln n a:Nat)(r:List Obj):List Obj:=o0::oN::oS l (t+3)::o0::kT x y s::oC x y t ln n a (t+3+l.length)::oF x y s m mt (a+5)::r
abbrev oW:List (Nat×Obj)->List Obj->List Obj
  | [],l=>l
  |x::r,l=>(oW r l).set x.1 x.2
abbrev eV (x:Str)(t:Tok)(v:Value)(P:Params):DictEntry:=⟨PyData.keyHash P x,.str x t,v⟩
abbrev eM (t:Nat)(m:Str)(u:Nat):Params->DictEntry:=eV "__module__" t (.str m u)
abbrev eQ (t:Nat)(m:Str)(u:Nat):Params->DictEntry:=eV "__qualname__" t (.str m u)
abbrev eF (t l u:Nat):Params->DictEntry:=eV "__firstlineno__" t (.int l u)
abbrev eS (t a:Nat):Params->DictEntry:=eV "__static_attributes__" t (.ref a)
abbrev eN (t:Nat):Params->DictEntry:=eV "__doc__" t .none
abbrev eR (x:Str)(t a:Nat):Params->DictEntry:=eV x t (.ref a)
abbrev oD (P:Params)(es:List (Params->DictEntry))(n:Nat):Obj:=⟨.type "dict",none,.dict (Array.mk (es.map λf=>f P)) n,#[]⟩
abbrev Cr (P:Params):List Obj:=
bo P 0::
bo P 1::
bo P 2::
bo P 3::
bo P 4::
bo P 5::
bo P 6::
bo P 7::
bo P 8::
bo P 9::
bo P 10::
o0::
oN::
oK "<module>" 182 1 11::
oR 13 3 "__main__" 164::[]
abbrev CG (x y:Str)(t l n r:Nat):Obj:=⟨.type "code",none,.fields #[.str x t,.str y (t+1),.str "/claim/cut.py" (t+2),.int l 0,.int n 0,.int 0 0,.int 0 0,.int 3 0,.ref r,.bool true,.int 181 0,.ref (r+1),.none,.none,.none,.ref (r+2),.int (t+3:Nat) 0,.int l 0,.str "/claim/cut.py" (t+4)],#[]⟩
abbrev oG (x b:String)(v:Value)(a t:Nat):Obj:=⟨.type "getset_descriptor",none,.fields #[.str (Str.ofString x) t,.ref a,.builtin b,v],#[]⟩
@[reducible]def Mt:Type:=Str×Str×List Str×Nat×Nat×List (Obj×Nat)
abbrev vK (a t:Nat)(s:Stmt)(m:Str×Nat)(x y:Str)(l:List Str)(ln n:Nat)(d:Value):List Obj:=match l with
  | []=>o0::oN::kT x y s::CG x y t ln n a::oF x y s m.1 m.2 (a+3) d::[]
  |_=>o0::oN::oS l (t+3)::o0::kT x y s::oC x y t ln n a (t+3+l.length)::oF x y s m.1 m.2 (a+5) d::[]
abbrev B3 (a t:Nat)(s:Stmt)(m:Str×Nat)(q:Mt):List Obj:=match q.2.2.2.2.2 with
  | []=>vK a t s m q.1 q.2.1 q.2.2.1 q.2.2.2.1 q.2.2.2.2.1 .none
  |d::_=>d.1::vK (a+1) (t+d.2) s m q.1 q.2.1 q.2.2.1 q.2.2.2.1 q.2.2.2.2.1 (.ref a)
abbrev uZ (q:Mt)(a:Nat):Nat:=match q.2.2.1 with
  | []=>a+5+q.2.2.2.2.2.length
  |_=>a+7+q.2.2.2.2.2.length
abbrev Au (q:Mt)(t:Nat):Nat:=match q.2.2.2.2.2 with
  | []=>t+6+q.2.2.1.length
  |d::_=>t+d.2+6+q.2.2.1.length
abbrev BZ (i:Nat)(m:Str×Nat):Nat->List Mt->Nat->Nat->(List Obj->Nat->Nat->List Obj)
  |_,[],_,_=>λr _ _=>r
  |j,q::l,a,t=>λr x y=>B3 a t (inClass (top i) j) m q++BZ i m (j+1) l (uZ q a) (Au q t) r x y
abbrev BU:List Mt->Nat->Nat
  | [],a=>a
  |q::l,a=>BU l (uZ q a)
abbrev B8:List Mt->Nat->Nat
  | [],a=>a
  |q::l,a=>B8 l (Au q a)
abbrev Cc:List Mt->Nat->Nat->List (Params->DictEntry)->List (Params->DictEntry)
  | [],_,_,r=>r
  |q::l,a,t,r=>eR q.1 (Au q t-1) (uZ q a-1)::Cc l (uZ q a) (Au q t) r
abbrev B4:List Mt->Nat->List Value
  | [],_=>[]
  |q::l,a=>.int q.2.2.2.1 0::.int 4 0::.ref (uZ q a-2)::B4 l (uZ q a)
@[reducible]def It:Type:=(Params->List Obj)×List (Params->DictEntry)×List Value
abbrev iF (a t i:Nat)(m:Str×Nat)(x:Str)(l:List Str)(ln n:Nat)(d:List (Obj×Nat):=[]):It:=(λ_=>B3 a t (top i) m (x,x,l,ln,n,d),eR x (Au (x,x,l,ln,n,d) t-1) (uZ (x,x,l,ln,n,d) a-1)::[],.int ln 0::.int 0 0::.ref (uZ (x,x,l,ln,n,d) a-2)::[])
abbrev iR (o:Params->List Obj):It:=(o,[],[])
abbrev iE (x:Str)(t:Nat)(v:Value):It:=(λ_=>[],[eV x t v],[])
abbrev iC (a T i:Nat)(m:Str×Nat)(x:Str)(ln:Nat)(ms:List Mt)(st:List Str)(sub:List Value:=[]) (br:Nat:=0) (mro:List Value:=[]) (w:String:=""):It:=
  let b:=BU ms (a+7)
  let s:=B8 ms (T+12)
  let e:=s+st.length
  let h (z:List (Params->DictEntry)):=eF (T+11) ln (T+10)::Cc ms (a+7) (T+12) (eS e b::z)
  let o (y:List (Params->DictEntry)) (z k:Obj) (n:Nat) (r:List Obj) (P:Params):List Obj:=z::oP::oD P (eM (T+7) m.1 m.2::eQ (T+9) x (T+8)::h []) (4+ms.length)::o0::⟨.none,none,.fields (Array.mk (B4 ms (a+7))),#[]⟩::oK x (T+2) ln (a+3)::oR (a+5) (a+2) m.1 m.2::BZ i m 0 ms (a+7) (T+12) ((match st with| []=>o0|_=>oS st s)::oD P (eM (T+7) m.1 m.2::h y) n::k::r) 0 0
  match br with
  |0=>(o [eR "__dict__" (e+2) (b+3),eR "__weakref__" (e+4) (b+4),eN (e+5)] o0 ⟨.type "type",none,.cls ⟨x,[.type "object"],[.ref (b+2),.type "object"],b+1,x,true,[],sub,false,none,false⟩,#[none,none,some (.str x T),some (.str x (T+8)),some (.builtin "object.__new__"),some (.bool true)]⟩ 4 [oG "__dict__" "function.__dict__" (.builtin "function.__dict__#set") (b+2) (e+1),oG "__weakref__" "ExceptionGroup.__weakref__" .none (b+2) (e+3),oU (b+2),oJ (b+2)],eR x (e+7) (b+2)::[],.int ln 0::.int 0 0::.ref (a+5)::[])
  |_=>(o [eN (e+1)] (oQ br) (oX x [.ref br] (.ref (b+2)::.ref br::mro) (b+1) sub a T (T+8) w) 2 [oU (b+2),oJ (b+2)],eR x (e+3) (b+2)::[],.int ln 0::.int 0 0::.ref (a+5)::[])
abbrev BS (P:Params)(nm:Str)(nt n:Nat)(l:List It):List Obj:=bo P 0::bo P 1::bo P 2::oD P (eV "__name__" 165 (.str nm nt)::eN 166::eV "__package__" 167 .none::eV "__loader__" 168 (.builtin "__main__.__loader__#opaque")::eV "__spec__" 169 .none::eR "__annotations__" 170 6::eR "__builtins__" 171 4::eV "__file__" 173 (.str "/claim/cut.py" 172)::eV "__cached__" 174 .none::l.flatMap (·.2.1)) n::bo P 4::bo P 5::bo P 6::bo P 7::bo P 8::bo P 9::bo P 10::o0::⟨.none,none,.fields (Array.mk (l.flatMap (·.2.2))),#[]⟩::oK "<module>" 182 1 11::oR 13 3 "__main__" 164::l.flatMap (·.1 P)
abbrev Cy:Str×Nat:=("__main__",164)
abbrev zW:Str×Nat:=("haulbell.errors",194)
abbrev BX:Str×Nat:=("haulbell.wholes",341)
abbrev Ca:Str×Nat:=("haulbell.boxes",359)
abbrev AI:Str×Nat:=("haulbell.reader",387)
abbrev B5:Str×Nat:=("haulbell.texts",551)
abbrev nX:Str×Nat:=("law_haulbell_k94_no_states",568)
abbrev zS (a T i:Nat)(m:Str×Nat)(x:Str)(ln:Nat)(ms:List Mt)(st:List Str)(sub:List Value:=[]):It:=iC a T i m x ln ms st sub 31 [.type "ValueError",.type "Exception",.type "BaseException",.type "object"] "ValueError.__new__"
abbrev yT:List It:=
iF 15 187 0 Cy "_wall" ["k"] 1 1::
iE "HaulError" 213 (.ref 31)::
iR (λP=>[⟨.type "tuple",none,.seq #[.type "ValueError"] 0,#[]⟩,oP,oD P [eM 203 "haulbell.errors" 194,eQ 205 "HaulError" 204,eF 207 5 206,eS 208 29] 4,o0,oN,oK "HaulError" 198 5 25,oR 27 24 "haulbell.errors" 194,o0,oD P [eM 203 "haulbell.errors" 194,eF 207 5 206,eS 208 29,eR "__weakref__" 210 32,eN 211] 3,oX "HaulError" [.type "ValueError"] [.ref 31,.type "ValueError",.type "Exception",.type "BaseException",.type "object"] 30 [.ref 51,.ref 70,.ref 89,.ref 108,.ref 127] 22 196 204 "ValueError.__new__",⟨.type "getset_descriptor",none,.fields #[.str "__weakref__" 209,.ref 31,.builtin "ExceptionGroup.__weakref__",.none],#[]⟩,oU 31,oJ 31])::
zS 35 214 3 zW "NoStore" 7 [("__init__","NoStore.__init__",["self","at"],9,2,[])] ["at"]::
zS 54 239 4 zW "NoFit" 12 [("__init__","NoFit.__init__",["self","box","number"],14,3,[])] ["box","number"]::
zS 73 266 5 zW "NoPlace" 18 [("__init__","NoPlace.__init__",["self","at"],20,2,[])] ["at"]::
zS 92 291 6 zW "NoText" 23 [("__init__","NoText.__init__",["self","at"],25,2,[])] ["at"]::
zS 111 316 7 zW "NoRow" 28 [("__init__","NoRow.__init__",["self","row"],30,2,[])] ["row"]::
iE "BOUND" 344 (.int 1000000000 343)::
iF 130 345 10 BX "is_whole" ["thing"] 35 1::
iF 137 352 11 BX "is_content" ["thing"] 37 1::
iE "NAMES" 367 (.ref 144)::
iR (λ_=>[oS ["here","there","left","way","sign","met"] 361])::
iF 145 368 14 Ca "is_number" ["thing"] 41 1::
iF 152 375 15 Ca "fits" ["box","thing"] 43 2::
iE "MOST_ROWS" 384 (.int 24 383)::
iE "MOST_CELLS" 386 (.int 60 385)::
iE "FIGURES" 390 (.str "0123456789" 389)::
iE "MOST_FIGURES" 392 (.int 10 391)::
iE "LEAVE_OF" 402 (.ref 159)::
iR (λP=>[oD P [eV "o" 393 (.str "open" 394),eV "l" 395 (.str "look" 396),eV "s" 397 (.str "shut" 398)] 3])::
iF 160 403 22 AI "is_written" [] 57 1::
iF 165 409 23 AI "number_of" ["word"] 64 1::
iF 172 416 24 AI "are_letters" [] 66 1::
iC 177 422 25 AI "Reader" 70 [("__init__","Reader.__init__",["self","text"],72,2,[]),("ahead","Reader.ahead",["self"],78,1,[]),("take","Reader.take",["self","stands","word"],81,2,[]),("skips","Reader.skips",["self","word"],88,2,[]),("take_word","Reader.take_word",["self","word"],91,2,[]),("take_any","Reader.take_any",["self"],94,1,[]),("take_name","Reader.take_name",["self"],97,1,[]),("take_box","Reader.take_box",["self"],100,1,[]),("take_number","Reader.take_number",["self","low","high","number"],103,3,[]),("take_any_number","Reader.take_any_number",["self"],108,1,[]),("take_fitting","Reader.take_fitting",["self","box","number"],111,2,[]),("take_leaves","Reader.take_leaves",[],116,1,[]),("ended","Reader.ended",["self"],119,1,[]),("finish","Reader.finish",["self"],122,1,[])] ["at","queue"]::
iF 287 553 27 B5 "state_from" [] 126 1::
iF 292 559 28 B5 "read_state" ["text","reader","told"] 132 1::
iF 299 570 30 nX "_law_hand" ["_law_script","_law_cells_here","_law_fold","_law_cell"] 138 1::
iF 306 580 31 nX "_law_draw" ["_law_hand_here","_law_many","_law_rest","_law_cell","_law_one","_law_two"] 144 2::
iF 313 592 32 nX "_law_content" ["_law_hand_here","_law_way"] 160 1::
iF 320 600 33 nX "_law_cells" [] 169 2::
iF 325 606 34 nX "_law_leaves" ["_law_hand_here","_law_many","_law_leaves_here","_law_k","_law_word","_law_low","_law_cell"] 177 2::
iF 332 619 35 nX "_law_number" [] 185 3::
iF 337 625 36 nX "_law_read" [] 192 1::
iF 342 631 37 nX "_law_told" ["_law_text","_law_found","e","_law_others"] 215 1::
iF 349 641 38 nX "_law_good" [] 224 1::
iF 354 647 39 nX "_law_other" ["_law_hand_here","_law_some"] 231 1::
iF 361 655 40 nX "_law_sign" ["_law_hand_here","_law_word","_law_signs","_law_way","_law_at"] 235 2::
iF 368 666 41 nX "_law_spoilt" ["_law_hand_here","_law_text","_law_way","_law_words","_law_at","_law_moved","_law_more"] 242 2::[]
abbrev Ct (P:Params):List Obj:=oW [(12,⟨.none,none,.fields (Co Ck),#[]⟩)] (BS P "law_haulbell_k94_no_states" 568 45 yT)
abbrev S0 (P:Params)(os:OsState):SharedT:=⟨AS 0 .nil (Cr P),15,(boot_heap P).life,Array.mk [],boot_drawn,187,os⟩
abbrev q0:Pos:=⟨0,0,0,0⟩
abbrev S1 (P:Params)(os:OsState):SharedT:=⟨AS 0 .nil (Ct P),375,(boot_heap P).life,Array.mk [],boot_drawn,679,os⟩
abbrev q1:Pos:=⟨242,0,265,31⟩
abbrev Cz (P:Params):List Obj:=BS P "law_haulbell_k94_no_states" 568 46 (yT++[iF 375 679 42 nX "law" (s0 7 "law") 266 1])
abbrev K0 (P:Params):PySem.W.Frag:=AG.map λa=>(a,(Cz P).getD a oN)
abbrev jJ (p:Program):Program:=PySem.W.view p [42]
abbrev qE:List Str:="_wall"::"HaulError"::"NoStore"::"NoFit"::"NoPlace"::"NoText"::"NoRow"::"BOUND"::"is_whole"::"is_content"::"NAMES"::"is_number"::"fits"::"MOST_ROWS"::"MOST_CELLS"::"FIGURES"::"MOST_FIGURES"::"LEAVE_OF"::"is_written"::"number_of"::"are_letters"::"Reader"::"state_from"::"read_state"::"_law_hand"::"_law_draw"::"_law_content"::"_law_cells"::"_law_leaves"::"_law_number"::"_law_read"::"_law_told"::"_law_good"::"_law_other"::"_law_sign"::"_law_spoilt"::[]
end My
open PySem PySem.W in
set_option maxHeartbeats 0 in
def My.yn (w:World)(os:OsState):My.runK treeTable My.pr w 11 (some (.ref 6)) 12 (My.AO w.params os) (topStub My.pr)=some (My.S0 w.params os,⟨denote treeTable (.body (ac My.pr) (My.d9 My.pr)),.body (ac My.pr) (My.d9 My.pr),default,[My.Cb]⟩):=by
  delta My.pr;rewrite[Fast.te2368527892694137696,Fast.te14364793385576792824]
  kernel_rfl
open PySem PySem.W in
set_option maxHeartbeats 0 in
def My.yj (w:World)(os:OsState)(B:List Stmt):My.runK treeTable My.pr w 11 (some (.ref 6)) 2864 (My.S0 w.params os) (My.qH My.pr (((ac My.pr).drop 0).take 42++B) My.q0)=some (My.S1 w.params os,My.qH My.pr B My.q1):=
  byRow2 (P:=λw=>My.runK treeTable My.pr w 11 (some (.ref 6)) 2864 (My.S0 w.params os) (My.qH My.pr (((ac My.pr).drop 0).take 42++B) My.q0)=some (My.S1 w.params os,My.qH My.pr B My.q1)) "special-get-raises"
   (λw=>by
    delta My.pr;rewrite[Fast.te2368527892694137696,Fast.te14364793385576792824]
    kernel_rfl)
   (λw=>by
    delta My.pr;rewrite[Fast.te2368527892694137696,Fast.te14364793385576792824]
    kernel_rfl) w
open PySem PySem.W in
set_option maxHeartbeats 0 in
def My.Aa:LeftO My.pr (My.jJ My.pr) My.qE (λs=>xlAt (My.jJ My.pr) [] s&&recOk PySem.Challenge.rw_haulbell_k94_no_states.row.records s) (λs=>My.AG.map s.heap.get?) (λw=>(My.K0 w.params).map λp=>some p.2) 5924:=by
  refine My.oO (by kernel_rfl) rfl (λ_=>by kernel_rfl) (λ_=>by kernel_rfl) (λ_=>by kernel_rfl) λw os=>?_
  have d:denote treeTable (.body (ac My.pr) (My.d9 My.pr))=My.tQ My.pr (ac My.pr):=My.pE (by kernel_rfl);have e:My.gH treeTable My.pr w 11 (some (.ref 6)) (12+(2864+(3048))) (My.AO w.params os) (topStub My.pr)=My.gH treeTable My.pr w 11 (some (.ref 6)) 3048 (My.S1 w.params os) (My.qH My.pr ((ac My.pr).drop 42) My.q1):=by
    rw[My.dX (My.yn w os)];dsimp only;rw[d];show My.gH treeTable My.pr w 11 (some (.ref 6)) _ (My.S0 w.params os) (My.qH My.pr ((ac My.pr).drop 0) My.q0)=_;rw[show(ac My.pr).drop 0=((ac My.pr).drop 0).take 42++(ac My.pr).drop 42 from by
      rw[show(ac My.pr).drop 42=((ac My.pr).drop 0).drop 42 by rw[List.drop_drop],List.take_append_drop],My.dX (My.yj w os _)]
  rw[show(5924:Nat)=12+(2864+(3048)) from rfl,e]
  delta My.pr;rewrite[Fast.te4187177175401517315,Fast.te5923862056798008813,Fast.te2368527892694137696,Fast.te14364793385576792824]
  kernel_rfl
set_option Elab.async false
open List(mem_range filterMap_cons mem_cons_self mem_cons_of_mem mem_cons mem_append mem_append_left getElem?_set_self getElem?_set_ne mem_append_right size_toArray any_eq_false length_cons map_cons length_map append_nil nodup_cons of_mem_zip length_take getElem?_map take_sublist mem_of_getElem? length_append length_drop length_set all_cons any_cons replicate_succ flatten_cons append_assoc foldl_cons length_singleton nil_append find?_cons length_nil forIn_cons forIn_nil getElem?_eq_getElem drop_zero lookup_cons length_range take_of_length_le length_eq_zero_iff all_eq_true not_mem_nil zip_cons_cons zip_append take_append_drop isEmpty_iff mem_singleton map_append length_pos_iff take_add_one sum_cons)
@[reducible]def CN:Type:=Unit->PySem.Shared->Prop
@[reducible]def CO:Type:=PySem.Value->PySem.Shared->Prop
@[reducible]def CP:Type:=List (PySem.Addr×PySem.Obj)
@[reducible]def CQ:Type:=PySem.Str->Option PySem.Value
namespace L2
open PySem PySem.Spec PyProof.Rows
@[reducible]def Key:=Sum Int Str
abbrev ik:Key->Value->Bool
 | .inl k,v=>Value.isInt k v
 | .inr x,v=>Value.isStrOf x v
abbrev Bi (w:World):Key->Int
 | .inl k=>hashInt k
 | .inr x=>hashStr w x
def ak:∀ {k:Key}{v:Value},ik k v=true->(∃ i t,k=Sum.inl i/\v=Value.int i t)\/(∃ x t,k=Sum.inr x/\v=Value.str x t)
 | .inl i,v,h=>by
  obtain⟨t,e⟩:=Value.isInt_shape (k:=i) (v:=v) h;exact .inl ⟨i,t,rfl,e⟩
 | .inr x,v,h=>by
  obtain⟨t,e⟩:=Value.isStrOf_shape (x:=x) (v:=v) h;exact .inr ⟨x,t,rfl,e⟩
def n5 (i:Int)(t:Tok):ik (.inl i) (.int i t)=true:=by simp[ik,Value.isInt]
def nY (x:Str)(t:Tok):ik (.inr x) (.str x t)=true:=by simp[ik,Value.isStrOf]
def wg (a b:Int):decide ((Sum.inl a:Key)=Sum.inl b)=(a ==b):=by
 by_cases e:a=b
 .subst e;simp
 .have h:¬ (Sum.inl a:Key)=Sum.inl b:=λq=>e (Sum.inl.inj q)
  rw[decide_eq_false h];exact(beq_eq_false_iff_ne.mpr e).symm
def xG (a b:Str):decide ((Sum.inr a:Key)=Sum.inr b)=decide (a=b):=by
 by_cases e:a=b
 .subst e;simp
 .have h:¬ (Sum.inr a:Key)=Sum.inr b:=λq=>e (Sum.inr.inj q)
  rw[decide_eq_false h,decide_eq_false e]
def we (a:Int)(b:Str):decide ((Sum.inl a:Key)=Sum.inr b)=false:=decide_eq_false (λq=>nomatch q)
def w6 (a:Str)(b:Int):decide ((Sum.inr a:Key)=Sum.inl b)=false:=decide_eq_false (λq=>nomatch q)
abbrev aq (prog:Program)(w:World):PySem.KeyKind prog w Key where
 is:=ik
 hash:=Bi w
 inj:=λv a b ha hb=>by
  rcases ak ha with⟨i,t,rfl,rfl⟩|⟨x,t,rfl,rfl⟩
  .rcases ak hb with⟨j,u,rfl,e⟩|⟨y,u,rfl,e⟩
   .injection e with e1 _;rw[e1]
   .exact nomatch e
  .rcases ak hb with⟨j,u,rfl,e⟩|⟨y,u,rfl,e⟩
   .exact nomatch e
   .injection e with e1 _;rw[e1]
 byValue:=λk v h=>by
  rcases ak h with⟨i,t,rfl,rfl⟩|⟨x,t,rfl,rfl⟩<;>rfl
 pyHash:=λhv h=>by
  rcases ak hv with⟨i,t,rfl,rfl⟩|⟨x,t,rfl,rfl⟩
  .exact wpAny_pyHash_int h
  .exact wpAny_pyHash_str h
 eqBool:=λhu hv h=>by
  rcases ak hu with⟨i,t,rfl,rfl⟩|⟨x,t,rfl,rfl⟩
  .rcases ak hv with⟨j,u,rfl,rfl⟩|⟨y,u,rfl,rfl⟩
   .rw[wg]at h;exact wpAny_eqBool_int h
   .rw[we]at h;exact SeqAt.EqAt.int_str i t y u _ _ _ _ h
  .rcases ak hv with⟨j,u,rfl,rfl⟩|⟨y,u,rfl,rfl⟩
   .rw[w6]at h;exact SeqAt.EqAt.str_int x t j u _ _ _ _ h
   .rw[xG]at h;exact wpAny_eqBool_str h
 «strs»:=λk x t v h=>by
  rcases ak h with⟨i,u,rfl,e⟩|⟨y,u,rfl,e⟩
  .exact nomatch e
  .injection e with e1 _
   subst e1;cases v<;>rfl
def kh (prog:Program)(w:World)(i:Int)(t:Tok):(aq prog w).is (.inl i) (.int i t)=true:=n5 i t
def kE (prog:Program)(w:World)(x:Str)(t:Tok):(aq prog w).is (.inr x) (.str x t)=true:=nY x t
inductive V where
 |non|bl (b:Bool)|int (i:Int)|str (x:Str)|byt (b:Array UInt8)|flt (b:UInt64)|ref (a:Addr)|ty (n:String)
 deriving DecidableEq
abbrev RelV:V->Value->Prop
 | .non,u=>u=Value.none
 | .bl b,u=>u=Value.bool b
 | .int i,u=>∃ t,u=Value.int i t
 | .str x,u=>∃ t,u=Value.str x t
 | .byt b,u=>∃ t,u=Value.bytes b t
 | .flt b,u=>∃ t,u=Value.float b t
 | .ref a,u=>u=Value.ref a
 | .ty n,u=>u=Value.type n
@[reducible]def Vals:List V->List Value->Prop:=Paired RelV
variable {xs:List V}{us:List Value}
def Vals.length (r:Vals xs us):xs.length=us.length:=Paired.length r
def Vals.get:∀ {xs:List V}{us:List Value}{i:Nat}{x:V},Vals xs us->xs[i]? =some x->∃ u,us[i]? =some u/\RelV x u
 |_,_,_,_,.nil,e=>by simp at e
 |_,_,0,_,.cons r _,e=>by simp at e;subst e;exact⟨_,rfl,r⟩
 |_,_,i+1,x,.cons _ t,e=>by
  obtain⟨u,h1,h2⟩:=Vals.get (i:=i) (x:=x) t (by simpa using e);exact⟨u,by simpa using h1,h2⟩
variable {u:Value}
def Vals.set {x:V}(r:RelV x u):∀ {xs:List V}{us:List Value}(i:Nat),Vals xs us->Vals (xs.set i x) (us.set i u)
 |_,_,_,.nil=>.nil
 |_,_,0,.cons _ t=>.cons r t
 |_,_,i+1,.cons q t=>.cons q (Vals.set r i t)
def Vals.append:∀ {xs ys:List V}{us ws:List Value},Vals xs us->Vals ys ws->Vals (xs++ys) (us++ws)
 |_,_,_,_,.nil,s=>s
 |_,_,_,_,.cons r t,s=>.cons r (Vals.append t s)
def Vals.take:∀ {xs:List V}{us:List Value}(n:Nat),Vals xs us->Vals (xs.take n) (us.take n)
 |_,_,0,_=>.nil
 |_,_,_+1,.nil=>.nil
 |_,_,n+1,.cons r t=>.cons r (Vals.take n t)
def Vals.drop:∀ {xs:List V}{us:List Value}(n:Nat),Vals xs us->Vals (xs.drop n) (us.drop n)
 |_,_,0,r=>r
 |_,_,_+1,.nil=>.nil
 |_,_,n+1,.cons _ t=>Vals.drop n t
abbrev bG:Option V->Option Value->Prop
 |some v,some u=>RelV v u
 |none,none=>True
 |_,_=>False
abbrev KV {κ:Type}:List (κ×V)->List (κ×Value)->Prop:=Paired λ(p:κ×V) (q:κ×Value)=>p.1=q.1/\RelV p.2 q.2
abbrev kV:Key->V
 | .inl i=>.int i
 | .inr x=>.str x
inductive HO where
  |lst (xs:List V)
  |tup (xs:List V)
  |dK (kvs:List (Key×V))|dT (kvs:List (List Key×V))
  |set (S:Int->Bool) (n:Nat)
  |ins (C dx:Addr) (fs:List (Str×V))
  |own (x:Addr)
  |exc (C:Addr) (dx:Option Addr) (fs:List (Str×V)) (fr:Bool)
  |xd (fs:List (Str×V))
  |met (f x:Addr)
  |rng (lo hi:Int)
  |fL (o:Obj) (u:HO)
  |tbl (ps:Array Value)
  |ext (φ:Heap->Prop)
@[reducible]def Hp:=Addr->Option HO
abbrev upd (H:Hp)(a:Addr)(o:HO):Hp:=λb=>if b=a then some o else H b
variable {H:Hp}{a:Addr}{o:HO}
def ah:upd H a o a=some o:=by unfold upd;rw[if_pos rfl]
variable {b:Addr}
def ae (h:b≠a):upd H a o b=H b:=by unfold upd;rw[if_neg h]
def sV {u:HO}:upd (upd H a o) a u=upd H a u:=by
 funext b;unfold upd;split<;>rfl
def Ad {u:HO}(h:H a=some o)(h':H b=some u)(d:o≠u):a≠b:=by
 intro e;subst e;rw[h]at h';exact d (Option.some.inj h')
def a8 (h:H a=some o)(h':H b=none):a≠b:=by
 intro e;subst e;rw[h]at h';cases h'
section
variable (P:Program) (w:World)
abbrev ai (H:Hp)(h:Heap)(a:Addr):HO->Prop
 | .lst xs=>xs.length<=bn/\∃ (its:List Value) (n:Nat),Vals xs its/\h.get? a=some { cls:=.type "list",data:=.seq its.toArray n }
 | .tup xs=>xs.length<=bn/\∃ its:List Value,Vals xs its/\IsTup h a its.toArray
 | .dK kvs=>kvs.length<=bn/\(a ==sysModules)=false/\∃ vs,KV kvs vs/\h.DictOf (aq P w) a vs
 | .dT kvs=>kvs.length<=bn/\(a ==sysModules)=false/\∃ xs:List (List Key×Addr×Value),
   Paired (λ(p:List Key×V) (q:List Key×Addr×Value)=>p.1=q.1/\H q.2.1=some (.tup (p.1.map kV))/\RelV p.2 q.2.2) kvs xs/\
   ∃ o es ep,h.get? a=some o/\o.ExactDict/\o.data=.dict es ep/\es.toList=xs.map (entryOfKey (tupleKind (aq P w)))/\(xs.map (·.1)).Nodup
 | .set S n=>h.SetOf (intKind P w) a S n
 | .ins C dx fs=>H dx=some (.own a)/\fs.length<=1000/\dx≠a/\h.get? a=some (W.instObj C dx)/\
   ∃ mA,h.Ns1 dx mA/\(∀ f,bG (fs.lookup f) (mA f))/\PySem.Within mA (fs.map (·.1))
 | .exc C dx fs fr=>(∃ vs,h.get? a=some { cls:=.ref C,dict:=dx,data:=.fields vs }/\vs.size=6/\(fr=true->vs[1]? =some Value.none))/\
   ((dx=none/\fs=[])\/∃ d,dx=some d/\H d=some (.own a)/\fs.length<=1000/\d≠a/\∃ mA,h.Ns1 d mA/\(∀ f,bG (fs.lookup f) (mA f))/\PySem.Within mA (fs.map (·.1)))
 | .own _=>∃ o,h.get? a=some o
 | .xd fs=>∃ mA,h.Ns1 a mA/\∀ f,bG (fs.lookup f) (mA f)
 | .rng lo hi=>∃ t u v,h.get? a=some { cls:=.type "range",data:=.fields #[.int lo t,.int hi u,.int 1 v] }
 | .fL o u=>h.get? a=some o/\ai H h a u
 | .tbl ps=>h.get? a=some { cls:=.none,data:=.fields ps }
 | .met f x=>h.get? a=some (W.methodObj (.ref f) (.ref x))
 | .ext φ=>φ h/\(∃ o,h.get? a=some o)/\∀ h1 h2:Heap,φ h1->(∀ o,h1.get? a=some o->h2.get? a=some o)->φ h2
abbrev dc (H:Hp)(h:Heap):Prop:=∀ a o,H a=some o->ai P w H h a o
end
section
variable {P:Program}{w:World}{H H':Hp}{h h':Heap}{a:Addr}{o:HO}
def ai.lt (x:ai P w H h a o):a<h.objs.size:=by
 cases o with
 |lst xs=>obtain⟨_,_,_,_,e⟩:=x;exact sw e
 |tup xs=>obtain⟨_,_,_,p⟩:=x;exact p.lt
 |dK kvs=>obtain⟨_,_,_,_,o,_,_,e,_⟩:=x;exact sw e
 |dT kvs=>obtain⟨_,_,_,_,o,_,_,e,_⟩:=x;exact sw e
 |set S n=>obtain⟨o,_,_,_,e,_⟩:=x;exact sw e
 |ins C dx fs=>obtain⟨_,_,_,e,_⟩:=x;exact sw e
 |exc C dx fs fr=>obtain⟨⟨_,e,_⟩,_⟩:=x;exact sw e
 |own y=>obtain⟨_,e⟩:=x;exact sw e
 |xd fs=>obtain⟨_,⟨_,_,_,e,_⟩,_⟩:=x;exact sw e
 |rng lo hi=>obtain⟨_,_,_,e⟩:=x;exact sw e
 |fL ob u=>obtain⟨e,_⟩:=x;exact sw e
 |tbl ps=>exact sw (show h.get? a=some _ from x)
 |met f y=>exact sw (show h.get? a=some _ from x)
 |ext φ=>obtain⟨_,⟨_,e⟩,_⟩:=x;exact sw e
def Paired.xS {α β:Type}{F G:α->β->Prop}:∀ {l₁:List α}{l₂:List β},Paired F l₁ l₂->(∀ a b,F a b->G a b)->Paired G l₁ l₂
 |_,_,.nil,_=>.nil
 |_,_,.cons r t,f=>.cons (f _ _ r) (Paired.xS t f)
def ai.cW (x:ai P w H h a o)(k:∀ b u,(b=a\/H b=some (.own a))->h.get? b=some u->h'.get? b=some u)
  (ho:∀ b,H b=some (.own a)->H' b=some (.own a)) (ht:∀ b xs,H b=some (.tup xs)->H' b=some (.tup xs)):ai P w H' h' a o:=by
 induction o with
 |lst xs=>obtain⟨z,its,n,r,e⟩:=x;exact⟨z,its,n,r,k _ _ (.inl rfl) e⟩
 |tup xs=>obtain⟨z,its,r,ob,e,c⟩:=x;exact⟨z,its,r,ob,k _ _ (.inl rfl) e,c⟩
 |dK kvs=>obtain⟨z,y,vs,r,ob,es,ep,e,c⟩:=x;exact⟨z,y,vs,r,ob,es,ep,k _ _ (.inl rfl) e,c⟩
 |dT kvs=>
  obtain⟨z,y,xs,r,ob,es,ep,e,c⟩:=x;exact⟨z,y,xs,Paired.xS r λp q z=>⟨z.1,ht _ _ z.2.1,z.2.2⟩,ob,es,ep,k _ _ (.inl rfl) e,c⟩
 |set S n=>obtain⟨ob,es,ep,t,e,c⟩:=x;exact⟨ob,es,ep,t,k _ _ (.inl rfl) e,c⟩
 |ins C dx fs=>
  obtain⟨d,z,ne,e,mA,⟨od,es,ep,e2,c⟩,r⟩:=x;exact⟨ho _ d,z,ne,k _ _ (.inl rfl) e,mA,⟨od,es,ep,k _ _ (.inr d) e2,c⟩,r⟩
 |exc C dx fs fr=>
  obtain⟨⟨vs,e,z⟩,q⟩:=x;refine⟨⟨vs,k _ _ (.inl rfl) e,z⟩,?_⟩;rcases q with q|⟨d,ed,d1,z1,ne,mA,⟨od,es,ep,e2,c⟩,r⟩
  .exact .inl q
  .exact .inr ⟨d,ed,ho _ d1,z1,ne,mA,⟨od,es,ep,k _ _ (.inr d1) e2,c⟩,r⟩
 |own y=>obtain⟨ob,e⟩:=x;exact⟨ob,k _ _ (.inl rfl) e⟩
 |xd fs=>obtain⟨mA,⟨od,es,ep,e,c⟩,r⟩:=x;exact⟨mA,⟨od,es,ep,k _ _ (.inl rfl) e,c⟩,r⟩
 |rng lo hi=>obtain⟨t,u,v,e⟩:=x;exact⟨t,u,v,k _ _ (.inl rfl) e⟩
 |fL ob u ih=>obtain⟨e,q⟩:=x;exact⟨k _ _ (.inl rfl) e,ih q⟩
 |tbl ps=>
  have e:h.get? a=some { cls:=.none,data:=.fields ps }:=x;show h'.get? a=some { cls:=.none,data:=.fields ps };exact k a _ (.inl rfl) e
 |met f y=>
  have e:h.get? a=some (W.methodObj (.ref f) (.ref y)):=x;show h'.get? a=some (W.methodObj (.ref f) (.ref y));exact k a _ (.inl rfl) e
 |ext φ=>obtain⟨p,⟨o,e⟩,st⟩:=x;exact⟨st _ _ p λo q=>k _ _ (.inl rfl) q,⟨o,k _ _ (.inl rfl) e⟩,st⟩
def dc.lt (x:dc P w H h)(e:H a=some o):a<h.objs.size:=(x a o e).lt
def dc.fresh (x:dc P w H h)(e:h.objs.size<=a):H a=none:=by
 cases q:H a with
 |none=>rfl
 |some u=>exact absurd (mo (x.lt q) e) (Nat.lt_irrefl _)
def dc.kept (x:dc P w H h)(k:∀ b u,h.get? b=some u->h'.get? b=some u):dc P w H h':=λa o e=>
 (x a o e).cW (λb u _ q=>k b u q) (λ_ q=>q) λ_ _ q=>q
def dc.laid (x:dc P w H h)(k:∀ b u,h.get? b=some u->h'.get? b=some u) (hp:h.objs.size<=a) (new:ai P w (upd H a o) h' a o):dc P w (upd H a o) h':=λb u e=>by
 have hn:=x.fresh hp
 by_cases hb:b=a
 .subst hb;rw[ah]at e;cases e;exact new
 .rw[ae hb]at e;exact(x b u e).cW (λc v _ q=>k c v q) (λc q=>by rw[ae (a8 q hn)];exact q) λc xs q=>by rw[ae (a8 q hn)];exact q
end
abbrev Rd (H:Hp)(a:Addr)(u:HO):Prop:=H a=some u\/∃ o,H a=some (.fL o u)
variable {P:Program}{w:World}{h:Heap}
def Rd.ok {u:HO}(r:Rd H a u)(x:dc P w H h):ai P w H h a u:=by
 rcases r with r|⟨o,r⟩
 .exact x a u r
 .obtain⟨_,q⟩:=x a _ r;exact q
abbrev zk:Option HO->Prop
 |some (.lst _)=>True
 |some (.dK _)=>True
 |some (.dT _)=>True
 |some (.set _ _)=>True
 |some (.ins _ _ _)=>True
 |some (.exc _ _ _ _)=>True
 |some (.ext _)=>True
 |_=>False
section
variable {P:Program}{w:World}{H:Hp}{h h':Heap}{x e:Addr}{o':HO}
def dc.write (ok:dc P w H h)(mu:zk (H x))(he:e=x\/H e=some (.own x))(k:∀ b u,b≠e->h.get? b=some u->h'.get? b=some u) (heo:∃ u,h'.get? e=some u)
  (new:ai P w (upd H x o') h' x o'):dc P w (upd H x o') h':=λb u q=>by
 have nown:∀ c y,H c=some (.own y)->c≠x:=λc y r z=>by subst z;rw[r]at mu;exact mu
 have ntup:∀ c xs,H c=some (.tup xs)->c≠x:=λc xs r z=>by subst z;rw[r]at mu;exact mu
 by_cases hb:b=x
 .subst hb;rw[ah]at q;cases q;exact new
 .rw[ae hb]at q
  by_cases hbe:b=e
  .have q':H b=some (.own x):=by
    rcases he with z|z
    .exact absurd (hbe.trans z) hb
    .rw[hbe];exact z
   rw[q]at q';cases q';obtain⟨v,hv⟩:=heo;exact⟨v,by rw[hbe];exact hv⟩
  .refine(ok b u q).cW (λc v hc r=>k c v ?_ r) (λc r=>by rw[ae (nown c b r)];exact r) λc xs r=>by rw[ae (ntup c xs r)];exact r
   rcases hc with rfl|hc
   .exact hbe
   .rintro rfl;rcases he with z|z
    .exact nown c b hc z
    .rw[hc]at z;cases z;exact hb rfl
end
structure Un (fs ex:List Addr) (H H':Hp) (h h':Heap):Prop where
 keep:∀ b o,h.get? b=some o->H b=none->b ∉ fs->b ∉ ex->h'.get? b=some o
 slot:∀ b o,h.get? b=some o->H b=none->b ∈ fs->b ∉ ex->∃ sl,h'.get? b=some { o with slots:=sl }
 free:∀ b o,h.get? b=some o->H b=none->b ∉ ex->H' b=none
 there:∀ b o,h.get? b=some o->b ∉ ex->∃ o',h'.get? b=some o'
 tups:∀ b xs,H b=some (.tup xs)->H' b=some (.tup xs)
 frzs:∀ b o u,H b=some (.fL o u)->H' b=some (.fL o u)
 tbls:∀ b ps,H b=some (.tbl ps)->∃ more,H' b=some (.tbl (ps++more))
section
variable {fs fs' ex ex':List Addr}{H H1 H2:Hp}{h h1 h2 h':Heap}{a x e:Addr}{o:HO}
def Un.any (u:Un fs ex H H1 h h1){ob:Obj}(q:h.get? b=some ob)(n:H b=none)(hx:b ∉ ex):∃ sl,h1.get? b=some { ob with slots:=sl }:=by
 by_cases hb:b ∈ fs
 .exact u.slot b ob q n hb hx
 .exact⟨ob.slots,u.keep b ob q n hb hx⟩
def Un.kept (k:∀ b u,h.get? b=some u->h'.get? b=some u):Un fs ex H H h h':=
 ⟨λb ob q _ _ _=>k b ob q,λb ob q _ _ _=>⟨ob.slots,k b ob q⟩,λ_ _ _ n _=>n,λb ob q _=>⟨ob,k b ob q⟩,λ_ _ q=>q,λ_ _ _ q=>q,λ_ ps q=>⟨#[],by rw[q];simp⟩⟩
def Un.refl:Un fs ex H H h h:=Un.kept λ_ _ q=>q
def Un.laid (k:∀ b u,h.get? b=some u->h'.get? b=some u) (hp:h.objs.size<=a) (hn:H a=none):Un fs ex H (upd H a o) h h' where
 keep:=λb u q _ _ _=>k b u q
 slot:=λb u q _ _ _=>⟨u.slots,k b u q⟩
 free:=λb u q n _=>by rw[ae (nl (mo (sw q) hp))];exact n
 there:=λb u q _=>⟨u,k b u q⟩
 tups:=λb xs q=>by rw[ae (a8 q hn)];exact q
 frzs:=λb u xs q=>by rw[ae (a8 q hn)];exact q
 tbls:=λb ps q=>⟨#[],by rw[ae (a8 q hn),q];simp⟩
def Un.write (mu:zk (H x))(he:e=x\/H e=some (.own x))(k:∀ b u,b≠e->h.get? b=some u->h'.get? b=some u) (heo:∃ u,h'.get? e=some u):Un fs ex H (upd H x o) h h':=by
 have hx:∀ b,H b=none->b≠x:=λb n z=>by subst z;rw[n]at mu;exact mu
 have hb:∀ b,H b=none->b≠e:=λb n z=>by
  subst z;rcases he with r|r
  .exact hx b n r
  .rw[n]at r;cases r
 have hm:∀ b u,H b=some u->¬ zk (some u)->b≠x:=λb u q nm z=>by subst z;rw[q]at mu;exact nm mu
 refine⟨λb u q n _ _=>k b u (hb b n) q,λb u q n _ _=>⟨u.slots,k b u (hb b n) q⟩,λb u q n _=>by rw[ae (hx b n)];exact n,λb u q _=>?_,
  λb xs q=>by rw[ae (hm b _ q λz=>z)];exact q,λb u xs q=>by rw[ae (hm b _ q λz=>z)];exact q,λb ps q=>⟨#[],by rw[ae (hm b _ q λz=>z),q];simp⟩⟩
 by_cases hbe:b=e
 .subst hbe;exact heo
 .exact⟨u,k b u hbe q⟩
end
abbrev u9 (h:Heap)(H:Hp):List Addr:=(List.range h.objs.size).filter λa=>(H a).isSome
abbrev jr (h:Heap)(H:Hp):Heap:=W.hideAll h (u9 h H)
def n6 (h:Heap)(H:Hp):(jr h H).objs.size=h.objs.size:=W.hideAll_size _ _
def rA {o:Obj}(e:h.get? b=some o)(n:H b=none):(jr h H).get? b=some o:=
 W.hideAll_get _ e λhm=>by
  have q:(H b).isSome=true:=(List.mem_filter.mp hm).2;rw[n]at q;simp at q
def tU {o:Obj}(e:(jr h H).get? b=some o):h.get? b=some o/\H b=none:=by
 have e':h.get? b=some o:=W.of_hideAll (u9 h H) e;refine⟨e',?_⟩;cases q:H b with
 |none=>rfl
 |some x=>
  have hm:b ∈ u9 h H:=List.mem_filter.mpr ⟨mem_range.mpr (sw e'),by simp[q]⟩;have z:(jr h H).get? b=none:=W.hideAll_none (u9 h H) hm;rw[z]at e;cases e
structure Mod (K:W.Frag) (mg:CQ) (base:Heap):Prop where
 kin:K.In base
 glob:base.Ns mainGlobals mg
 blt:∃ mb,base.Ns builtinsNs mb/\∀ x:Str,x≠"__name__"->mb x=bootBuiltins x
 nolimit:base.NoLimit
/-- the context:a def's body (or a comprehension's block) running. base:fixed through the whole law;s₀,H₀:the entry;outer:the frames whose slots others may change (a def's callers);stack:all frames that run;
  ex:iterators that were made ahead of the entry and are walked here (a comprehension's);fn:the names whose cells were made at the entry (a def:all;a comprehension's block:its own);calm:not within an except aF;pn:Y that every state bears;xe:what is wanted of an exception that leaves the code -/
structure Cx where
 prog:Program
 w:World
 K:W.Frag
 mg:Str->Option Value
 base:Heap
 A:Around
 N:List Str
 s₀:Shared
 H₀:Hp
 env:Env
 outer:List Env
 stack:List Env
 ex:List Addr
 fn:Str->Bool
 calm:Bool
 pn:List (Addr×Obj)
 xe:Value->Shared->Prop
abbrev iH (l:List Env):List Addr:=l.filterMap (·.frame)
noncomputable abbrev Cx.fs (X:Cx):List Addr:=iH X.outer
abbrev AX (sc:Scope)(x:Str):Prop:=sc.names.lookup x=some .local\/sc.names.lookup x=some .cell\/sc.names.lookup x=some .free
abbrev Loc (sc:Scope)(x:Str):Prop:=sc.names.lookup x=some .local\/sc.names.lookup x=some .cell
abbrev Look (env:Env)(h:Heap)(m:CQ)(x:Str)(u:Value):Prop:=
 (env.kindOf x=some .local/\m x=some u)\/((env.kindOf x=some .cell\/env.kindOf x=some .free)/\∃ c,env.cells.lookup x=some c/\h.IsCell c (some u))
structure Cx.Ok (X:Cx):Prop where
 mod:Mod X.K X.mg X.base
 kind:X.env.scope.kind=.function
 glob:X.env.globals=mainGlobals
 blt:X.env.builtins=builtinsNs
 above:X.s₀.heap.objs.size<=X.env.locals
 inj:∀ x y c,X.env.cells.lookup x=some c->X.env.cells.lookup y=some c->x=y
 has:∀ x,(X.env.kindOf x=some .cell\/X.env.kindOf x=some .free)->∃ c,X.env.cells.lookup x=some c
 cab:∀ x c,X.fn x=true->X.env.cells.lookup x=some c->X.s₀.heap.objs.size<=c
 hd:X.calm=true->X.A.handled=none
 frames:X.A.frames=some X.stack
 stk:X.stack=X.outer\/(X.stack=X.env::X.outer/\X.env.frame=some X.env.locals)
 exf:∀ b ∈ X.ex,b≠X.env.locals/\∀ x c,X.env.cells.lookup x=some c->c≠b
 bs:∀ b o,X.base.get? b=some o->X.s₀.heap.get? b=some o/\X.H₀ b=none
 bsz:X.base.objs.size<=X.s₀.heap.objs.size
 noex:∀ b o,X.base.get? b=some o->b ∉ X.ex
 exfs:∀ b ∈ X.ex,b ∉ X.fs
 eJ:X.s₀.heap.FunFrames X.base X.outer
 frf:∀ b ∈ X.fs,X.H₀ b=none
structure Inv (X:Cx) (Y:CP) (U:List (Option V)) (H:Hp) (s:Shared):Prop where
 ok:X.Ok
 os:s.os=X.s₀.os
 bare:AllBare s.gens
 base:Un X.fs X.ex X.H₀ H X.s₀.heap s.heap
 loc:∃ m,s.heap.Ns X.env.locals m/\∀ (i:Nat) (x:Str) (v:V),X.N[i]? =some x->U[i]? =some (some v)->AX X.env.scope x->∃ u,RelV v u/\Look X.env s.heap m x u
 cell:∀ x c,X.env.cells.lookup x=some c->∃ v,s.heap.IsCell c v
 free:H X.env.locals=none
 freeC:∀ x c,X.env.cells.lookup x=some c->H c=none
 pin:∀ p ∈ X.pn++Y,s.heap.get? p.1=some p.2/\H p.1=none/\p.1≠X.env.locals/\p.1 ∉ X.fs/\∀ v,p.2.data≠.cell v
 hok:dc X.prog X.w H s.heap
 len:U.length=X.N.length
variable {x:Str}{g':Array GenState}{ch:List Addr}{i:Nat}{M:Model}{A:Around}{E:CO}{v:V}
section
variable {X:Cx}{Y:CP}{U:List (Option V)}{H H':Hp}{s:Shared}{h':Heap}
def Cx.Ok.Ba (ok:X.Ok){o:Obj}(e:X.base.get? b=some o):b ∉ X.fs:=λhb=>by
 have:=(ok.eJ.mem hb).1;rw[e]at this;cases this
def Inv.bs (I:Inv X Y U H s):∀ b o,X.base.get? b=some o->s.heap.get? b=some o/\H b=none:=λb o e=>
 ⟨I.base.keep b o (I.ok.bs b o e).1 (I.ok.bs b o e).2 (I.ok.Ba e) (I.ok.noex b o e),I.base.free b o (I.ok.bs b o e).1 (I.ok.bs b o e).2 (I.ok.noex b o e)⟩
def Inv.bk (I:Inv X Y U H s):∀ b o,X.base.get? b=some o->s.heap.get? b=some o:=λb o e=>(I.bs b o e).1
def Inv.mod (I:Inv X Y U H s):Mod X.K X.mg X.base:=I.ok.mod
def Inv.aR (I:Inv X Y U H s):X.K.In s.heap:=I.ok.mod.kin.keeps I.bk
def Inv.lt (I:Inv X Y U H s):X.env.locals<s.heap.objs.size:=let⟨_,hn,_⟩:=I.loc;hn.lt
def Inv.sz (I:Inv X Y U H s):X.s₀.heap.objs.size<=s.heap.objs.size:=Nat.le_trans I.ok.above (Nat.le_of_lt I.lt)
def Inv.AY (I:Inv X Y U H s)(h:s.heap.objs.size<=a):a ∉ X.fs:=λhb=>by
 obtain⟨_,o,ho,_⟩:=I.ok.eJ.mem hb;exact absurd (mo (sw ho) (Nat.le_trans I.sz h)) (Nat.lt_irrefl _)
def Inv.rQ (I:Inv X Y U H s):∀ x c,X.env.cells.lookup x=some c->c≠X.env.locals:=λx c e z=>by
 obtain⟨v,o,ho,hd⟩:=I.cell x c e;obtain⟨m,⟨o',es,ep,ho',hd',_⟩,_⟩:=I.loc;rw[z,ho']at ho;cases ho;rw[hd']at hd;cases hd
def Inv.eJ (I:Inv X Y U H s):s.heap.FunFrames X.base X.outer:=by
 have all:∀ (l:List Env),(∀ b ∈ iH l,b ∈ X.fs)->X.s₀.heap.FunFrames X.base l->s.heap.FunFrames X.base l:=by
  intro l
  induction l with
  |nil=>intro _ _;trivial
  |cons env r ih=>
   intro hs hl;obtain⟨hk,⟨L,o,hf,hn,ho,hd⟩,hr⟩:=hl;have hL:L ∈ X.fs:=hs L (by unfold iH;rw[filterMap_cons,hf];exact le);obtain⟨sl,e⟩:=I.base.slot L o ho (I.ok.frf L hL) hL λz=>I.ok.exfs L z hL
   exact⟨hk,⟨L,_,hf,hn,e,hd⟩,ih (λb hb=>hs b (by unfold iH;rw[filterMap_cons,hf];exact dl _ hb)) hr⟩
 exact all X.outer (λ_ hb=>hb) I.ok.eJ
def Inv.stack (I:Inv X Y U H s):s.heap.FunFrames X.base X.stack:=by
 rcases I.ok.stk with e|⟨e,hf⟩
 .rw[e];exact I.eJ
 .rw[e];obtain⟨m,hn,_⟩:=I.loc;refine .cons (by rw[I.ok.kind];decide) hf hn ?_ I.eJ;exact Heap.get?_none_of_le (Nat.le_trans I.ok.bsz I.ok.above)
def Inv.d5 (I:Inv X Y U H s):∀ b ∈ iH X.stack,b ∈ X.env.locals::X.fs:=λb hb=>by
 rcases I.ok.stk with e|⟨e,hf⟩
 .rw[e]at hb;exact dl _ hb
 .rw[e]at hb;unfold iH at hb;rw[filterMap_cons,hf]at hb;exact hb
def Inv.iX (I:Inv X Y U H s):∀ b ∈ iH X.stack,H b=none:=λb hb=>by
 rcases lf.mp (I.d5 b hb) with e|hb
 .rw[e];exact I.free
 .obtain⟨_,o,ho,_⟩:=I.ok.eJ.mem hb;exact I.base.free b o ho (I.ok.frf b hb) λz=>I.ok.exfs b z hb
def Inv.step {t':Nat}{d':Drawn}(I:Inv X Y U H s)
  (hch:∀ b ∈ ch,(b ∈ X.ex\/X.s₀.heap.objs.size<=b)/\b≠X.env.locals/\(∀ x c,X.env.cells.lookup x=some c->c≠b)/\∀ p ∈ X.pn++Y,p.1≠b)
  (keep:∀ b o,b≠X.env.locals->b ∉ X.fs->b ∉ ch->s.heap.get? b=some o->H b=none->h'.get? b=some o)
  (slot:∀ b o,b≠X.env.locals->b ∈ X.fs->b ∉ ch->s.heap.get? b=some o->H b=none->∃ sl,h'.get? b=some { o with slots:=sl }) (free:∀ b o,b ∉ ch->s.heap.get? b=some o->H b=none->H' b=none)
  (there:∀ b o,b ∉ ch->s.heap.get? b=some o->∃ o',h'.get? b=some o')
  (tups:∀ b xs,H b=some (.tup xs)->H' b=some (.tup xs)) (frzs:∀ b o u,H b=some (.fL o u)->H' b=some (.fL o u)) (tbls:∀ b ps,H b=some (.tbl ps)->∃ more,H' b=some (.tbl (ps++more)))
  (ns:∀ m,s.heap.Ns X.env.locals m->h'.Ns X.env.locals m) (hok:dc X.prog X.w H' h') (hg:AllBare g'):
  Inv X Y U H' { s with heap:=h',gens:=g',drawn:=d',toks:=t' }:=by
 have neL:∀ b o,X.s₀.heap.get? b=some o->b≠X.env.locals:=λb o e=>nl (mo (sw e) I.ok.above)
 have neC:∀ b o,X.s₀.heap.get? b=some o->b ∉ X.ex->b ∉ ch:=λb o e hx hb=>by
  rcases(hch b hb).1 with z|z
  .exact hx z
  .exact absurd (mo (sw e) z) (Nat.lt_irrefl _)
 have cellK:∀ x c,X.env.cells.lookup x=some c->∀ v,s.heap.IsCell c v->h'.IsCell c v:=λx c e v ⟨o,ho,hd⟩=>by
  have nch:c ∉ ch:=λz=>(hch c z).2.2.1 x c e rfl
  by_cases hc:c ∈ X.fs
  .obtain⟨sl,q⟩:=slot c o (I.rQ x c e) hc nch ho (I.freeC x c e);exact⟨_,q,hd⟩
  .exact⟨o,keep c o (I.rQ x c e) hc nch ho (I.freeC x c e),hd⟩
 refine⟨I.ok,I.os,hg,⟨λb o e n hb hx=>?_,λb o e n hb hx=>?_,λb o e n hx=>?_,λb o e hx=>?_,λb xs e=>tups b xs (I.base.tups b xs e),λb o xs e=>frzs b o xs (I.base.frzs b o xs e),λb ps e=>?_⟩,?_,λx c e=>?_,?_,λx c e=>?_,λp hp=>?_,hok,I.len⟩
 .exact keep b o (neL b o e) hb (neC b o e hx) (I.base.keep b o e n hb hx) (I.base.free b o e n hx)
 .obtain⟨sl,e1⟩:=I.base.slot b o e n hb hx;obtain⟨sl',e2⟩:=slot b _ (neL b o e) hb (neC b o e hx) e1 (I.base.free b o e n hx);exact⟨sl',e2⟩
 .obtain⟨o',e1⟩:=I.base.there b o e hx;exact free b o' (neC b o e hx) e1 (I.base.free b o e n hx)
 .obtain⟨o',e1⟩:=I.base.there b o e hx;exact there b o' (neC b o e hx) e1
 .obtain⟨m1,e1⟩:=I.base.tbls b ps e;obtain⟨m2,e2⟩:=tbls b _ e1;exact⟨m1++m2,by rw[e2,Array.append_assoc]⟩
 .obtain⟨m,hn,hl⟩:=I.loc;refine⟨m,ns m hn,λi x v e1 e2 e3=>?_⟩;obtain⟨u,r,l⟩:=hl i x v e1 e2 e3;refine⟨u,r,?_⟩;rcases l with l|⟨k,c,e,z⟩
  .exact .inl l
  .exact .inr ⟨k,c,e,cellK x c e _ z⟩
 .obtain⟨v,z⟩:=I.cell x c e;exact⟨v,cellK x c e v z⟩
 .obtain⟨m,⟨o,_,_,ho,_⟩,_⟩:=I.loc;exact free _ o (λz=>(hch _ z).2.1 rfl) ho I.free
 .obtain⟨v,o,ho,hd⟩:=I.cell x c e;exact free c o (λz=>(hch c z).2.2.1 x c e rfl) ho (I.freeC x c e)
 .obtain⟨e,n,ne,nf,d⟩:=I.pin p hp;have nch:p.1 ∉ ch:=λz=>(hch p.1 z).2.2.2 p hp rfl
  exact⟨keep p.1 p.2 ne nf nch e n,free p.1 p.2 nch e n,ne,nf,d⟩
def Inv.un {t':Nat}(I:Inv X Y U H s)(u:Un X.fs [] H H' s.heap h')(hok:dc X.prog X.w H' h'):Inv X Y U H' { s with heap:=h',toks:=t' }:=by
 obtain⟨m,⟨o,es,ep,ho,r⟩,_⟩:=id I.loc;obtain⟨sl,hL⟩:=u.any ho I.free (by simp);exact I.step (g':=s.gens) (d':=s.drawn) (ch:=[]) (λ_ z=>nomatch z) (λb o _ hb _ e n=>u.keep b o e n hb (by simp)) (λb o _ hb _ e n=>u.slot b o e n hb (by simp)) (λb o _ e n=>u.free b o e n (by simp)) (λb o _ e=>u.there b o e (by simp)) u.tups u.frzs u.tbls (λm' hm=>by
  obtain⟨o',es',ep',ho',r'⟩:=hm;rw[ho]at ho';cases ho';exact⟨_,es',ep',hL,r'⟩) hok I.bare
def Inv.call {t':Nat}{d':Drawn}(I:Inv X Y U H s)(u:Un (iH X.stack) ch H H' s.heap h')(hok:dc X.prog X.w H' h')(hg:AllBare g')
  (hch:∀ b ∈ ch,(b ∈ X.ex\/X.s₀.heap.objs.size<=b)/\b≠X.env.locals/\(∀ x c,X.env.cells.lookup x=some c->c≠b)/\∀ p ∈ X.pn++Y,p.1≠b):
  Inv X Y U H' { s with heap:=h',gens:=g',drawn:=d',toks:=t' }:=by
 obtain⟨m,⟨o,es,ep,ho,r⟩,_⟩:=id I.loc;obtain⟨sl,hL⟩:=u.any ho I.free λz=>(hch _ z).2.1 rfl
 exact I.step (ch:=ch) hch (λb o hL hb hc e n=>u.keep b o e n (λz=>(lf.mp (I.d5 b z)).elim hL hb) hc) (λb o _ _ hc e n=>u.any e n hc) (λb o hc e n=>u.free b o e n hc) (λb o hc e=>u.there b o e hc) u.tups u.frzs u.tbls (λm' hm=>by
  obtain⟨o',es',ep',ho',r'⟩:=hm;rw[ho]at ho';cases ho';exact⟨_,es',ep',hL,r'⟩) hok hg
def Inv.turned {t':Nat}{it:Addr}(I:Inv X Y U H s)(k:∀ b o,b≠it->s.heap.get? b=some o->h'.get? b=some o) (hn:H it=none) (hL:it≠X.env.locals)
  (h1:it ∈ X.ex\/X.s₀.heap.objs.size<=it) (h2:∀ x c,X.env.cells.lookup x=some c->c≠it) (h3:∀ p ∈ X.pn++Y,p.1≠it):Inv X Y U H { s with heap:=h',toks:=t' }:=by
 have nit:∀ b u,H b=some u->b≠it:=λb u e z=>by rw[z,hn]at e;cases e
 refine I.step (g':=s.gens) (d':=s.drawn) (ch:=[it]) (λb hb=>?_) (λb o _ _ hc e _=>k b o (λz=>hc (by simp[z])) e) (λb o _ _ hc e _=>⟨o.slots,k b o (λz=>hc (by simp[z])) e⟩) (λ_ _ _ _ n=>n)
  (λb o hc e=>⟨o,k b o (λz=>hc (by simp[z])) e⟩) (λ_ _ e=>e) (λ_ _ _ e=>e) (λb ps e=>⟨#[],by rw[e];simp⟩) (λm hm=>?_) (λb u e=>?_) I.bare
 .have e:b=it:=by simpa using hb
  subst e;exact⟨h1,hL,h2,h3⟩
 .obtain⟨o,es,ep,ho,r⟩:=hm;exact⟨o,es,ep,k _ o (Ne.symm hL) ho,r⟩
 .refine(I.hok b u e).cW (λc v hc q=>k c v ?_ q) (λ_ q=>q) λ_ _ q=>q
  rcases hc with z|z
  .rw[z];exact nit b u e
  .exact nit c _ z
def Inv.tok (I:Inv X Y U H s)(t:Nat):Inv X Y U H { s with toks:=t }:=I.un (h':=s.heap) (t':=t) Un.refl I.hok
def Inv.kept {t':Nat}(I:Inv X Y U H s)(k:∀ b u,s.heap.get? b=some u->h'.get? b=some u):Inv X Y U H { s with heap:=h',toks:=t' }:=I.un (Un.kept k) (I.hok.kept k)
def Inv.laid {t':Nat}(I:Inv X Y U H s)(k:∀ b u,s.heap.get? b=some u->h'.get? b=some u) (hp:s.heap.objs.size<=a) (new:ai X.prog X.w (upd H a o) h' a o):
  Inv X Y U (upd H a o) { s with heap:=h',toks:=t' }:=I.un (Un.laid k hp (I.hok.fresh hp)) (I.hok.laid k hp new)
def Inv.write {x e:Addr}{t':Nat}(I:Inv X Y U H s)(mu:zk (H x))(he:e=x\/H e=some (.own x))(k:∀ b u,b≠e->s.heap.get? b=some u->h'.get? b=some u) (heo:∃ u,h'.get? e=some u)
  (new:ai X.prog X.w (upd H x o) h' x o):Inv X Y U (upd H x o) { s with heap:=h',toks:=t' }:=I.un (Un.write mu he k heo) (I.hok.write mu he k heo new)
def Inv.jk {pins':CP}(I:Inv X Y U H s)(h:∀ p ∈ pins',s.heap.get? p.1=some p.2/\H p.1=none/\p.1≠X.env.locals/\p.1 ∉ X.fs/\∀ v,p.2.data≠.cell v):Inv X pins' U H s:=
 ⟨I.ok,I.os,I.bare,I.base,I.loc,I.cell,I.free,I.freeC,λp hp=>(mem_append.mp hp).elim (λz=>I.pin p (mem_append_left _ z)) (h p),I.hok,I.len⟩
def gz {N:List Str}(hN:N.Nodup){j:Nat}(a:N[i]? =some x)(b:N[j]? =some x):i=j:=by
 obtain⟨h1,e1⟩:=sn.mp a;obtain⟨h2,e2⟩:=sn.mp b;exact(List.getElem_inj hN).mp (e1.trans e2.symm)
variable {Q:CN}
def hX (I:Inv X Y U H s)(hN:X.N.Nodup)(hi:X.N[i]? =some x)(hx:Loc X.env.scope x)(r:RelV v u)
  (h:∀ s',Inv X Y (U.set i (some v)) H s'->(∃ a,Heap.SameBut a s.heap s'.heap/\(a=X.env.locals\/X.env.cells.lookup x=some a))->Q () s') (hf:X.fn x=true\/X.env.scope.names.lookup x=some .local:=by first|exact .inl rfl|exact .inr rfl|assumption):wpAny M A (storeName X.env x u) Q E s:=by
 obtain⟨m,hn,hl⟩:=id I.loc;have hcls:(X.env.scope.kind ==.class||(X.env.scope.kind ==.module&&X.env.locals != X.env.globals))=false:=by rw[I.ok.kind];rfl
 have hiσ:i<U.length:=by rw[I.len];exact(sn.mp hi).1
 have rQ:=I.rQ;have tracked:∀ {a:Addr}{h':Heap},(∃ o,s.heap.get? a=some o/\H a=none)->Heap.SameBut a s.heap h'->dc X.prog X.w H h':=λ{a h'} ha hs b ob e=>by
  obtain⟨_,_,hfree⟩:=ha;refine(I.hok b ob e).cW (λc w' hc q=>(hs.2 c ?_).trans q) (λ_ q=>q) λ_ _ q=>q
  rintro rfl;rcases hc with rfl|hc
  .rw[hfree]at e;cases e
  .rw[hfree]at hc;cases hc
 rcases hx with hk|hk
 .refine wpAny_storeName_local hk hn (λh' hn' hs=>?_) hcls;obtain⟨oL,_,_,hoL,_⟩:=id hn;refine h _ ⟨I.ok,I.os,I.bare,⟨λb o e n hb hx=>?_,λb o e n hb hx=>?_,I.base.free,λb o e hx=>?_,I.base.tups,I.base.frzs,I.base.tbls⟩,⟨_,hn',λj y v' e1 e2 e3=>?_⟩,λy c e=>?_,I.free,I.freeC,λp hp=>?_,tracked ⟨oL,hoL,I.free⟩ hs,by simpa using I.len⟩ ⟨_,hs,.inl rfl⟩
  .exact(hs.2 b (nl (mo (sw e) I.ok.above))).trans (I.base.keep b o e n hb hx)
  .obtain⟨sl,e1⟩:=I.base.slot b o e n hb hx;exact⟨sl,(hs.2 b (nl (mo (sw e) I.ok.above))).trans e1⟩
  .obtain⟨o',e1⟩:=I.base.there b o e hx;exact⟨o',(hs.2 b (nl (mo (sw e) I.ok.above))).trans e1⟩
  .by_cases hj:j=i
   .subst hj;rw[hi]at e1;cases e1;rw[getElem?_set_self hiσ]at e2;cases e2;exact⟨u,r,.inl ⟨hk,by simp⟩⟩
   .rw[getElem?_set_ne (Ne.symm hj)]at e2;obtain⟨u',r',q⟩:=hl j y v' e1 e2 e3;refine⟨u',r',?_⟩;rcases q with⟨k,e⟩|⟨k,c,e,z⟩
    .refine .inl ⟨k,?_⟩;have:y≠x:=λe=>hj (gz hN e1 (e▸hi))
     simp[this,e]
    .exact .inr ⟨k,c,e,z.sameBut hs (rQ y c e)⟩
  .obtain⟨w',z⟩:=I.cell y c e;exact⟨w',z.sameBut hs (rQ y c e)⟩
  .obtain⟨e,n,ne,nf,d⟩:=I.pin p hp;exact⟨(hs.2 p.1 ne).trans e,n,ne,nf,d⟩
 .have hfn:X.fn x=true:=by
   rcases hf with z|z
   .exact z
   .rw[z]at hk;cases hk
  obtain⟨c,hc⟩:=I.ok.has x (.inl hk);obtain⟨w',z⟩:=I.cell x c hc;refine wpAny_storeName_cell I.ok.kind hk hc z (λh' hc' hs=>?_);obtain⟨oc,hoc,hocd⟩:=id z;refine h { s with heap:=h' } ⟨I.ok,I.os,I.bare,⟨λb o e n hb hx=>?_,λb o e n hb hx=>?_,I.base.free,λb o e hx=>?_,I.base.tups,I.base.frzs,I.base.tbls⟩,⟨m,hn.sameBut hs (Ne.symm (rQ x c hc)),λj y v' e1 e2 e3=>?_⟩,λy c' e=>?_,I.free,I.freeC,λp hp=>?_,tracked ⟨oc,hoc,I.freeC x c hc⟩ hs,by simpa using I.len⟩ ⟨c,hs,.inr hc⟩
  .exact(hs.2 b (nl (mo (sw e) (I.ok.cab x c hfn hc)))).trans (I.base.keep b o e n hb hx)
  .obtain⟨sl,e1⟩:=I.base.slot b o e n hb hx;exact⟨sl,(hs.2 b (nl (mo (sw e) (I.ok.cab x c hfn hc)))).trans e1⟩
  .obtain⟨o',e1⟩:=I.base.there b o e hx;exact⟨o',(hs.2 b (nl (mo (sw e) (I.ok.cab x c hfn hc)))).trans e1⟩
  .by_cases hj:j=i
   .subst hj;rw[hi]at e1;cases e1;rw[getElem?_set_self hiσ]at e2;cases e2;exact⟨u,r,.inr ⟨.inl hk,c,hc,hc'⟩⟩
   .rw[getElem?_set_ne (Ne.symm hj)]at e2;obtain⟨u',r',q⟩:=hl j y v' e1 e2 e3;refine⟨u',r',?_⟩;rcases q with q|⟨k,c',e,z'⟩
    .exact .inl q
    .refine .inr ⟨k,c',e,z'.sameBut hs ?_⟩;rintro rfl;exact hj (gz hN e1 (I.ok.inj _ _ _ e hc▸hi))
  .by_cases hcc:c'=c
   .subst hcc;exact⟨_,hc'⟩
   .obtain⟨w2,z2⟩:=I.cell y c' e;exact⟨w2,z2.sameBut hs hcc⟩
  .obtain⟨e,n,ne,nf,d⟩:=I.pin p hp;refine⟨(hs.2 p.1 ?_).trans e,n,ne,nf,d⟩;intro q;rw[q,hoc]at e;have q':oc=p.2:=Option.some.inj e;exact d w' (by rw[<-q'];exact hocd)
def dM (I:Inv X Y U H s)(hN:X.N.Nodup)(hi:X.N[i]? =some x)(hx:Loc X.env.scope x)(r:RelV v u)
  (h:∀ s',Inv X Y (U.set i (some v)) H s'->Q () s') (hf:X.fn x=true\/X.env.scope.names.lookup x=some .local:=by first|exact .inl rfl|exact .inr rfl|assumption):wpAny M A (storeName X.env x u) Q E s:=
 hX I hN hi hx r (λs' I' _=>h s' I') hf
def Inv.mr {s':Shared}(I:Inv X Y U H s)(ho:s'.os=s.os)(u:Un (iH X.stack) ch H H' s.heap s'.heap)(hok:dc X.prog X.w H' s'.heap)(hg:AllBare s'.gens)
  (hch:∀ b ∈ ch,(b ∈ X.ex\/X.s₀.heap.objs.size<=b)/\b≠X.env.locals/\(∀ x c,X.env.cells.lookup x=some c->c≠b)/\∀ p ∈ X.pn++Y,p.1≠b):Inv X Y U H' s':=by
 obtain⟨h',g',d',t',o'⟩:=s';have e:o'=s.os:=ho;subst e;exact I.call (g':=g') (t':=t') (d':=d') u hok hg hch
end
@[reducible]def XK:=Addr->Hp->Prop
@[reducible]def St:=List (Option V)
@[reducible]def VK:=V->Hp->Prop
@[reducible]def TE:=St->Hp->VK->Prop
@[reducible]def TT:=St->Hp->(Bool->Hp->Prop)->Prop
@[reducible]def TA:=St->Hp->(List V->Hp->Prop)->Prop
structure Ends where
 nx:St->Hp->Prop
 rt:VK
 bk:St->Hp->Prop:=λ_ _=>False
 ct:St->Hp->Prop:=λ_ _=>False
@[reducible]def TS:=Ends->St->Hp->Prop
abbrev EP (X:Cx)(Y:CP)(U:St)(Q:VK)(u:Value)(s':Shared):Prop:=∃ v H',Inv X Y U H' s'/\RelV v u/\Q v H'
abbrev TP (X:Cx)(Y:CP)(U:St)(Q:Bool->Hp->Prop)(b:Bool)(s':Shared):Prop:=∃ H',Inv X Y U H' s'/\Q b H'
abbrev AP (X:Cx)(Y:CP)(U:St)(Q:List V->Hp->Prop)(us:List Value)(s':Shared):Prop:=∃ vs H',Inv X Y U H' s'/\Vals vs us/\Q vs H'
abbrev SP (X:Cx)(Y:CP)(D:Ends)(f:Flow)(s':Shared):Prop:=
 match f with
 | .next=>∃ σ' H',Inv X Y σ' H' s'/\D.nx σ' H'
 | .brk=>∃ σ' H',Inv X Y σ' H' s'/\D.bk σ' H'
 | .cont=>∃ σ' H',Inv X Y σ' H' s'/\D.ct σ' H'
 | .ret u=>∃ v σ' H',Inv X Y σ' H' s'/\RelV v u/\D.rt v H'
abbrev PE (X:Cx)(e:Expr)(t:TE):Prop:=
 ∀ (Y:CP) (s:Shared) (U:St) (H:Hp) (Q:VK),Inv X Y U H s->t U H Q->wpAny (model X.prog X.w) X.A (eval e X.env) (EP X Y U Q) X.xe s
abbrev PT (X:Cx)(e:Expr)(t:TT):Prop:=
 ∀ (Y:CP) (s:Shared) (U:St) (H:Hp) (Q:Bool->Hp->Prop),Inv X Y U H s->t U H Q->wpAny (model X.prog X.w) X.A (isTrue e X.env (eval e X.env)) (TP X Y U Q) X.xe s
abbrev PW (X:Cx)(e:Expr)(t:TT):Prop:=
 ∀ (whole:Sem Value) (Y:CP) (s:Shared) (U:St) (H:Hp) (Q:Bool->Hp->Prop),Inv X Y U H s->t U H Q->wpAny (model X.prog X.w) X.A (isTrue e X.env whole) (TP X Y U Q) X.xe s
variable {e:Expr}
def PW.pt {X:Cx}{t:TT}(h:PW X e t):PT X e t:=h _
abbrev PA (X:Cx)(es:List Expr)(t:TA):Prop:=
 ∀ (pos:Pos) (Y:CP) (s:Shared) (U:St) (H:Hp) (Q:List V->Hp->Prop),Inv X Y U H s->t U H Q->wpAny (model X.prog X.w) X.A (spliced (backTo pos (bm es X.env))) (AP X Y U Q) X.xe s
abbrev PS (X:Cx)(st:Stmt)(t:TS):Prop:=
 ∀ (Y:CP) (s:Shared) (U:St) (H:Hp) (D:Ends),Inv X Y U H s->t D U H->wpAny (model X.prog X.w) X.A (exec st X.env) (SP X Y D) X.xe s
abbrev uY (X:Cx)(st:List Stmt)(t:TS):Prop:=
 ∀ (Y:CP) (s:Shared) (U:St) (H:Hp) (D:Ends),Inv X Y U H s->t D U H->wpAny (model X.prog X.w) X.A (execs st X.env) (SP X Y D) X.xe s
variable {s:Shared}
def ao {α:Type}{t:Sem α}{Q Q':α->Shared->Prop}(h:wpAny M A t Q E s)(hQ:∀ a s,Q a s->Q' a s):wpAny M A t Q' E s:=wpAny_mono h hQ λ_ _ x=>x
variable {Q:CO}{Y:CP}{U:St}
section
variable {X:Cx}
abbrev BH (i:Nat):TE:=λU H Q=>∃ v,U[i]? =some (some v)/\Q v H
abbrev tC (v:V):TE:=λ_ H Q=>Q v H
def wK {pos:Pos}(hN:X.N[i]? =some x)(hv:AX X.env.scope x)(hd:(x ==("__debug__":Str))=false:=by decide) (hcd:(x ==("__classdict__":Str))=false:=by decide):PE X (.Name x pos) (BH i):=by
 intro Y s U H Q I h;obtain⟨v,e,h⟩:=h;obtain⟨m,hn,hl⟩:=I.loc;obtain⟨u,r,l⟩:=hl i x v hN e hv;have fin:EP X Y U Q u s:=⟨v,H,I,r,h⟩;rcases l with⟨hk,hm⟩|⟨hk,c,hc,hcell⟩
 .exact wpAny_Name (wpAny_loadName_local I.ok.kind hk hn hm fin) hd
 .rcases hk with hk|hk
  .exact wpAny_Name (wpAny_loadName_cell I.ok.kind hk hc hcell fin) hd
  .exact wpAny_Name (wpAny_loadName_free I.ok.kind hk hc hcell fin hcd) hd
def ym {i j pos}:PE X (.Constant (.int i) j pos) (tC (.int i)):=λ_ _ _ H _ I h=>wpAny_Constant_int ⟨.int i,H,I.tok _,⟨_,rfl⟩,h⟩
def AA {b j pos}:PE X (.Constant (.bool b) j pos) (tC (.bl b)):=λ_ _ _ H _ I h=>Constant_bool ⟨.bl b,H,I,rfl,h⟩
def yt {j pos}:PE X (.Constant .none j pos) (tC .non):=λ_ _ _ H _ I h=>Constant_none ⟨.non,H,I,rfl,h⟩
def pY {x j pos}:PE X (.Constant (.str x) j pos) (tC (.str x)):=λ_ _ _ H _ I h=>Calls.Constant_str ⟨.str x,H,I.tok _,⟨_,rfl⟩,h⟩
abbrev Gl (X:Cx)(x:Str):Prop:=X.env.kindOf x=some .globalImplicit
def aQ {pos:Pos}(I:Inv X Y U H s)(hg:Gl X x)(hm:X.mg x=some u)(h:Q u s)
  (hd:(x ==("__debug__":Str))=false:=by decide):wpAny (model X.prog X.w) X.A (eval (.Name x pos) X.env) Q E s:=
 Calls.Name_function_global I.ok.kind hg (Calls.loadGlobal_global (by rw[I.ok.glob];exact I.mod.glob.keeps I.bk) hm h) hd
def gr {pos:Pos}(I:Inv X Y U H s)(hg:Gl X x)(hm:X.mg x=none)(hv:bootBuiltins x=some u)(h:Q u s)
  (hn:x≠"__name__":=by decide) (hd:(x ==("__debug__":Str))=false:=by decide):wpAny (model X.prog X.w) X.A (eval (.Name x pos) X.env) Q E s:=by
 obtain⟨mb,h1,h2⟩:=I.mod.blt;exact Calls.Name_function_global I.ok.kind hg (Calls.loadGlobal_builtin (by rw[I.ok.glob];exact I.mod.glob.keeps I.bk) hm (by rw[I.ok.blt];exact h1.keeps I.bk) ((h2 x hn).trans hv) h) hd
def jj {pos:Pos}(hg:Gl X x)(hm:X.mg x=some u)(r:RelV v u)(hd:(x ==("__debug__":Str))=false:=by decide):PE X (.Name x pos) (tC v):=
 λ_ _ _ H _ I h=>aQ I hg hm ⟨v,H,I,r,h⟩ hd
def uA {pos:Pos}(hg:Gl X x)(hm:X.mg x=none)(hv:bootBuiltins x=some u)(r:RelV v u)(hn:x≠"__name__":=by decide) (hd:(x ==("__debug__":Str))=false:=by decide):PE X (.Name x pos) (tC v):=
 λ_ _ _ H _ I h=>gr I hg hm hv ⟨v,H,I,r,h⟩ hn hd
variable {a b:Expr}{ta tb:TE}{pos:Pos}
variable {tA tB':TT}{rest:List Expr}
abbrev Bk (t u:TT):TT:=λU H Q=>t U H λc H1=>if c=true then u U H1 Q else Q false H1
abbrev Cq (t u:TT):TT:=λU H Q=>t U H λc H1=>if c=true then Q true H1 else u U H1 Q
abbrev A4 (t:TT):TT:=λU H Q=>t U H λc H1=>Q (!c) H1
def tS (ha:PT X a tA):PW X (.BoolOp .And [a] pos) tA:=by
 intro wh Y s U H Q I h;refine isTrue_and (ao (ha Y s U H Q I h) λc s1 e=>?_);cases c with
 |true=>exact isTrue_and_nil e
 |false=>exact e
def yv (ha:PT X a tA):PW X (.BoolOp .Or [a] pos) tA:=by
 intro wh Y s U H Q I h;refine isTrue_or (ao (ha Y s U H Q I h) λc s1 e=>?_);cases c with
 |false=>exact isTrue_or_nil e
 |true=>exact e
def vX (ha:PT X a tA)(hb:PW X (.BoolOp .And (b::rest) pos) tB'):PW X (.BoolOp .And (a::b::rest) pos) (Bk tA tB'):=by
 intro wh Y s U H Q I h;refine isTrue_and (ao (ha Y s U H _ I h) λc s1 ⟨H1,I1,q1⟩=>?_);cases c with
 |true=>exact hb wh Y s1 U H1 Q I1 q1
 |false=>exact⟨H1,I1,q1⟩
def Al (ha:PT X a tA)(hb:PW X (.BoolOp .Or (b::rest) pos) tB'):PW X (.BoolOp .Or (a::b::rest) pos) (Cq tA tB'):=by
 intro wh Y s U H Q I h;refine isTrue_or (ao (ha Y s U H _ I h) λc s1 ⟨H1,I1,q1⟩=>?_);cases c with
 |true=>exact⟨H1,I1,q1⟩
 |false=>exact hb wh Y s1 U H1 Q I1 q1
def xV (ha:PT X a tA):PT X (.UnaryOp .Not a pos) (A4 tA):=by
 intro Y s U H Q I h;exact isTrue_not (ha Y s U H (λc H1=>Q (!c) H1) I h)
abbrev zr (ta tb:TE):TE:=λU H Q=>ta U H λx H1=>∃ c,x=.bl c/\if c=true then tb U H1 Q else Q (.bl false) H1
abbrev By (ta tb:TE):TE:=λU H Q=>ta U H λx H1=>∃ c,x=.bl c/\if c=true then Q (.bl true) H1 else tb U H1 Q
abbrev z0 (ta:TE):TE:=λU H Q=>ta U H λx H1=>∃ c,x=.bl c/\Q (.bl (!c)) H1
def rK {op}{t:TE}(h:PE X a t):PE X (.BoolOp op [a] pos) t:=λY s U H Q I hw=>BoolOp_one (h Y s U H Q I hw)
def xg (ha:PE X a ta)(hb:PE X (.BoolOp .And (b::rest) pos) tb):PE X (.BoolOp .And (a::b::rest) pos) (zr ta tb):=by
 intro Y s U H Q I h;refine BoolOp_and (ao (ha Y s U H _ I h) λv s1 ⟨x,H1,I1,r1,q1⟩=>?_);obtain⟨c,rfl,q1⟩:=q1;cases r1;refine bi ?_;cases c with
 |true=>exact hb Y s1 U H1 Q I1 q1
 |false=>exact⟨.bl false,H1,I1,rfl,q1⟩
def zw (ha:PE X a ta)(hb:PE X (.BoolOp .Or (b::rest) pos) tb):PE X (.BoolOp .Or (a::b::rest) pos) (By ta tb):=by
 intro Y s U H Q I h;refine BoolOp_or (ao (ha Y s U H _ I h) λv s1 ⟨x,H1,I1,r1,q1⟩=>?_);obtain⟨c,rfl,q1⟩:=q1;cases r1;refine bi ?_;cases c with
 |false=>exact hb Y s1 U H1 Q I1 q1
 |true=>exact⟨.bl true,H1,I1,rfl,q1⟩
def wb (ha:PE X a ta):PE X (.UnaryOp .Not a pos) (z0 ta):=by
 intro Y s U H Q I h;refine UnaryOp_ (ao (ha Y s U H _ I h) λv s1 ⟨x,H1,I1,r1,q1⟩=>?_);obtain⟨c,rfl,q1⟩:=q1;cases r1;exact not_of (bi ⟨.bl (!c),H1,I1,rfl,q1⟩)
abbrev CD (t:TT)(ta tb:TE):TE:=λU H Q=>t U H λc H1=>if c=true then ta U H1 Q else tb U H1 Q
def qB {c:Expr}(hc:PT X c tA)(ha:PE X a ta)(hb:PE X b tb):PE X (.IfExp c a b pos) (CD tA ta tb):=by
 intro Y s U H Q I h;refine wpAny_IfExp (ao (hc Y s U H _ I h) λd s1 ⟨H1,I1,q1⟩=>?_);cases d with
 |true=>exact ha Y s1 U H1 Q I1 q1
 |false=>exact hb Y s1 U H1 Q I1 q1
end
abbrev aA (K:W.Frag)(H:Hp)(a:Addr)(xs:List V):Prop:=
 Rd H a (.lst xs)\/
  ∃ (o:Obj) (its:Array Value) (n:Nat),K.lookup a=some o/\o.cls=.type "list"/\o.dict=none/\o.data=.seq its n/\its.size<=bn/\Vals xs its.toList
abbrev bY (K:W.Frag)(H:Hp)(a:Addr)(xs:List V):Prop:=
 Rd H a (.tup xs)\/
  ∃ (o:Obj) (its:Array Value) (n:Nat),K.lookup a=some o/\o.cls=.type "tuple"/\o.data=.seq its n/\its.size<=bn/\Vals xs its.toList
abbrev Bo:Value->Option V
 | .none=>some .non
 | .bool b=>some (.bl b)
 | .int i _=>some (.int i)
 | .str x _=>some (.str x)
 | .bytes b _=>some (.byt b)
 | .float b _=>some (.flt b)
 | .ref a=>some (.ref a)
 | .type n=>some (.ty n)
 |_=>none
def RelV.abs {x:V}(r:RelV x u):Bo u=some x:=by
 cases x with
 |non=>cases r;rfl
 |bl _=>cases r;rfl
 |int _=>obtain⟨t,rfl⟩:=r;rfl
 |str _=>obtain⟨t,rfl⟩:=r;rfl
 |byt _=>obtain⟨t,rfl⟩:=r;rfl
 |flt _=>obtain⟨t,rfl⟩:=r;rfl
 |ref _=>cases r;rfl
 |ty _=>cases r;rfl
def RelV.inj {x y:V}(r:RelV x u)(q:RelV y u):x=y:=Option.some.inj (r.abs.symm.trans q.abs)
def Vals.inj:∀ {xs ys:List V}{us:List Value},Vals xs us->Vals ys us->xs=ys
 |_,_,_,.nil,.nil=>rfl
 |_,_,_,.cons r t,.cons r' t'=>by rw[r.inj r',Vals.inj t t']
variable {K:W.Frag}
section
variable {X:Cx}{Y:CP}{U:St}{H:Hp}{s:Shared}{a:Addr}{xs ys:List V}
def aA.of (h:H a=some (.lst xs)):aA K H a xs:=.inl (.inl h)
def bY.of (h:H a=some (.tup xs)):bY K H a xs:=.inl (.inl h)
def Inv.list (I:Inv X Y U H s)(h:aA X.K H a xs):∃ its:List Value,Vals xs its/\PlainL s.heap a its.toArray/\xs.length<=bn:=by
 rcases h with h|⟨o,its,n,hk,hc,hd,hs,hz,r⟩
 .obtain⟨z,its,n,r,e⟩:=h.ok I.hok;exact⟨its,r,⟨_,n,e,rfl,rfl,rfl⟩,z⟩
 .refine⟨its.toList,r,⟨o,n,I.aR a o hk,hc,hd,by simpa using hs⟩,?_⟩;have e:=r.length;simp only[Array.length_toList]at e
  omega
def Inv.tuple (I:Inv X Y U H s)(h:bY X.K H a xs):∃ its:List Value,Vals xs its/\IsTup s.heap a its.toArray/\xs.length<=bn:=by
 rcases h with h|⟨o,its,n,hk,hc,hs,hz,r⟩
 .obtain⟨z,its,r,p⟩:=h.ok I.hok;exact⟨its,r,p,z⟩
 .refine⟨its.toList,r,⟨o,I.aR a o hk,hc,n,by simpa using hs⟩,?_⟩;have e:=r.length;simp only[Array.length_toList]at e
  omega
def Inv.kx (I:Inv X Y U H s)(h:aA X.K H a xs)(h':aA X.K H a ys):xs=ys:=by
 obtain⟨its,r,⟨o,n,e,_,_,d⟩,_⟩:=I.list h;obtain⟨its',r',⟨o',n',e',_,_,d'⟩,_⟩:=I.list h';rw[e]at e';cases e';rw[d]at d'
 injection d' with d1 _
 have:its=its':=by simpa using congrArg Array.toList d1
 subst this;exact r.inj r'
def Inv.ie (I:Inv X Y U H s)(h:bY X.K H a xs)(h':bY X.K H a ys):xs=ys:=by
 obtain⟨its,r,⟨o,e,_,n,d⟩,_⟩:=I.tuple h;obtain⟨its',r',⟨o',e',_,n',d'⟩,_⟩:=I.tuple h';rw[e]at e';cases e';rw[d]at d'
 injection d' with d1 _
 have:its=its':=by simpa using congrArg Array.toList d1
 subst this;exact r.inj r'
end
section
variable {X:Cx}{Y:CP}{U:St}{H:Hp}{s:Shared}{E:CO}
end
section
variable {X:Cx}{st:Stmt}{rest:List Stmt}{t u:TS}{e:Expr}{te:TE}{pos:Pos}
abbrev yS:TS:=λD U H=>D.nx U H
abbrev Bu (t u:TS):TS:=λD U H=>t { D with nx:=u D } U H
def sx:uY X [] yS:=λ_ _ U H _ I h=>wpAny_execs_nil ⟨U,H,I,h⟩
def qO (h1:PS X st t)(h2:uY X rest u):uY X (st::rest) (Bu t u):=by
 intro Y s U H D I h;refine wpAny_execs_cons (ao (h1 Y s U H { D with nx:=u D } I h) λf s1 q=>?_);cases f with
 |next=>
  obtain⟨σ',H',I',q⟩:=q;exact h2 Y s1 σ' H' D I' q
 |ret v=>exact q
 |brk=>exact q
 |cont=>exact q
def Inv.quiet (I:Inv X Y U H s):interactive X.env=false:=by simp[interactive,I.ok.kind]
abbrev zJ (te:TE):TS:=λD U H=>te U H λ_ H1=>D.nx U H1
def tM (he:PE X e te)(hs:swapsWith e none pos.line X.env=pure false:=by rfl):PS X (.Expr e pos) (zJ te):=by
 intro Y s U H D I h;exact wpAny_Expr_any (ao (he Y s U H _ I h) λv s1 ⟨x,H1,I1,r1,q1⟩=>⟨U,H1,I1,q1⟩) I.quiet hs
abbrev BI (te:TE):TS:=λD U H=>te U H D.rt
def x9 (he:PE X e te):PS X (.Return (some e) pos) (BI te):=by
 intro Y s U H D I h;exact wpAny_Return_some (ao (he Y s U H _ I h) λv s1 ⟨x,H1,I1,r1,q1⟩=>⟨x,U,H1,I1,r1,q1⟩)
abbrev BG (c:TT)(t u:TS):TS:=λD U H=>c U H λb H1=>if b=true then t D U H1 else u D U H1
def Aj {c:Expr}{a b:List Stmt}{tc:TT}(hc:PT X c tc)(ha:uY X a t)(hb:uY X b u):PS X (.If c a b pos) (BG tc t u):=by
 intro Y s U H D I h;refine wpAny_If (ao (hc Y s U H _ I h) λd s1 ⟨H1,I1,q1⟩=>?_);cases d with
 |true=>exact ha Y s1 U H1 D I1 q1
 |false=>exact hb Y s1 U H1 D I1 q1
end
@[reducible]def TG:=V->St->Hp->(St->Hp->Prop)->Prop
@[reducible]def uV:=List V->St->Hp->(St->Hp->Prop)->Prop
abbrev PG (X:Cx)(target:Expr)(t:TG):Prop:=
 ∀ (Y:CP) (s:Shared) (U:St) (H:Hp) (v:V) (u:Value) (Q:St->Hp->Prop),Inv X Y U H s->RelV v u->t v U H Q->
  wpAny (model X.prog X.w) X.A (assign target X.env u) (λ_ s'=>∃ σ' H',Inv X Y σ' H' s'/\Q σ' H') X.xe s
abbrev xT (X:Cx)(ts:List Expr)(t:uV):Prop:=
 ∀ (Y:CP) (s:Shared) (U:St) (H:Hp) (vs:List V) (us:List Value) (Q:St->Hp->Prop),Inv X Y U H s->Vals vs us->t vs U H Q->
  wpAny (model X.prog X.w) X.A (assignInOrder ((assignEach ts X.env).map (·.2)) us) (λ_ s'=>∃ σ' H',Inv X Y σ' H' s'/\Q σ' H') X.xe s
@[reducible]def ot:=V->V->V->Hp->(Hp->Prop)->Prop
abbrev sM (X:Cx)(t:ot):Prop:=
 ∀ (Y:CP) (s:Shared) (U:St) (H:Hp) (o i v:V) (ov iv u:Value) (Q:Hp->Prop),Inv X Y U H s->RelV o ov->RelV i iv->RelV v u->t o i v H Q->
  wpAny (model X.prog X.w) X.A (setItem ov iv u) (λ_ s'=>∃ H',Inv X Y U H' s'/\Q H') X.xe s
@[reducible]def AR:=V->V->Hp->VK->Prop
abbrev AV (X:Cx)(op:Operator)(t:AR):Prop:=
 ∀ (Y:CP) (s:Shared) (U:St) (H:Hp) (x y:V) (v u:Value) (Q:VK),Inv X Y U H s->RelV x v->RelV y u->t x y H Q->
  wpAny (model X.prog X.w) X.A (inplaceOp op v u) (EP X Y U Q) X.xe s
variable {es:List Expr}{k:Nat}{tg:Expr}{te:TE}
section
variable {X:Cx}{pos:Pos}
abbrev dA (i:Nat):TG:=λv U H Q=>Q (U.set i (some v)) H
def dS (hN:X.N.Nodup)(hi:X.N[i]? =some x)(hx:Loc X.env.scope x)(hf:X.fn x=true\/X.env.scope.names.lookup x=some .local:=by first|exact .inl rfl|exact .inr rfl|assumption):PG X (.Name x pos) (dA i):=by
 intro Y s U H v u Q I r h;exact wpAny_assign_Name (dM I hN hi hx r (λs' I'=>⟨_,H,I',h⟩) hf)
abbrev Bl:uV:=λvs U H Q=>vs=[]/\Q U H
abbrev Az (t:TG)(u:uV):uV:=λvs U H Q=>∃ v r,vs=v::r/\t v U H λσ' H'=>u r σ' H' Q
def ji:xT X [] Bl:=by
 intro Y s U H vs us Q I r h;obtain⟨e,h⟩:=h;subst e;cases r;exact assignInOrder_nil ⟨U,H,I,h⟩
def dO {t:TG}{u:uV}(h1:PG X e t)(h2:xT X es u)
  (hs:(assignEach (e::es) X.env).map (·.2)=assign e X.env::(assignEach es X.env).map (·.2):=by rfl):xT X (e::es) (Az t u):=by
 intro Y s U H vs us Q I r h;obtain⟨v,vr,e1,h⟩:=h;subst e1;cases r with
 |cons r rr=>
  rw[hs];refine assignInOrder_cons (ao (h1 Y s U H _ _ _ I r h) λ_ s1 ⟨σ1,H1,I1,q1⟩=>?_);exact h2 Y s1 σ1 H1 _ _ Q I1 rr q1
abbrev tK (K:W.Frag)(n:Nat)(t:uV):TG:=λv U H Q=>∃ a xs,v=.ref a/\bY K H a xs/\xs.length=n/\t xs U H Q
def iP {t:uV}{n:Nat}(hc:X.calm=true)(h:xT X es t)
  (hn:(assignEach es X.env).length=n:=by rfl) (hst:(assignEach es X.env).findIdx? (·.1)=none:=by rfl):PG X (.Tuple es k pos) (tK X.K n t):=by
 intro Y s U H v u Q I r hw;obtain⟨a,xs,e1,hq,hl,hw⟩:=hw;subst e1;cases r;obtain⟨its,rv,ht,hz⟩:=I.tuple hq;refine assign_Tuple_tuple (I.ok.hd hc) ht (by simp[hn,<-hl,rv.length]) hst λh' hx=>?_
 have I1:Inv X Y U H { s with heap:=h' }:=I.kept (t':=s.toks) λb o e=>hx b o (nl (sw e)) e
 exact h Y _ U H xs _ Q I1 (by simpa using rv) hw
abbrev BM (to ti:TE)(t:ot):TG:=λv U H Q=>to U H λo H1=>ti U H1 λi H2=>t o i v H2 λH3=>Q U H3
def wj {o i:Expr}{to ti:TE}{t:ot}(ho:PE X o to)(hi:PE X i ti)(hs:sM X t)
  (ha:∀ v,assign (.Subscript o i pos) X.env v=(do
   let ov <-holding [v] (eval o X.env)
   let iv <-holding [v,ov] (eval i X.env)
   standAt pos
   holding [v,ov,iv] (setItem ov iv v)
   release [v,ov,iv] []):=by intro _;rfl):PG X (.Subscript o i pos) (BM to ti t):=by
 intro Y s U H v u Q I r h;rw[ha];refine am (be (ao (ho Y s U H _ I h) λov s1 ⟨x,H1,I1,r1,q1⟩=>?_));refine am (be (ao (hi Y s1 U H1 _ I1 q1) λiv s2 ⟨y,H2,I2,r2,q2⟩=>?_));refine am (wpAny_standAt (am (be (ao (hs Y s2 U H2 x y v ov iv u _ I2 r1 r2 r q2) λ_ s3 ⟨H3,I3,q3⟩=>?_))));exact wpAny_release ⟨U,H3,I3,q3⟩
abbrev yM (te:TE)(g:TG):TS:=λD U H=>te U H λx H1=>g x U H1 D.nx
def xQ {g:TG}(he:PE X e te)(hg:PG X tg g)(hs:swapsWithSole [tg] e pos.line X.env=pure false:=by rfl) (hw:swappedStores [tg] e X.env=pure none:=by rfl)
  (h1:(assignEach [tg] X.env).map (·.2)=[assign tg X.env]:=by rfl):PS X (.Assign [tg] e pos) (yM te g):=by
 intro Y s U H D I h;refine wpAny_Assign_stores (ao (he Y s U H _ I h) λv s1 ⟨x,H1,I1,r1,q1⟩=>?_) hs hw;rw[h1];exact ao (hg Y s1 U H1 x v _ I1 r1 q1) λ_ s2 q=>q
def qh {pos':Pos}(hN:X.N.Nodup)(hi:X.N[i]? =some x)(hx:Loc X.env.scope x)(he:PE X e te)(hs:swapsWith e (some (.Name x pos')) pos.line X.env=pure false:=by rfl) (hf:X.fn x=true\/X.env.scope.names.lookup x=some .local:=by first|exact .inl rfl|exact .inr rfl|assumption):
  PS X (.Assign [.Name x pos'] e pos) (yM te (dA i)):=by
 intro Y s U H D I h;refine wpAny_Assign_Name (ao (he Y s U H _ I h) λv s1 ⟨y,H1,I1,r1,q1⟩=>?_) hs;exact dM I1 hN hi hx r1 (λs2 I2=>⟨_,H1,I2,q1⟩) hf
abbrev Ac (to ti te:TE)(tget:V->V->Hp->VK->Prop)(tip:AR)(tset:ot):TS:=λD U H=>to U H λo H1=>ti U H1 λi H2=>tget o i H2 λx H3=>te U H3 λy H4=>tip x y H4 λz H5=>tset o i z H5 λH6=>D.nx U H6
abbrev yy (X:Cx)(t:V->V->Hp->VK->Prop):Prop:=
 ∀ (Y:CP) (s:Shared) (U:St) (H:Hp) (o i:V) (ov iv:Value) (Q:VK),Inv X Y U H s->RelV o ov->RelV i iv->t o i H Q->
  wpAny (model X.prog X.w) X.A (getItem ov iv) (EP X Y U Q) X.xe s
def tO {o i:Expr}{to ti:TE}{tget:V->V->Hp->VK->Prop}{tip:AR}{tset:ot}{op:Operator}{tpos:Pos}(ho:PE X o to)(hi:PE X i ti)(hg:yy X tget)(he:PE X e te)(hp:AV X op tip)(hs:sM X tset)
  (ha:∀ ov iv new,augStore i ov iv new=(do holding [new,ov,iv] (setItem ov iv new);release [new,ov,iv] [];pure .next):=by intros;rfl):PS X (.AugAssign (.Subscript o i tpos) op e pos) (Ac to ti te tget tip tset):=by
 intro Y s U H D I h;refine wpAny_AugAssign_SubscriptAny (ao (ho Y s U H _ I h) λov s1 ⟨x1,H1,I1,r1,q1⟩=>?_) ha;refine ao (hi Y s1 U H1 _ I1 q1) λiv s2 ⟨x2,H2,I2,r2,q2⟩=>?_
 refine ao (hg Y s2 U H2 x1 x2 ov iv _ I2 r1 r2 q2) λold s3 ⟨x3,H3,I3,r3,q3⟩=>?_
 refine ao (he Y s3 U H3 _ I3 q3) λv s4 ⟨x4,H4,I4,r4,q4⟩=>?_
 refine ao (hp Y s4 U H4 x3 x4 old v _ I4 r3 r4 q4) λnew s5 ⟨x5,H5,I5,r5,q5⟩=>?_
 exact ao (hs Y s5 U H5 x1 x2 x5 ov iv new _ I5 r1 r2 r5 q5) λ_ s6 ⟨H6,I6,q6⟩=>⟨U,H6,I6,q6⟩
abbrev BQ (f:Int->Int->Int):AR:=λx y H Q=>∃ i j,x=.int i/\y=.int j/\Q (.int (f i j)) H
def ye:AV X .Add (BQ λi j=>i+j):=by
 intro Y s U H x y v u Q I r1 r2 h;obtain⟨i,j,e1,e2,q⟩:=h;subst e1;subst e2;obtain⟨t,rfl⟩:=r1;obtain⟨t',rfl⟩:=r2;exact iadd_int ⟨.int _,H,I.tok _,⟨_,rfl⟩,q⟩
def xq:AV X .Sub (BQ λi j=>i-j):=by
 intro Y s U H x y v u Q I r1 r2 h;obtain⟨i,j,e1,e2,q⟩:=h;subst e1;subst e2;obtain⟨t,rfl⟩:=r1;obtain⟨t',rfl⟩:=r2;exact isub_int ⟨.int _,H,I.tok _,⟨_,rfl⟩,q⟩
end
section
variable {X:Cx}{pos:Pos}
end
structure It where
 go:Nat->Hp->Prop
 yld:Nat->Hp->V->Hp->Prop
 stop:Nat->Hp->Prop
abbrev fz (X:Cx)(Y:CP)(H:Hp)(b:Addr):Prop:=
 H b=none/\b≠X.env.locals/\b ∉ X.fs/\(b ∈ X.ex\/X.s₀.heap.objs.size<=b)/\(∀ x c,X.env.cells.lookup x=some c->c≠b)/\∀ p ∈ X.pn++Y,p.1≠b
def Inv.uG {X:Cx}{H':Hp}(I:Inv X Y U H s)(hb:s.heap.objs.size<=b)(hn:H' b=none):fz X Y H' b:=by
 refine⟨hn,Nat.ne_of_gt (mo I.lt hb),I.AY hb,.inr (Nat.le_trans I.sz hb),λx c e z=>?_,λp hp z=>?_⟩
 .obtain⟨v,q⟩:=I.cell x c e;exact absurd (mo q.lt (by rw[z];exact hb)) (Nat.lt_irrefl _)
 .exact absurd (mo (sw (I.pin p hp).1) (by rw[z];exact hb)) (Nat.lt_irrefl _)
structure Turn (P:Program) (w:World) (K:W.Frag) (tg:Expr) (J:It) (fp:List Addr) (it:Addr) (tn:Nat->Heap->Prop):Prop where
 mem:it ∈ fp
 obj:∀ i h,tn i h->∀ b ∈ fp,∃ o,h.get? b=some o/\∀ v,o.data≠.cell v
 keep:∀ i h h',tn i h->(∀ b ∈ fp,∀ o,h.get? b=some o->h'.get? b=some o)->tn i h'
 item:∀ (X:Cx),X.prog=P->X.w=w->X.K=K->X.calm=true->∀ (i:Nat) (Y:CP) (s:Shared) (U:St) (H:Hp) (E:CO),Inv X Y U H s->(∀ b ∈ fp,fz X Y H b)->tn i s.heap->J.go i H->
  wpAny (model P w) X.A (pyNext (.ref it)) (λr s1=>∃ u,r=some u/\
   wpAny (model P w) X.A (letOwnedTupleGo tg (.ref it) u) (λ_ s2=>∃ x H',Inv X Y U H' s2/\RelV x u/\J.yld i H x H'/\tn (i+1) s2.heap/\∀ b ∈ fp,H' b=none) E s1) E s
 done:∀ (X:Cx),X.prog=P->X.w=w->X.K=K->X.calm=true->∀ (i:Nat) (Y:CP) (s:Shared) (U:St) (H:Hp) (E:CO),Inv X Y U H s->(∀ b ∈ fp,fz X Y H b)->tn i s.heap->J.stop i H->
  wpAny (model P w) X.A (pyNext (.ref it)) (λr s1=>r=none/\Inv X Y U H s1) E s
 self:∀ (A:Around) (i:Nat) (s:Shared) (Q:CO) (E:CO),tn i s.heap->Q (.ref it) s->wpAny (model P w) A (pyIter (.ref it)) Q E s
@[reducible]def TI:=St->Hp->(It->Hp->Prop)->Prop
abbrev yL (X:Cx)(Y:CP)(U:St)(tg:Expr)(R:It->Hp->Prop)(itv:Value)(s2:Shared):Prop:=
 ∃ (it:Addr) (fp:List Addr) (tn:Nat->Heap->Prop) (J:It) (H':Hp),itv=.ref it/\Inv X Y U H' s2/\Turn X.prog X.w X.K tg J fp it tn/\tn 0 s2.heap/\(∀ b ∈ fp,fz X Y H' b)/\R J H'
abbrev PI (X:Cx)(tg iter:Expr)(wi:TI):Prop:=
 ∀ (Y:CP) (s:Shared) (U:St) (H:Hp) (R:It->Hp->Prop),Inv X Y U H s->wi U H R->
  wpAny (model X.prog X.w) X.A (eval iter X.env) (λv s1=>wpAny (model X.prog X.w) X.A (pyIter v) (yL X Y U tg R) X.xe s1) X.xe s
def mG {it:Addr}{o:Obj}{n:String}{vs:Array Value}{Q:CN}(ho:s.heap.get? it=some o)(hc:o.cls=.type n)(hd:o.data=.fields vs)
  (hn:["enumerate","zip","dict_itemiterator","dict_reverseitemiterator","odict_iterator","itertools.zip_longest","itertools.pairwise"].contains n=false) (hQ:Q () s):wpAny M A (letOwnedTupleGo tg (.ref it) u) Q E s:=by
 unfold letOwnedTupleGo;cases tg<;>first
  |exact ap hQ
  |(cases u<;>first
    |exact ap hQ
    |(refine am (wpAny_load ho ?_)
      rw[hc,hd];show wpAny M A (if(["enumerate","zip","dict_itemiterator","dict_reverseitemiterator","odict_iterator","itertools.zip_longest","itertools.pairwise"].contains n&&vs[0]? ==some (rawInt _))=true then _ else _) Q E s;rw[if_neg (by intro h;rw[hn,Bool.false_and]at h;cases h)];exact ap hQ))
abbrev yH (K:W.Frag)(a:Addr):It:=
 ⟨λi H=>∃ xs x,aA K H a xs/\xs[i]? =some x,λi H x H'=>H'=H/\∀ xs,aA K H a xs->xs[i]? =some x,λi H=>∃ xs,aA K H a xs/\xs.length<=i⟩
abbrev zX (K:W.Frag)(a:Addr):It:=
 ⟨λi H=>∃ xs x,bY K H a xs/\xs[i]? =some x,λi H x H'=>H'=H/\∀ xs,bY K H a xs->xs[i]? =some x,λi H=>∃ xs,bY K H a xs/\xs.length<=i⟩
abbrev vF (lo:Int)(n:Nat):It:=⟨λi _=>i<n,λi H x H'=>H'=H/\x=.int (lo+i),λi _=>n<=i⟩
def nN (a it:Addr):Turn P w K tg (yH K a) [it] it (λi h=>h.IsListIter it a i) where
 mem:=by simp
 obj:=λi h st b hb=>by
  have e:b=it:=by simpa using hb
  subst e;obtain⟨o,e,c,d⟩:=st;exact⟨o,e,λv z=>by rw[d]at z;cases z⟩
 keep:=λi h h' st k=>st.at λo e=>k it (by simp) o e
 item:=by
  intro X hP hw hK hc i Y s U H E I hf st hg;subst hP hw hK;obtain⟨xs,x,hq,hx⟩:=hg;obtain⟨its,rv,p,hz⟩:=I.list hq;obtain⟨u,hu,ru⟩:=rv.get hx;obtain⟨f0,f1,f2,f3,f4,f5⟩:=hf it (by simp);refine wpAny_pyNext_list_item st p.isList (x:=u) (by simpa using hu) λh' st' sb=>?_
  have I1:Inv X Y U H { s with heap:=h' }:=I.turned (t':=s.toks) (λb o hb e=>(sb.2 b hb).trans e) f0 f1 f3 f4 f5;obtain⟨o,e,c,d⟩:=id st';exact⟨u,rfl,mG (s:={ s with heap:=h' }) e c d (by decide) ⟨x,H,I1,ru,⟨rfl,λys hy=>by rw[I.kx hy hq];exact hx⟩,st',λb hb=>(hf b hb).1⟩⟩
 done:=by
  intro X hP hw hK hc i Y s U H E I hf st hg;subst hP hw hK;obtain⟨xs,hq,hx⟩:=hg;obtain⟨its,rv,p,hz⟩:=I.list hq;obtain⟨f0,f1,f2,f3,f4,f5⟩:=hf it (by simp);have hl:=rv.length;exact wpAny_pyNext_list_end (I.ok.hd hc) st p.isList (by simp;omega) λh' eb=>⟨rfl,I.turned (t':=s.toks) (λb o hb e=>eb b o hb e) f0 f1 f3 f4 f5⟩
 self:=λ_ _ _ _ _ st h=>wpAny_pyIter_listiter st h
def kJ (a it:Addr):Turn P w K tg (zX K a) [it] it (λi h=>h.IsTupleIter it a i) where
 mem:=by simp
 obj:=λi h st b hb=>by
  have e:b=it:=by simpa using hb
  subst e;obtain⟨o,e,c,d⟩:=st;exact⟨o,e,λv z=>by rw[d]at z;cases z⟩
 keep:=λi h h' st k=>st.at λo e=>k it (by simp) o e
 item:=by
  intro X hP hw hK hc i Y s U H E I hf st hg;subst hP hw hK;obtain⟨xs,x,hq,hx⟩:=hg;obtain⟨its,rv,p,hz⟩:=I.tuple hq;obtain⟨u,hu,ru⟩:=rv.get hx;obtain⟨f0,f1,f2,f3,f4,f5⟩:=hf it (by simp);refine wpAny_pyNext_tuple_item st (show s.heap.IsTuple a its.toArray from p) (x:=u) (by simpa using hu) λh' st' sb=>?_
  have I1:Inv X Y U H { s with heap:=h' }:=I.turned (t':=s.toks) (λb o hb e=>(sb.2 b hb).trans e) f0 f1 f3 f4 f5;obtain⟨o,e,c,d⟩:=id st';exact⟨u,rfl,mG (s:={ s with heap:=h' }) e c d (by decide) ⟨x,H,I1,ru,⟨rfl,λys hy=>by rw[I.ie hy hq];exact hx⟩,st',λb hb=>(hf b hb).1⟩⟩
 done:=by
  intro X hP hw hK hc i Y s U H E I hf st hg;subst hP hw hK;obtain⟨xs,hq,hx⟩:=hg;obtain⟨its,rv,p,hz⟩:=I.tuple hq;obtain⟨f0,f1,f2,f3,f4,f5⟩:=hf it (by simp);have hl:=rv.length;exact wpAny_pyNext_tuple_end (I.ok.hd hc) st (show s.heap.IsTuple a its.toArray from p) (by simp;omega) λh' eb=>⟨rfl,I.turned (t':=s.toks) (λb o hb e=>eb b o hb e) f0 f1 f3 f4 f5⟩
 self:=λ_ _ _ _ _ st h=>wpAny_pyIter_tupleiter st h
def k7 (it:Addr)(lo:Int)(n:Nat):Turn P w K tg (vF lo n) [it] it (λi h=>IsRangeIter h it (lo+(i:Nat)*1) ((n:Int)-(i:Nat)) 1) where
 mem:=by simp
 obj:=λi h st b hb=>by
  have e:b=it:=by simpa using hb
  subst e;exact⟨_,st,λv z=>by
   have z':Data.fields _=Data.cell v:=z;cases z'⟩
 keep:=λi h h' st k=>k it (by simp) _ st
 item:=by
  intro X hP hw hK hc i Y s U H E I hf st hg;subst hP hw hK;obtain⟨f0,f1,f2,f3,f4,f5⟩:=hf it (by simp);have W:=Walks.range (prog:=X.prog) (w:=X.w) (I.ok.hd hc) it lo 1 n;refine W.item i s _ _ hg st λv h' tk hv st' kk=>?_
  obtain⟨t,rfl⟩:=hv;have I1:Inv X Y U H { s with heap:=h',toks:=tk }:=I.turned (λb o hb e=>kk b o (by simpa using hb) e) f0 f1 f3 f4 f5;refine⟨_,rfl,mG (s:={ s with heap:=h',toks:=tk }) (n:="range_iterator") st' rfl rfl (by decide) ⟨.int (lo+i),H,I1,⟨t,?_⟩,⟨rfl,rfl⟩,st',λb hb=>(hf b hb).1⟩⟩;rw[Int.mul_one]
 done:=by
  intro X hP hw hK hc i Y s U H E I hf st hg;subst hP hw hK;obtain⟨f0,f1,f2,f3,f4,f5⟩:=hf it (by simp);exact wpAny_pyNext_range_end (I.ok.hd hc) st (by have:n<=i:=hg;omega) λh' eb=>⟨rfl,I.turned (t':=s.toks) (λb o hb e=>eb b o hb e) f0 f1 f3 f4 f5⟩
 self:=λ_ _ _ _ _ st h=>wpAny_pyIter_rangeiter st h
variable {pos:Pos}{fp:List Addr}{body:List Stmt}
section
variable {X:Cx}{tg:Expr}
def kr {R:It->Hp->Prop}{lo hi:Int}{t u v:Tok}{tk:Nat}(I:Inv X Y U H s)(h1: -(2 ^ 62)<=lo)(h2:lo<2 ^ 62)(h3: -(2 ^ 62)<=hi)(h4:hi<2 ^ 62)
  (q:R (vF lo (hi-lo).toNat) H):wpAny (model X.prog X.w) X.A (pyIter (.ref s.heap.objs.size)) (yL X Y U tg R) E { s with heap:=s.heap.push { cls:=.type "range",data:=.fields #[.int lo t,.int hi u,.int 1 v] },toks:=tk }:=by
 refine wpAny_pyIter_range (IsRange.new ..) (small_one h1 h2 h3 h4) ?_;have I1:Inv X Y U H { s with heap:=s.heap.push { cls:=.type "range",data:=.fields #[.int lo t,.int hi u,.int 1 v] },toks:=tk }:=I.kept λb o e=>ss _ e
 refine⟨(s.heap.push { cls:=.type "range",data:=.fields #[.int lo t,.int hi u,.int 1 v] }).objs.size,[(s.heap.push { cls:=.type "range",data:=.fields #[.int lo t,.int hi u,.int 1 v] }).objs.size],_,_,H,rfl,
  I1.kept (t':=tk) λb o e=>ss _ e,k7 _ lo (hi-lo).toNat,?_,λb hb=>?_,q⟩
 .have e1:lo+((0:Nat):Int)*1=lo:=by simp
  have e2:(((hi-lo).toNat:Nat):Int)-((0:Nat):Int)=Builtin.Range.rangeSize lo hi 1:=by rw[rangeSize_one];split<;>omega
  show IsRangeIter _ _ (lo+((0:Nat):Int)*1) ((((hi-lo).toNat:Nat):Int)-((0:Nat):Int)) 1;rw[e1,e2];exact sK _ rfl
 .have e:b=(s.heap.push { cls:=.type "range",data:=.fields #[.int lo t,.int hi u,.int 1 v] }).objs.size:=by simpa using hb
  subst e;exact I1.uG (pc _) (I1.hok.fresh (pc _))
abbrev y8 (ta:TA):TI:=λU H R=>ta U H λvs H1=>∃ j:Int,vs=[.int j]/\ -(2 ^ 62)<=j/\j<2 ^ 62/\R (vF 0 j.toNat) H1
abbrev Ai (ta:TA):TI:=λU H R=>ta U H λvs H1=>∃ i j:Int,vs=[.int i,.int j]/\(-(2 ^ 62)<=i/\i<2 ^ 62/\ -(2 ^ 62)<=j/\j<2 ^ 62)/\R (vF i (j-i).toNat) H1
def oz {a:Expr}{ta:TA}{p:Pos}(hg:Gl X "range") (hm:X.mg "range"=none) (ha:PA X [a] ta) (hs:bm [a] X.env=[(false,eval a X.env)]:=by rfl):PI X tg (.Call (.Name "range" p) [a] [] pos) (y8 ta):=by
 intro Y s U H R I h;refine Call_ (gr I hg hm boot_range (PyProof.Rows.callWith_type1 (ao (ha pos Y s U H _ I h) λus s1 ⟨vs,H1,I1,r1,q1⟩=>?_) hs rfl));obtain⟨j,e,q1,q2,q⟩:=q1;subst e;cases r1 with
 |cons r rr=>
  cases rr;obtain⟨t,rfl⟩:=r;exact call_range_1 (kr I1 nofun nofun q1 q2 (by simpa using q))
def oa {a b:Expr}{ta:TA}{p:Pos}(hg:Gl X "range") (hm:X.mg "range"=none) (ha:PA X [a,b] ta) (hs:bm [a,b] X.env=[(false,eval a X.env),(false,eval b X.env)]:=by rfl) (hs2:bm [b] X.env=[(false,eval b X.env)]:=by rfl):
  PI X tg (.Call (.Name "range" p) [a,b] [] pos) (Ai ta):=by
 intro Y s U H R I h;refine Call_ (gr I hg hm boot_range (PyProof.Rows.callWith_type1 (ao (ha pos Y s U H _ I h) λus s1 ⟨vs,H1,I1,r1,q1⟩=>?_) (by rw[hs,hs2]) (by rw[hs2];rfl)));obtain⟨i,j,e,⟨q1,q2,q3,q4⟩,q⟩:=q1;subst e;cases r1 with
 |cons r rr=>
  cases rr with
  |cons r' rr=>
   cases rr;obtain⟨t,rfl⟩:=r;obtain⟨t',rfl⟩:=r';exact call_range_2 (kr I1 q1 q2 q3 q4 q)
abbrev BN (wi:TI)(g:TG)(tb:TS):TS:=λD U H=>wi U H λJ H1=>∃ W:Nat->Nat->St->Hp->Prop,(∃ m,W 0 m U H1)/\∀ i m U H,W i m U H->
 (J.stop i H/\D.nx U H)\/(J.go i H/\∃ N:St->Hp->Prop,(∀ σ' H',N σ' H'->∃ m',m'<m/\W (i+1) m' σ' H')/\∀ x H',J.yld i H x H'->g x U H' λσ2 H2=>tb { D with nx:=N,ct:=N,bk:=D.nx } σ2 H2)
abbrev iN (fp:List Addr)(h:Heap):List (Addr×Obj):=fp.filterMap λb=>(h.get? b).map λo=>(b,o)
def aO {o:Obj}(hb:b ∈ fp)(e:h.get? b=some o):(b,o) ∈ iN fp h:=List.mem_filterMap.mpr ⟨b,hb,by rw[e];rfl⟩
def nG {p:Addr×Obj}(hp:p ∈ iN fp h):p.1 ∈ fp/\h.get? p.1=some p.2:=by
 obtain⟨b,hb,e⟩:=List.mem_filterMap.mp hp;cases q:h.get? b with
 |none=>rw[q]at e;cases e
 |some o=>
  rw[q]at e;have e':(b,o)=p:=Option.some.inj e;subst e';exact⟨hb,q⟩
def Inv.pinned (I:Inv X Y U H s)(hf:∀ b ∈ fp,fz X Y H b) (ho:∀ b ∈ fp,∃ o,s.heap.get? b=some o/\∀ v,o.data≠.cell v):Inv X (Y++iN fp s.heap) U H s:=
 I.jk λp hp=>(mem_append.mp hp).elim (λz=>I.pin p (gt _ z)) λz=>by
  obtain⟨hb,e⟩:=nG z;obtain⟨f0,f1,f2,_⟩:=hf p.1 hb;obtain⟨o,e',d⟩:=ho p.1 hb;rw[e]at e';cases e';exact⟨e,f0,f1,f2,d⟩
def Inv.cn {pl:CP}(I:Inv X (Y++pl) U H s):Inv X Y U H s:=I.jk λp hp=>I.pin p (gt _ (mem_append_left _ hp))
def wq {iter:Expr}{wi:TI}{g:TG}{tb:TS}(hp:PassesOwn (model X.prog X.w) X.A X.env X.xe)(hc:X.calm=true)(hi:PI X tg iter wi)(hg:PG X tg g)(hb:uY X body tb)
  (hs:∀ x,foldedSetIterable iter X.env x=pure x:=by intro _;rfl):PS X (.For tg iter body [] pos) (BN wi g tb):=by
 intro Y s U H D I h;refine wpAny_For (ao (hi Y s U H _ I h) λv s1 h1=>ao h1 λitv s2 h2=>?_) hs;obtain⟨it,fp,tn,J,H2,e,I2,T,kK,f2,W,⟨m0,w0⟩,turn⟩:=h2;subst e;have stat:∀ {H':Hp},(∀ b ∈ fp,H' b=none)->∀ b ∈ fp,fz X Y H' b:=λhn b hb=>⟨hn b hb,(f2 b hb).2⟩
 refine codeAny_forLoop_any (λn s'=>∃ i σ' H',Inv X Y σ' H' s'/\tn i s'.heap/\(∀ b ∈ fp,H' b=none)/\W i n σ' H') ?_ m0 ⟨0,U,H2,I2,kK,λb hb=>(f2 b hb).1,w0⟩;rintro n s3 ⟨i,σ3,H3,I3,st3,fr3,w3⟩;rcases turn i n σ3 H3 w3 with⟨stop,qn⟩|⟨go,N,hN,step⟩
 .refine wpAny_passesOwn hp (ao (T.done X rfl rfl rfl hc i Y s3 σ3 H3 X.xe I3 (stat fr3) st3 stop) λr s4 ⟨hr,I4⟩=>?_);subst hr;exact wpAny_execs_nil ⟨σ3,H3,I4,qn⟩
 .refine wpAny_passesOwn hp (ao (T.item X rfl rfl rfl hc i Y s3 σ3 H3 X.xe I3 (stat fr3) st3 go) λr s4 ⟨u,hr,h4⟩=>?_);subst hr;refine wpAny_passesOwn hp (ao h4 λ_ s5 ⟨x,H5,I5,r5,y5,st5,fr5⟩=>?_);have I5':=I5.pinned (stat fr5) (T.obj _ _ st5);refine wpAny_passesOwn hp (ao (hg _ s5 σ3 H5 x u _ I5' r5 (step x H5 y5)) λ_ s6 ⟨σ6,H6,I6,q6⟩=>?_);refine wpAny_passesOwn hp (ao (hb _ s6 σ6 H6 _ I6 q6) λf s7 q7=>?_);have again:∀ {σ7:St}{H7:Hp},Inv X (Y++iN fp s5.heap) σ7 H7 s7->N σ7 H7->∃ m,m<n/\∃ i σ' H',Inv X Y σ' H' s7/\tn i s7.heap/\(∀ b ∈ fp,H' b=none)/\W i m σ' H':=λ{σ7 H7} I7 n7=>by
   obtain⟨m',hm,w7⟩:=hN σ7 H7 n7;refine⟨m',hm,i+1,σ7,H7,I7.cn,T.keep _ _ _ st5 λb hb o e=>(I7.pin (b,o) (gt _ (gt _ (aO hb e)))).1,λb hb=>?_,w7⟩;obtain⟨o,e,d⟩:=T.obj _ _ st5 b hb;exact(I7.pin (b,o) (gt _ (gt _ (aO hb e)))).2.1
  cases f with
  |next=>obtain⟨σ7,H7,I7,n7⟩:=q7;exact again I7 n7
  |cont=>obtain⟨σ7,H7,I7,n7⟩:=q7;exact again I7 n7
  |brk=>obtain⟨σ7,H7,I7,q7⟩:=q7;exact⟨σ7,H7,I7.cn,q7⟩
  |ret v=>obtain⟨x7,σ7,H7,I7,r7,q7⟩:=q7;exact⟨x7,σ7,H7,I7.cn,r7,q7⟩
end
@[reducible]def R2:=V->V->Hp->VK->Prop
abbrev bC (X:Cx)(f:Value->Value->Sem Value)(r:R2):Prop:=
 ∀ (Y:CP) (s:Shared) (U:St) (H:Hp) (x y:V) (v u:Value) (Q:VK),Inv X Y U H s->RelV x v->RelV y u->r x y H Q->
  wpAny (model X.prog X.w) X.A (f v u) (EP X Y U Q) X.xe s
abbrev AL (X:Cx)(f:Value->Sem Value)(r:V->Hp->VK->Prop):Prop:=
 ∀ (Y:CP) (s:Shared) (U:St) (H:Hp) (x:V) (v:Value) (Q:VK),Inv X Y U H s->RelV x v->r x H Q->
  wpAny (model X.prog X.w) X.A (f v) (EP X Y U Q) X.xe s
abbrev bh (X:Cx)(f:Value)(r:List V->Hp->VK->Prop):Prop:=
 ∀ (Y:CP) (s:Shared) (U:St) (H:Hp) (xs:List V) (us:List Value) (Q:VK),Inv X Y U H s->Vals xs us->r xs H Q->
  wpAny (model X.prog X.w) X.A (call f us) (EP X Y U Q) X.xe s
abbrev Bh (X:Cx)(r:V->Hp->(Bool->Hp->Prop)->Prop):Prop:=
 ∀ (Y:CP) (s:Shared) (U:St) (H:Hp) (x:V) (v:Value) (Q:Bool->Hp->Prop),Inv X Y U H s->RelV x v->r x H Q->
  wpAny (model X.prog X.w) X.A (truthy v) (TP X Y U Q) X.xe s
abbrev AM (r:R2)(ta tb:TE):TE:=λU H Q=>ta U H λx H1=>tb U H1 λy H2=>r x y H2 Q
abbrev CI (r:V->Hp->VK->Prop)(ta:TE):TE:=λU H Q=>ta U H λx H1=>r x H1 Q
abbrev rI (C:Int->Int->Prop)(g:Int->Int->V):R2:=λx y H Q=>∃ i j,x=.int i/\y=.int j/\C i j/\Q (g i j) H
abbrev tE (g:Int->Int->V):R2:=λx y H Q=>∃ i j,x=.int i/\y=.int j/\Q (g i j) H
abbrev rU (g:Int->V):V->Hp->VK->Prop:=λx H Q=>∃ i,x=.int i/\Q (g i) H
variable {f:Value->Value->Sem Value}{r:R2}{g:Int->Int->Int}
section
variable {X:Cx}{a b c:Expr}{ta tb tc:TE}{pos:Pos}
def x8 (ha:PE X a ta)(hb:PE X b tb){R:V->V->Hp->Prop}(I:Inv X Y U H s)
  (h:ta U H λx H1=>tb U H1 λy H2=>R x y H2)
  (hf:∀ v u s2 x y H2,Inv X Y U H2 s2->RelV x v->RelV y u->R x y H2->wpAny (model X.prog X.w) X.A (f v u) Q X.xe s2):
  wpAny (model X.prog X.w) X.A (eval a X.env) (λv s₁=>wpAny (model X.prog X.w) X.A (eval b X.env) (λu s₂=>wpAny (model X.prog X.w) X.A (f v u) Q X.xe s₂) X.xe s₁) X.xe s:=by
 refine ao (ha Y s U H _ I h) λv s1 ⟨x,H1,I1,r1,q1⟩=>?_
 refine ao (hb Y s1 U H1 _ I1 q1) λu s2 ⟨y,H2,I2,r2,q2⟩=>?_
 exact hf v u s2 x y H2 I2 r1 r2 q2
def yU {op:Operator}(ho:bC X (binaryOp op) r)(ha:PE X a ta)(hb:PE X b tb):PE X (.BinOp a op b pos) (AM r ta tb):=by
 intro Y s U H Q I h;exact wpAny_BinOp (x8 ha hb I h λv u s2 x y H2 I2 rx ry q=>ho Y s2 U H2 x y v u Q I2 rx ry q)
def zN {op:UnaryOp}{r:V->Hp->VK->Prop}(ho:AL X (unaryOp op) r)(ha:PE X a ta):PE X (.UnaryOp op a pos) (CI r ta):=by
 intro Y s U H Q I h;exact UnaryOp_ (ao (ha Y s U H _ I h) λv s1 ⟨x,H1,I1,r1,q1⟩=>ho Y s1 U H1 x v Q I1 r1 q1)
def AW {C:Int->Int->Prop}
  (rule:∀ (i j:Int) (t u:Tok) (s:Shared) (Q:CO) (E:CO),C i j->Q (.int (g i j) s.toks) { s with toks:=s.toks+1 }->wpAny (model X.prog X.w) X.A (f (.int i t) (.int j u)) Q E s):
  bC X f (rI C λi j=>.int (g i j)):=by
 intro Y s U H x y v u Q I rx ry h;obtain⟨i,j,rfl,rfl,hc,q⟩:=h;obtain⟨t,rfl⟩:=rx;obtain⟨t',rfl⟩:=ry;exact rule i j t t' s _ _ hc ⟨.int (g i j),H,I.tok _,⟨_,rfl⟩,q⟩
def zZ 
  (rule:∀ (i j:Int) (t u:Tok) (s:Shared) (Q:CO) (E:CO),Q (.int (g i j) s.toks) { s with toks:=s.toks+1 }->wpAny (model X.prog X.w) X.A (f (.int i t) (.int j u)) Q E s):
  bC X f (tE λi j=>.int (g i j)):=by
 intro Y s U H x y v u Q I rx ry h;obtain⟨i,j,rfl,rfl,q⟩:=h;obtain⟨t,rfl⟩:=rx;obtain⟨t',rfl⟩:=ry;exact rule i j t t' s _ _ ⟨.int (g i j),H,I.tok _,⟨_,rfl⟩,q⟩
def uQ {g:Int->Int->Bool}
  (rule:∀ (i j:Int) (t u:Tok) (s:Shared) (Q:CO) (E:CO),Q (.bool (g i j)) s->wpAny (model X.prog X.w) X.A (f (.int i t) (.int j u)) Q E s):
  bC X f (tE λi j=>.bl (g i j)):=by
 intro Y s U H x y v u Q I rx ry h;obtain⟨i,j,rfl,rfl,q⟩:=h;obtain⟨t,rfl⟩:=rx;obtain⟨t',rfl⟩:=ry;exact rule i j t t' s _ _ ⟨.bl (g i j),H,I,rfl,q⟩
abbrev A6 (i j:Int):Prop:=0<j/\j<1073741824
abbrev uM (i j:Int):Prop:=0<=j/\j<=1000000/\i.natAbs<2 ^ 64
abbrev oi (i j:Int):Prop:=(-(2 ^ 64)<i/\i<2 ^ 64)\/(-(2 ^ 64)<j/\j<2 ^ 64)
def oi.ok {i j:Int}(h:oi i j):IntMulOk i j:=by
 rcases h with⟨h1,h2⟩|⟨h1,h2⟩
 .exact .of_left (intBits_le_64 h1 h2)
 .exact .of_right (intBits_le_64 h1 h2)
def w4:bC X (binaryOp .Add) (tE λi j=>.int (i+j)):=zZ λ_ _ _ _ _ _ _ q=>add_int q
def xF:bC X (binaryOp .Sub) (tE λi j=>.int (i-j)):=zZ λ_ _ _ _ _ _ _ q=>sub_int q
def yp:bC X (binaryOp .Mult) (rI oi λi j=>.int (i*j)):=AW λ_ _ _ _ _ _ _ hc q=>mul_int q hc.ok
def si:bC X (binaryOp .FloorDiv) (rI A6 λi j=>.int (i / j)):=AW λi j _ _ _ _ _ hc q=>by
 have h1:(0:Int)<j:=hc.1;have h2:j<1073741824:=hc.2;exact floordiv_int nofun (by rw[Int.fdiv_eq_ediv_of_nonneg i nofun];exact q) (.inl (PyProof.noPylong_small nofun))
def x6:bC X (binaryOp .Mod) (rI (λ_ j=>0<j) λi j=>.int (i % j)):=AW λi j _ _ _ _ _ hc q=>by
 have h1:(0:Int)<j:=hc;exact mod_int' nofun (by rw[Int.fmod_eq_emod_of_nonneg i nofun];exact q)
def xB:bC X (binaryOp .Pow) (rI uM λi j=>.int (i ^ j.toNat)):=AW λ_ _ _ _ _ _ _ hc q=>pow_int_small hc.1 hc.2.1 hc.2.2 q
def Cv {f:Value->Sem Value}{g:Int->Int}
  (rule:∀ (i:Int) (t:Tok) (s:Shared) (Q:CO) (E:CO),Q (.int (g i) s.toks) { s with toks:=s.toks+1 }->wpAny (model X.prog X.w) X.A (f (.int i t)) Q E s):
  AL X f (rU λi=>.int (g i)):=by
 intro Y s U H x v Q I rx h;obtain⟨i,rfl,q⟩:=h;obtain⟨t,rfl⟩:=rx;exact rule i t s _ _ ⟨.int (g i),H,I.tok _,⟨_,rfl⟩,q⟩
def xU:AL X (unaryOp .USub) (rU λi=>.int (-i)):=Cv λ_ _ _ _ _ q=>neg_int q
end
variable {op:CmpOp}
section
variable {X:Cx}{a b c:Expr}{ta tb tc:TE}{pos:Pos}
def lM {Q:VK}{k k':Bool}(I:Inv X Y U H s)(q:Q (.bl k) H)(e:k=k'):EP X Y U Q (.bool k') s:=by
 subst e;exact⟨.bl k,H,I,rfl,q⟩
def AB:bC X (compareOp .Lt) (tE λi j=>.bl (decide (i<j))):=uQ λ_ _ _ _ _ _ _ q=>lt_int q
def zQ:bC X (compareOp .LtE) (tE λi j=>.bl (decide (i<=j))):=uQ λ_ _ _ _ _ _ _ q=>le_int q
def Ao:bC X (compareOp .Gt) (tE λi j=>.bl (decide (j<i))):=uQ λ_ _ _ _ _ _ _ q=>gt_int q
def yQ:bC X (compareOp .GtE) (tE λi j=>.bl (decide (j<=i))):=uQ λ_ _ _ _ _ _ _ q=>ge_int q
def oV:bC X (compareOp .In) (λx y H Q=>∃ i j,x=.str i/\y=.str j/\Q (.bl (!(Builtin.Str.occurrences j i 0 j.length 1).isEmpty)) H):=by
 intro Y s U H x y v u Q I rx ry h;obtain⟨i,j,rfl,rfl,q⟩:=h;obtain⟨t,rfl⟩:=rx;obtain⟨t',rfl⟩:=ry;exact in_str (lM I q rfl)
def wR:bC X (compareOp .Is) (λx y H Q=>y=.non/\Q (.bl (decide (x=.non))) H):=by
 intro Y s U H x y v u Q I rx ry h;obtain⟨rfl,q⟩:=h;cases ry;refine is_none_gen (lM I q ?_);cases x<;>first
  |(cases rx;rfl)
  |(obtain⟨t,rfl⟩:=rx;rfl)
def sh:bC X (compareOp .IsNot) (λx y H Q=>y=.non/\Q (.bl (!decide (x=.non))) H):=by
 intro Y s U H x y v u Q I rx ry h;obtain⟨rfl,q⟩:=h;cases ry;refine isnot_none_gen (lM I q ?_);cases x<;>first
  |(cases rx;rfl)
  |(obtain⟨t,rfl⟩:=rx;rfl)
def ub (ho:bC X (compareOp op) r)(ha:PE X a ta)(hb:PE X b tb)(hm:behindInMarks op b=false):PE X (.Compare a [op] [b] pos) (AM r ta tb):=by
 intro Y s U H Q I h;exact wpAny_Compare1 (x8 ha hb I h λv u s2 x y H2 I2 rx ry q=>ho Y s2 U H2 x y v u Q I2 rx ry q) hm
abbrev vI (t:TE):TT:=λU H Q=>t U H λx H'=>∃ k,x=.bl k/\Q k H'
def t7 (ho:bC X (compareOp op) r)(ha:PE X a ta)(hb:PE X b tb)(hm:behindInMarks op b=false):PT X (.Compare a [op] [b] pos) (vI (AM r ta tb)):=by
 intro Y s U H Q I h;refine wpAny_isTrue_Compare1 (ao (ha Y s U H _ I h) λv s1 ⟨x,H1,I1,r1,q1⟩=>ao (hb Y s1 U H1 _ I1 q1) λu s2 ⟨y,H2,I2,r2,q2⟩=>
  ao (ho Y s2 U H2 x y v u _ I2 r1 r2 q2) λc s3 ⟨z,H3,I3,r3,k,e,q3⟩=>?_) hm
 subst e;cases r3;exact bi ⟨H3,I3,q3⟩
abbrev rE (r r':R2)(ta tb tc:TE):TE:=λU H Q=>ta U H λx H1=>tb U H1 λy H2=>r x y H2 λz H3=>∃ k,z=.bl k/\
 (if k=true then tc U H3 λw' H4=>r' y w' H4 Q else Q (.bl false) H3)
def rP {op':CmpOp}{r':R2}(ho:bC X (compareOp op) r)(ho':bC X (compareOp op') r')(ha:PE X a ta)(hb:PE X b tb)(hc:PE X c tc)
  (hm:lastMarks [op,op'] [b,c]=false:=by with_unfolding_all rfl):PE X (.Compare a [op,op'] [b,c] pos) (rE r r' ta tb tc):=by
 intro Y s U H Q I h;refine Compare_chain (ao (ha Y s U H _ I h) λv s1 ⟨x,H1,I1,r1,q1⟩=>chain_link (ao (hb Y s1 U H1 _ I1 q1) λu s2 ⟨y,H2,I2,r2,q2⟩=>
  ao (ho Y s2 U H2 x y v u _ I2 r1 r2 q2) λd s3 ⟨z,H3,I3,r3,k,e,q3⟩=>?_)) hm
 subst e;cases r3;refine bi ?_;cases k with
 |false=>exact ite_ff ⟨.bl false,H3,I3,rfl,q3⟩
 |true=>exact ite_tt (chain_last (ao (hc Y s3 U H3 _ I3 q3) λw' s4 ⟨z',H4,I4,r4,q4⟩=>ho' Y s4 U H4 y z' u w' Q I4 r2 r4 q4))
def qF {op':CmpOp}{r':R2}(ho:bC X (compareOp op) r)(ho':bC X (compareOp op') r')(ha:PE X a ta)(hb:PE X b tb)(hc:PE X c tc)
  (hm:lastMarks [op,op'] [b,c]=false:=by with_unfolding_all rfl):PT X (.Compare a [op,op'] [b,c] pos) (vI (rE r r' ta tb tc)):=by
 intro Y s U H Q I h;refine isTrue_chain (ao (ha Y s U H _ I h) λv s1 ⟨x,H1,I1,r1,q1⟩=>test_link (ao (hb Y s1 U H1 _ I1 q1) λu s2 ⟨y,H2,I2,r2,q2⟩=>
  ao (ho Y s2 U H2 x y v u _ I2 r1 r2 q2) λd s3 ⟨z,H3,I3,r3,k,e,q3⟩=>?_)) hm
 subst e;cases r3;refine bi ?_;cases k with
 |false=>
  obtain⟨k',e',q'⟩:=q3;cases e';exact ite_ff ⟨H3,I3,q'⟩
 |true=>
  refine ite_tt (test_last (ao (hc Y s3 U H3 _ I3 q3) λw' s4 ⟨z',H4,I4,r4,q4⟩=>ao (ho' Y s4 U H4 y z' u w' _ I4 r2 r4 q4) λd' s5 ⟨z2,H5,I5,r5,k2,e2,q5⟩=>?_));subst e2;cases r5;exact bi ⟨H5,I5,q5⟩
abbrev sJ (K:W.Frag)(x:V)(H:Hp)(k:Bool):Prop:=
 match x with
 | .non=>k=false
 | .bl b=>k=b
 | .int i=>k=(i != 0)
 | .str y=>y.length<=bn/\k=((y.length:Int) != 0)
 | .byt y=>y.size<=bn/\k=((y.size:Int) != 0)
 | .ref p=>(∃ xs,aA K H p xs/\k= !xs.isEmpty)\/(∃ xs,bY K H p xs/\k= !xs.isEmpty)\/∃ kvs,H p=some (.dK kvs)/\k= !kvs.isEmpty
 |_=>False
def lO {κ:Type}{kvs:List (κ×V)}{vs:List (κ×Value)}(r:KV kvs vs):(!vs.isEmpty)= !kvs.isEmpty:=by
 cases r<;>rfl
def f6 {its:List Value}(r:Vals xs its):(!its.toArray.isEmpty)= !xs.isEmpty:=by
 cases r<;>simp
def di:(bn:Nat)<2 ^ 63:=by rw[sizeLine_eq];decide
def xa:Bh X (λx H Q=>∃ k,sJ X.K x H k/\Q k H):=by
 intro Y s U H x v Q I rx h;obtain⟨k,e,q⟩:=h;have hl:=di;have hs:bn=16777216:=sizeLine_eq;cases x with
 |non=>
  cases rx;have e':k=false:=e;subst e';exact truthy_none ⟨H,I,q⟩
 |bl b=>
  cases rx;have e':k=b:=e;subst e';exact bi ⟨H,I,q⟩
 |int i=>
  obtain⟨t,rfl⟩:=rx;have e':k=(i != 0):=e;subst e';exact PySem.P.truthy_int ⟨H,I,q⟩
 |str y=>
  obtain⟨t,rfl⟩:=rx;obtain⟨hy,e'⟩:y.length<=bn/\k=((y.length:Int) != 0):=e;subst e';exact PySem.P.truthy_str nofun ⟨H,I.tok _,q⟩
 |byt y=>
  obtain⟨t,rfl⟩:=rx;obtain⟨hy,e'⟩:y.size<=bn/\k=((y.size:Int) != 0):=e;subst e';exact W.truthy_bytes nofun ⟨H,I.tok _,q⟩
 |ref p=>
  cases rx;have e':(∃ xs,aA X.K H p xs/\k= !xs.isEmpty)\/(∃ xs,bY X.K H p xs/\k= !xs.isEmpty)\/∃ kvs,H p=some (.dK kvs)/\k= !kvs.isEmpty:=e;rcases e' with⟨xs,hx,e'⟩|⟨xs,hx,e'⟩|⟨kvs,hx,e'⟩
  .subst e';obtain⟨its,r,pl,hz⟩:=I.list hx;have hlen:=r.length;exact wpAny_truthy_list pl.isList (by simp only[ge];omega) ⟨H,I.tok _,by rw[f6 r];exact q⟩
  .subst e';obtain⟨its,r,pl,hz⟩:=I.tuple hx;have hlen:=r.length;exact truthy_tuple pl (by simp only[ge];omega) ⟨H,I.tok _,by rw[f6 r];exact q⟩
  .subst e';obtain⟨hz,hS,vs,r,m⟩:kvs.length<=bn/\(p ==sysModules)=false/\∃ vs,KV kvs vs/\s.heap.DictOf (aq X.prog X.w) p vs:=I.hok p _ hx;have hlen:kvs.length=vs.length:=Paired.length r;exact wpAny_truthy_dict hS m nofun ⟨H,I.tok _,by rw[lO r];exact q⟩
 |_=>exact(show False from e).elim
def qN (ha:PE X a ta)(he:∀ whole,isTrue a X.env whole=(do let v <-whole;standAt a.pos;holding [v] (truthy v))):
  PT X a (λU H Q=>ta U H λx H'=>∃ k,sJ X.K x H' k/\Q k H'):=by
 intro Y s U H Q I h;exact isTrue_plain (ao (ha Y s U H _ I h) λv s1 ⟨x,H1,I1,r1,q1⟩=>xa Y s1 U H1 x v Q I1 r1 q1) (he _)
def lh:bC X (binaryOp .Add) (λx y H Q=>∃ i j,x=.str i/\y=.str j/\i.length+j.length<=bn/\Q (.str (i++j)) H):=by
 intro Y s U H x y v u Q I rx ry h;obtain⟨i,j,rfl,rfl,hz,q⟩:=h;obtain⟨t,rfl⟩:=rx;obtain⟨t',rfl⟩:=ry;exact add_str (λt' tk=>⟨.str (i++j),H,I.tok _,⟨_,rfl⟩,q⟩) hz
def vals1 {x:V}(r:Vals [x] us):∃ u,us=[u]/\RelV x u:=by
 cases r with
 |cons r1 r2=>cases r2;exact⟨_,rfl,r1⟩
def vals2 {x y:V}(r:Vals [x,y] us):∃ u w',us=[u,w']/\RelV x u/\RelV y w':=by
 cases r with
 |cons r1 r2=>
  cases r2 with
  |cons r3 r4=>cases r4;exact⟨_,_,rfl,r1,r3⟩
def nQ (hc:X.calm=true):bh X (.builtin "min") (λxs H Q=>∃ i j,xs=[.int i,.int j]/\Q (.int (if j<i then j else i)) H):=by
 intro Y s U H xs us Q I r h;obtain⟨i,j,rfl,q⟩:=h;obtain⟨u,w',rfl,⟨t,rfl⟩,⟨t',rfl⟩⟩:=vals2 r;refine min_two_ints (I.ok.hd hc) λh' tk k=>⟨_,H,I.kept k,?_,q⟩
 by_cases hj:j<i
 .rw[if_pos hj,if_pos hj];exact⟨_,rfl⟩
 .rw[if_neg hj,if_neg hj];exact⟨_,rfl⟩
def nz:bh X (.type "int") (λxs H Q=>(∃ i,xs=[.int i]/\Q (.int i) H)\/∃ k,xs=[.bl k]/\Q (.int (if k then 1 else 0)) H):=by
 intro Y s U H xs us Q I r h;rcases h with⟨i,rfl,q⟩|⟨k,rfl,q⟩
 .obtain⟨u,rfl,t,rfl⟩:=vals1 r;exact call_int_int ⟨.int i,H,I,⟨_,rfl⟩,q⟩
 .obtain⟨u,rfl,r1⟩:=vals1 r;cases r1;exact call_int_bool ⟨.int (if k then 1 else 0),H,I.tok _,⟨_,rfl⟩,q⟩
def i6:bh X (.type "str") (λxs H Q=>∃ i,xs=[.int i]/\i.natAbs.log2<1920/\Q (.str (toString i)) H):=by
 intro Y s U H xs us Q I r h;obtain⟨i,rfl,hz,q⟩:=h;obtain⟨u,rfl,t,rfl⟩:=vals1 r;exact PySem.P.str_of_int hz ⟨.str _,H,I.tok _,⟨_,rfl⟩,q⟩
abbrev zV (K:W.Frag)(x:V)(H:Hp)(n:Nat):Prop:=
 match x with
 | .str y=>y.length<=bn/\n=y.length
 | .byt y=>y.size<=bn/\n=y.size
 | .ref p=>(∃ xs,aA K H p xs/\n=xs.length)\/∃ xs,bY K H p xs/\n=xs.length
 |_=>False
def qp:bh X (.builtin "len") (λxs H Q=>∃ x n,xs=[x]/\zV X.K x H n/\Q (.int n) H):=by
 intro Y s U H xs us Q I r h;obtain⟨x,n,rfl,e,q⟩:=h;obtain⟨u,rfl,rx⟩:=vals1 r;have hl:=di;have hs:bn=16777216:=sizeLine_eq;cases x with
 |str y=>
  obtain⟨t,rfl⟩:=rx;obtain⟨hy,e'⟩:y.length<=bn/\n=y.length:=e;subst e';exact len_str nofun ⟨.int _,H,I.tok _,⟨_,rfl⟩,q⟩
 |byt y=>
  obtain⟨t,rfl⟩:=rx;obtain⟨hy,e'⟩:y.size<=bn/\n=y.size:=e;subst e';exact W.len_bytes nofun ⟨.int _,H,I.tok _,⟨_,rfl⟩,q⟩
 |ref p=>
  cases rx;have e':(∃ xs,aA X.K H p xs/\n=xs.length)\/∃ xs,bY X.K H p xs/\n=xs.length:=e;rcases e' with⟨xs,hx,e'⟩|⟨xs,hx,e'⟩
  .subst e';obtain⟨its,r',pl,hz⟩:=I.list hx;have hlen:=r'.length;exact Calls.call_len_list pl.isList (by simp only[ge];omega) ⟨.int xs.length,H,I.tok _,⟨_,by simp only[ge];rw[hlen]⟩,q⟩
  .subst e';obtain⟨its,r',pl,hz⟩:=I.tuple hx;have hlen:=r'.length;exact len_tuple pl (by simp only[ge];omega) ⟨.int xs.length,H,I.tok _,⟨_,by simp only[ge];rw[hlen]⟩,q⟩
 |_=>exact(show False from e).elim
end
structure lR (h:Heap) (x dx C:Addr) (mA:CQ):Prop where
 obj:h.get? x=some (W.instObj C dx)
 ns:h.Ns1 dx mA
 ne:dx≠x
variable {mA:CQ}
def dY {dx:Addr}(n:h.Ns1 dx mA):∃ od,h.get? dx=some od/\∀ name,W.lookIn name od=some (mA name):=by
 obtain⟨o,es,ep,ho,hd,hk,_,hm⟩:=n;refine⟨o,ho,λname=>?_⟩;have e:=hm name;unfold nsFind findBy at e;rw[<-Array.find?_toList]at e;unfold W.lookIn;rw[hd];dsimp only
 split
 .rename_i y q;rw[q]at e;exact congrArg some e
 .rename_i q;rw[q]at e;have a:es.toList.any (·.refKey)=false:=by
   rw[any_eq_false];intro y hy;obtain⟨z,t,hkey⟩:=hk y (Array.mem_toList_iff.mp hy);simp[DictEntry.refKey,hkey]
  have a':¬ es.toList.any (·.refKey)=true:=by rw[a];exact Bool.false_ne_true
  rw[if_neg a'];exact congrArg some e
variable {C:Addr}
def lR.look {x dx:Addr}(I:lR h x dx C mA):∃ od,W.InstAt h x (W.instObj C dx) C (some od)/\∀ name,W.lookIn name od=some (mA name):=
 let⟨od,ho,hl⟩:=dY I.ns
 ⟨od,⟨I.obj,rfl,rfl,ho⟩,hl⟩
variable {pl:Sem Bool}{kw:List (Str×Value)}
section
variable {prog:Program}{w:World}{A:Around}{E:CO}{s:Shared}{K:W.Frag}{x dx C f:Addr}{mA:CQ}{name:Str}{v:Value}
def get_map {expr:Bool}(X:K.In s.heap)(I:lR s.heap x dx C mA)(hg:W.plainGet K C name=true)(hh:W.hasDictIn K C=true)
  (ha:W.findIn K (.ref C) name=some none) (hv:mA name=some v) (hv':W.handedIn v=true) (h:Q v { s with toks:=s.toks+1 }):
  wpAny (model prog w) A (getAttr (.ref x) name expr) Q E s:=by
 obtain⟨od,J,hl⟩:=I.look;exact W.get_value X J (W.plainGet_of hg).1 (W.findObj_own hh ha rfl (by rw[hl,hv])) hv' h
def rh {Q:Value×List Value->Shared->Prop}(X:K.In s.heap)(I:lR s.heap x dx C mA)(hg:W.plainGet K C name=true)
  (hf:W.findIn K (.ref C) name=some (some (.ref f))) (ht:W.isFn K (.ref f)=true) (hv:mA name=none) (h:Q (.ref f,[.ref x]) s):
  wpAny (model prog w) A (getMethod (.ref x) name pl) Q E s:=by
 obtain⟨od,J,hl⟩:=I.look;exact W.method_fn X J (W.plainGet_of hg).1 (W.plainGet_of hg).2 hf (beq_iff_eq.mp ht) (by show(W.lookIn name od).map (·.isSome)=some false;rw[hl,hv];rfl) h
def uC {ns:List Str}{Q:CN}(X:K.In s.heap)(I:lR s.heap x dx C mA)
  (hs:W.findIn K (.ref C) "__setattr__"=some (some (.builtin "object.__setattr__"))) (hp:W.plainOver K C=true) (ht:W.takerIn K C name=some none) (hh:W.hasDictIn K C=true)
  (hw:PySem.Within mA ns) (hsz:ns.length<=bn)
  (h:∀ h',lR h' x dx C (λy=>if y=name then some v else mA y)->Heap.SameBut dx s.heap h'->Q () { s with heap:=h',toks:=s.toks+2 }):
  wpAny (model prog w) A (setAttr (.ref x) name v) Q E s:=by
 obtain⟨od,J,hl⟩:=I.look;refine W.set_plain X J hs (W.osa_open (s:={ s with toks:=s.toks+1 }) (r:=none) X J hp ht λb=>?_);obtain⟨cd,hc,hd'⟩:=W.any_some hh;have hx:s.heap.get? x=some ⟨.ref C,some dx,.plain,#[]⟩:=I.obj;refine am (ap (am (am (wpAny_loadPart hx (am (W.Looks.here (s:={ s with toks:=s.toks+1 }) (W.looks_clsIn X hc) ?_))))));rw[hd'];refine ap (a:=some dx) (am (ap (am ?_)));refine wpAny_nsSet1 (s:={ s with toks:=s.toks+1 }) I.ns λh' hn2 hs2=>?_
 obtain⟨oD,esD,epD,hoD,hdD,hcD⟩:=hn2.count (PySem.Within.cons name v hw);refine am (wpAny_lookBehind hoD (by rw[hdD];exact pastItsLine_dict (Nat.le_trans hcD (by rw[length_cons];omega))) ?_);exact ap (h _ ⟨(hs2.2 _ (Ne.symm I.ne)).trans I.obj,hn2,I.ne⟩ hs2)
def qd {R:Result->Shared->Prop}{vs:List Value}(X:K.In s.heap)(hm:W.makesIn K C=true)
  (hi:W.findIn K (.ref C) "__init__"=some (some (.ref f))) (hf:W.typeIn K (.ref f)=some (.type "function"))
  (h:codeAny (model prog w) (A.under (.builtin "type.__call__" ⟨.ref C::vs,kw⟩)) (.call (.ref f) ⟨.ref (s.heap.objs.size+1)::vs,kw⟩) (W.InitBack (s.heap.objs.size+1) R)
   { s with heap:=(s.heap.push W.emptyDict).push (W.instObj C s.heap.objs.size) }):
  codeAny (model prog w) A (.call (.ref C) ⟨vs,kw⟩) R s:=by
 obtain⟨hh,g,d,t,os⟩:=s;exact W.make_core (W.makes_of X hm) (W.looks_findIn X hi) (λself=>W.bind_fn X self hf) (.inl rfl) h
end
abbrev bt (f:Str)(v:V):List (Str×V)->List (Str×V)
 | []=>[(f,v)]
 |(g,x)::r=>if g=f then(g,v)::r else(g,x)::bt f v r
def cE (f g:Str)(v:V):∀ fs:List (Str×V),(bt f v fs).lookup g=if g=f then some v else fs.lookup g
 | []=>by
  show List.lookup g [(f,v)]=_
  by_cases h:g=f
  .have hb:(g ==f)=true:=beq_iff_eq.mpr h;simp only[List.lookup,hb,if_pos h]
  .have hb:(g ==f)=false:=beq_eq_false_iff_ne.mpr h;simp only[List.lookup,hb,if_neg h]
 |(k,x)::r=>by
  have ih:=cE f g v r;rw[show bt f v ((k,x)::r)=(if k=f then(k,v)::r else(k,x)::bt f v r) from rfl]
  by_cases hk:k=f
  .rw[if_pos hk]
   by_cases h:g=k
   .have hb:(g ==k)=true:=beq_iff_eq.mpr h;simp only[List.lookup,hb,if_pos (h.trans hk)]
   .have hb:(g ==k)=false:=beq_eq_false_iff_ne.mpr h;simp only[List.lookup,hb,if_neg (λe:g=f=>h (e.trans hk.symm))]
  .rw[if_neg hk]
   by_cases h:g=k
   .have hb:(g ==k)=true:=beq_iff_eq.mpr h;simp only[List.lookup,hb,if_neg (λe:g=f=>hk (h.symm.trans e))]
   .have hb:(g ==k)=false:=beq_eq_false_iff_ne.mpr h;simp only[List.lookup,hb];exact ih
def bE (f:Str)(v:V):∀ fs:List (Str×V),f ∈ (bt f v fs).map (·.1)/\∀ g,g ∈ fs.map (·.1)->g ∈ (bt f v fs).map (·.1)
 | []=>⟨by simp[bt],λg h=>by simp at h⟩
 |(k,x)::r=>by
  obtain⟨i1,i2⟩:=bE f v r;rw[show bt f v ((k,x)::r)=(if k=f then(k,v)::r else(k,x)::bt f v r) from rfl]
  by_cases hk:k=f
  .rw[if_pos hk];subst hk;exact⟨by simp,λg h=>by simpa using h⟩
  .rw[if_neg hk];refine⟨?_,λg h=>?_⟩
   .rw[map_cons];exact dl _ i1
   .rw[map_cons]at h⊢;rcases lf.mp h with e|e
    .exact lf.mpr (.inl e)
    .exact dl _ (i2 g e)
def ck (f:Str)(v:V):∀ fs:List (Str×V),(bt f v fs).length<=fs.length+1
 | []=>by simp[bt]
 |(k,x)::r=>by
  have ih:=ck f v r;rw[show bt f v ((k,x)::r)=(if k=f then(k,v)::r else(k,x)::bt f v r) from rfl]
  by_cases hk:k=f
  .rw[if_pos hk,length_cons,length_cons];omega
  .rw[if_neg hk,length_cons,length_cons];omega
def bG.some_of {o:Option Value}(r:bG (some v) o):∃ u,o=some u/\RelV v u:=by
 cases o with
 |none=>exact(show False from r).elim
 |some u=>exact⟨u,rfl,r⟩
def bG.none_of {o:Option Value}(r:bG none o):o=none:=by
 cases o with
 |none=>rfl
 |some u=>exact(show False from r).elim
def iq (r:RelV v u):W.handedIn u=true:=by
 cases v with
 |non=>cases(show u=Value.none from r);rfl
 |bl b=>cases(show u=Value.bool b from r);rfl
 |int i=>obtain⟨t,e⟩:=(show ∃ t,u=Value.int i t from r);cases e;rfl
 |str x=>obtain⟨t,e⟩:=(show ∃ t,u=Value.str x t from r);cases e;rfl
 |byt b=>obtain⟨t,e⟩:=(show ∃ t,u=Value.bytes b t from r);cases e;rfl
 |flt b=>obtain⟨t,e⟩:=(show ∃ t,u=Value.float b t from r);cases e;rfl
 |ref a=>cases(show u=Value.ref a from r);rfl
 |ty n=>cases(show u=Value.type n from r);rfl
section
variable {P:Program}{w:World}{H H':Hp}{h h':Heap}{a C dx:Addr}{fs fs':List (Str×V)}
def cJ (hok:dc P w H h)(e:H a=some (.ins C dx fs)):∃ mA,lR h a dx C mA/\(∀ f,bG (fs.lookup f) (mA f))/\PySem.Within mA (fs.map (·.1))/\fs.length<=1000/\H dx=some (.own a):=by
 obtain⟨d,z,ne,ob,mA,n,r,q⟩:=(show ai P w H h a (.ins C dx fs) from hok a _ e);exact⟨mA,⟨ob,n,ne⟩,r,q,z,d⟩
end
structure tf (K:W.Frag) (C:Addr):Prop where
 pg:W.plainGet K C Str.empty=true
 hd:W.hasDictIn K C=true
 po:W.plainOver K C=true
 sa:W.findIn K (.ref C) "__setattr__"=some (some (.builtin "object.__setattr__"))
def tf.get (c:tf K C)(f:Str):W.plainGet K C f=true:=c.pg
abbrev cj (K:W.Frag)(C:Addr)(f:Str):Prop:=W.findIn K (.ref C) f=some none
def cj.yJ {f:Str}(n:cj K C f):W.takerIn K C f=some none:=by
 unfold W.takerIn;rw[show W.findIn K (.ref C) f=some none from n]
 rfl
structure Meth (K:W.Frag) (C:Addr) (m:Str) (f:Addr):Prop where
 at_:W.findIn K (.ref C) m=some (some (.ref f))
 fn:W.isFn K (.ref f)=true
 kp:W.keepIn K (.ref f)=true
section
variable {X:Cx}{Y:CP}{U:St}{H:Hp}{s:Shared}{a C dx:Addr}{fs:List (Str×V)}{f:Str}{v:V}{A:Around}{E:CO}
def gb {b:Bool}(I:Inv X Y U H s)(e:H a=some (.ins C dx fs))(c:tf X.K C)(n:cj X.K C f)(l:fs.lookup f=some v)
  (h:∀ u s',Inv X Y U H s'->RelV v u->Q u s'):wpAny (model X.prog X.w) A (getAttr (.ref a) f b) Q E s:=by
 obtain⟨mA,O,r,_,_,_⟩:=cJ I.hok e;obtain⟨u,hu,ru⟩:=bG.some_of (v:=v) (o:=mA f) (by rw[<-l];exact r f);exact get_map I.aR O (c.get f) c.hd n hu (iq ru) (h u _ (I.tok _) ru)
def kR {m:Str}{g:Addr}{Q:Value×List Value->Shared->Prop}(I:Inv X Y U H s)(e:H a=some (.ins C dx fs))(c:tf X.K C)(k:Meth X.K C m g)(l:fs.lookup m=none)
  (h:Q (.ref g,[.ref a]) s):wpAny (model X.prog X.w) A (getMethod (.ref a) m pl) Q E s:=by
 obtain⟨mA,O,r,_,_,_⟩:=cJ I.hok e;have hn:mA m=none:=bG.none_of (by rw[<-l];exact r m);exact rh I.aR O (c.get m) k.at_ k.fn hn h
def fT {y:V}{Q:CN}(I:Inv X Y U H s)(e:H a=some (.ins C dx fs))(c:tf X.K C)(n:cj X.K C f)(hl:fs.length<1000)(ry:RelV y u)
  (h:∀ s',Inv X Y U (upd H a (.ins C dx (bt f y fs))) s'->Q () s'):wpAny (model X.prog X.w) A (setAttr (.ref a) f u) Q E s:=by
 obtain⟨mA,O,r,wi,_,ho⟩:=cJ I.hok e;have hz:(fs.map (·.1)).length<=bn:=by rw[ce,sizeLine_eq];omega
 refine uC I.aR O c.sa c.po n.yJ c.hd wi hz λh' O' sb=>h _ ?_
 have hd:∃ o,h'.get? dx=some o:=let⟨o,_,_,e',_⟩:=O'.ns;⟨o,e'⟩;refine I.write (x:=a) (e:=dx) (by rw[e];exact True.intro) (.inr ho) (λb q hb z=>(sb.2 b hb).trans z) hd ?_;refine⟨by rw[ae O.ne];exact ho,?_,O.ne,O'.obj,_,O'.ns,λg=>?_,λg hg=>?_⟩
 .have:=ck f y fs;omega
 .show bG ((bt f y fs).lookup g) (if g=f then some u else mA g);rw[cE]
  by_cases q:g=f
  .rw[if_pos q,if_pos q];exact ry
  .rw[if_neg q,if_neg q];exact r g
 .by_cases q:g=f
  .rw[q];exact(bE f y fs).1
  .refine(bE f y fs).2 g (wi g λz=>hg ?_);show(if g=f then some u else mA g)=none;rw[if_neg q];exact z
def Inv.made (I:Inv X Y U H s):Inv X Y U (upd (upd H s.heap.objs.size (.own (s.heap.objs.size+1))) (s.heap.objs.size+1) (.ins C s.heap.objs.size []))
  { s with heap:=(s.heap.push W.emptyDict).push (W.instObj C s.heap.objs.size) }:=by
 have e1:(s.heap.push W.emptyDict).get? s.heap.objs.size=some W.emptyDict:=sK s.heap rfl;have e2:((s.heap.push W.emptyDict).push (W.instObj C s.heap.objs.size)).get? (s.heap.objs.size+1)=some (W.instObj C s.heap.objs.size):=by
  have:=sK (s.heap.push W.emptyDict) (o:=W.instObj C s.heap.objs.size) rfl
  rwa [Heap.size_push]at this
 have e3:(s.heap.push W.emptyDict).Ns s.heap.objs.size (λ_=>none):=⟨W.emptyDict,#[],_,e1,rfl,(λe he=>absurd he (by simp)),λ_=>rfl⟩;have I1:=I.laid (a:=s.heap.objs.size) (o:=.own (s.heap.objs.size+1)) (h':=s.heap.push W.emptyDict) (t':=s.toks) (λb u q=>ss _ q) (pc _) ⟨_,e1⟩;refine I1.laid (a:=s.heap.objs.size+1) (o:=.ins C s.heap.objs.size []) (t':=s.toks) (λb u q=>ss _ q) (Nat.le_of_eq (Heap.size_push _ _)) ?_;have ne:s.heap.objs.size≠s.heap.objs.size+1:=nl (Nat.lt_succ_self _);refine⟨by rw[ae ne,ah],Nat.zero_le _,ne,e2,λ_=>none,(Heap.Ns1.of_empty e3).at λo q=>ss _ q,λ_=>True.intro,λy hy=>absurd rfl hy⟩
def uh {prog:Program}{env:Env}(hb:attributeBase e f env (eval e env)=eval e env)
  (h:wpAny (model prog w) A (eval e env) (λo s₁=>wpAny (model prog w) A (getAttr o f true) Q E s₁) E s):wpAny (model prog w) A (eval (.Attribute e f pos) env) Q E s:=
 Attribute_any_ h (by rw[arm_eval_Attribute,hb])
end
section
variable {X:Cx}{o e value:Expr}{f:Str}{pos pos' tpos:Pos}{ta tv:TE}
end
section
variable {X:Cx}{Y:CP}{U:St}{H:Hp}{s:Shared}{A:Around}{E:CO}{Q:CO}{c:Value}{b:Bool}
inductive dC (K:W.Frag) (H:Hp):V->Value->Prop where
 |non:dC K H .non (.type "NoneType")
 |bl (x:Bool):dC K H (.bl x) (.type "bool")
 |int (i:Int):dC K H (.int i) (.type "int")
 |str (x:Str):dC K H (.str x) (.type "str")
 |flt (x:UInt64):dC K H (.flt x) (.type "float")
 |lst {a:Addr}{xs:List V}(e:H a=some (.lst xs)):dC K H (.ref a) (.type "list")
 |fL {a:Addr}{o:Obj}{xs:List V}(e:H a=some (.fL o (.lst xs))):dC K H (.ref a) (.type "list")
 |tup {a:Addr}{xs:List V}(e:H a=some (.tup xs)):dC K H (.ref a) (.type "tuple")
 |dK {a:Addr}{kvs:List (Key×V)}(e:Rd H a (.dK kvs)):dC K H (.ref a) (.type "dict")
 |dT {a:Addr}{kvs:List (List Key×V)}(e:H a=some (.dT kvs)):dC K H (.ref a) (.type "dict")
 |ins {a C dx:Addr}{fs:List (Str×V)}(e:H a=some (.ins C dx fs)) (cl:tf K C) (ha:W.findIn K (.ref C) "__class__"=some (some (.builtin "object.__class__")))
   (hn:W.specialIn K (.builtin "object.__class__") "__get__"=some (some (.builtin "getset_descriptor.__get__"))) (htk:W.takesIn K (.builtin "object.__class__")=some true)
   (hm:W.mroIn K C (.type "object")=some true):dC K H (.ref a) (.ref C)
def dZ {x:V}{t:Value}(I:Inv X Y U H s)(rx:RelV x u)(ty:dC X.K H x t)(e:W.kitOne X.K t c=some b)(h:∀ tk,Q (.bool b) { s with toks:=tk }):
  wpAny (model X.prog X.w) A (call (.builtin "isinstance") [u,c]) Q E s:=by
 cases ty with
 |non=>cases(show u=Value.none from rx);exact W.kia_one W.kitx_none I.aR True.intro e (λz=>nomatch z) h
 |bl y=>cases(show u=Value.bool y from rx);exact W.kia_one W.kitx_bool I.aR True.intro e (λz=>nomatch z) h
 |int i=>obtain⟨t,q⟩:=(show ∃ t,u=Value.int i t from rx);cases q;exact W.kia_one W.kitx_int I.aR True.intro e (λz=>nomatch z) h
 |str y=>obtain⟨t,q⟩:=(show ∃ t,u=Value.str y t from rx);cases q;exact W.kia_one W.kitx_str I.aR True.intro e (λz=>nomatch z) h
 |flt y=>obtain⟨t,q⟩:=(show ∃ t,u=Value.float y t from rx);cases q;exact W.kia_one W.kitx_float I.aR True.intro e (λz=>nomatch z) h
 | @lst a xs ea=>
  cases(show u=Value.ref a from rx);obtain⟨_,_,n,_,h1⟩:=(show ai X.prog X.w H s.heap a (.lst xs) from I.hok a _ ea);exact W.kia_one W.kitx_list I.aR ⟨_,h1,rfl⟩ e (λz=>nomatch z) h
 | @fL a ob xs ea=>
  cases(show u=Value.ref a from rx);obtain⟨_,_,_,n,_,h1⟩:=(show ai X.prog X.w H s.heap a (.fL ob (.lst xs)) from I.hok a _ ea);exact W.kia_one W.kitx_list I.aR ⟨_,h1,rfl⟩ e (λz=>nomatch z) h
 | @tup a xs ea=>
  cases(show u=Value.ref a from rx);obtain⟨_,_,_,p⟩:=(show ai X.prog X.w H s.heap a (.tup xs) from I.hok a _ ea);obtain⟨o,h1,h2,_⟩:=p;exact W.kia_one W.kitx_tuple I.aR ⟨o,h1,h2⟩ e (λz=>nomatch z) h
 | @dK a kvs ea=>
  cases(show u=Value.ref a from rx);obtain⟨_,_,vs,_,p⟩:=(show ai X.prog X.w H s.heap a (.dK kvs) from ea.ok I.hok);obtain⟨o,es,ep,h1,h2,_⟩:=p;exact W.kia_one W.kitx_dict I.aR ⟨o,h1,h2.1⟩ e (λz=>nomatch z) h
 | @dT a kvs ea=>
  cases(show u=Value.ref a from rx);obtain⟨_,_,xs,_,o,es,ep,h1,h2,_⟩:=(show ai X.prog X.w H s.heap a (.dT kvs) from I.hok a _ ea);exact W.kia_one W.kitx_dict I.aR ⟨o,h1,h2.1⟩ e (λz=>nomatch z) h
 | @ins a C dx fs ea cl ha hn htk hm=>
  cases(show u=Value.ref a from rx);obtain⟨mA,O,_⟩:=cJ I.hok ea;obtain⟨od,J,_⟩:=O.look;exact W.kia_one (W.kitx_own (cl.get _) cl.hd ha hn htk hm) I.aR J e (λz=>nomatch z) h
end
structure aP (k:Nat) (A:Around):Prop where
 hd:A.handled=none
 dp:A.depth+3*k+5<recursionLimit
 un:A.units+16*k+200<cLine
def aP.mono {j:Nat}(r:aP k A)(h:j<=k):aP j A:=⟨r.hd,by have:=r.dp;omega,by have:=r.un;omega⟩
def aP.deeper (r:aP (k+1) A)(env:Env):aP k (A.deeper env):=
 ⟨r.hd,by have:=r.dp;show A.depth+1+3*k+5<_;omega,by have:=r.un;show A.units+3+16*k+200<_;omega⟩
def lj:(A.under (.builtin "type.__call__" ⟨.ref C::us,kw⟩)).depth=A.depth+1:=by
 first|rfl|simp[Around.under,Code.weight,Code.isCreation,Code.isGuard,Code.isCaller,Code.frames,Code.isFrame,guardIds]
def kI:(A.under (.builtin "type.__call__" ⟨.ref C::us,kw⟩)).units=A.units+1:=by
 first|rfl|simp[Around.under,Code.cUnits,Code.frames,Code.isFrame]
def aP.make (r:aP (k+1) A)(C:Addr)(us:List Value)(kw:List (Str×Value)):aP k (A.under (.builtin "type.__call__" ⟨.ref C::us,kw⟩)):=
 ⟨r.hd,by have:=r.dp;rw[lj];omega,by have:=r.un;rw[kI];omega⟩
def aP.depth (r:aP k A):A.depth<recursionLimit:=by have:=r.dp;omega
abbrev tI:TA:=λ_ H Q=>Q [] H
abbrev vG (ta:TE)(tr:TA):TA:=λU H Q=>ta U H λx H1=>tr U H1 λxs H2=>Q (x::xs) H2
section
variable {X:Cx}{e:Expr}{es:List Expr}{te:TE}{t:TA}{pos:Pos}
def cY:PA X [] tI:=λ_ _ _ _ H Q I h=>Calls.spliced_nil ⟨[],H,I,.nil,h⟩
def ux (ha:PE X e te)(hr:PA X es t)(hs:bm (e::es) X.env=(false,eval e X.env)::bm es X.env:=by rfl):PA X (e::es) (vG te t):=by
 intro pos Y s U H Q I h;rw[hs];show wpAny _ _ (spliced ((false,eval e X.env)::backTo pos (bm es X.env))) _ _ s;refine Calls.spliced_cons (ao (ha Y s U H _ I h) λu s1 ⟨x,H1,I1,r1,q1⟩=>?_);exact ao (hr pos Y s1 U H1 _ I1 q1) λus s2 ⟨xs,H2,I2,r2,q2⟩=>⟨x::xs,H2,I2,.cons r1 r2,q2⟩
abbrev Bt (t:TA):TE:=λU H Q=>t U H λxs H1=>xs.length<=bn/\∀ p,H1 p=none->Q (.ref p) (upd H1 p (.tup xs))
abbrev BB (t:TA):TE:=λU H Q=>t U H λxs H1=>xs.length<=bn/\∀ p,H1 p=none->Q (.ref p) (upd H1 p (.lst xs))
def pW {x1} (h:PA X es t):PE X (.Tuple es x1 pos) (Bt t):=by
 intro Y s U H Q I hq;refine wpAny_Tuple_spliced (ao (h pos Y s U H _ I hq) λus s1 ⟨xs,H1,I1,r,z,q⟩=>⟨by rw[<-r.length];exact z,?_⟩);have hf:H1 s1.heap.objs.size=none:=I1.hok.fresh (pc _);refine⟨.ref s1.heap.objs.size,upd H1 s1.heap.objs.size (.tup xs),I1.laid (t':=s1.toks) (λb u e=>ss _ e) (pc _) ?_,rfl,q _ hf⟩;exact⟨z,us,r,⟨_,sK _ rfl,rfl,_,rfl⟩⟩
def vR (h:PA X es t):PE X (.List es pos) (BB t):=by
 intro Y s U H Q I hq;refine wpAny_List_spliced (ao (h pos Y s U H _ I hq) λus s1 ⟨xs,H1,I1,r,z,q⟩=>⟨by rw[<-r.length];exact z,?_⟩);have hf:H1 s1.heap.objs.size=none:=I1.hok.fresh (pc _);refine⟨.ref s1.heap.objs.size,upd H1 s1.heap.objs.size (.lst xs),I1.laid (t':=s1.toks) (λb u e=>ss _ e) (pc _) ?_,rfl,q _ hf⟩;exact⟨z,us,0,r,sK _ rfl⟩
end
@[reducible]def Sp:=List V->Hp->VK->XK->Prop
@[reducible]def mN:=List Env->Hp->Shared->XK->Value->Shared->Prop
structure kP (P:Program) (w:World) (K:W.Frag) (mg:CQ) (base:Heap) (A:Around) (outer:List Env) (s:Shared) (H:Hp):Prop where
 frames:A.frames=some outer
 mod:Mod K mg base
 bs:∀ b o,base.get? b=some o->s.heap.get? b=some o/\H b=none
 bsz:base.objs.size<=s.heap.objs.size
 eJ:s.heap.FunFrames base outer
 frf:∀ b ∈ iH outer,H b=none
 hok:dc P w H s.heap
 bare:AllBare s.gens
abbrev CE (outer:List Env)(P:Program)(w:World)(H:Hp)(s:Shared)(Q:VK)(u:Value)(s':Shared):Prop:=
 ∃ v H',s'.os=s.os/\AllBare s'.gens/\Un (iH outer) [] H H' s.heap s'.heap/\dc P w H' s'.heap/\RelV v u/\Q v H'
abbrev CR (CX:mN)(outer:List Env)(P:Program)(w:World)(H:Hp)(s:Shared)(Q:VK)(E:XK)(r:Result)(s':Shared):Prop:=
 match r with
 | .ok (.ret u)=>CE outer P w H s Q u s'
 | .ok _=>False
 | .error e=>CX outer H s E e s'
structure bF (P:Program) (w:World) (K:W.Frag) (mg:CQ) (base:Heap) (CX:mN) (k:Nat) (f:Addr) (fd:FuncData) (ps:List Str) (sp:Sp):Prop where
 len:∀ vs H Q E,sp vs H Q E->vs.length=ps.length
 run:∀ (A:Around) (outer:List Env) (s:Shared) (H:Hp) (args:Args) (us:List Value) (vs:List V) (Q:VK) (E:XK),aP k A->kP P w K mg base A outer s H->BindsTo s fd args (ps.zip us)->Vals vs us->sp vs H Q E->
  codeAny (model P w) A (.call (.ref f) args) (CR CX outer P w H s Q E) s
variable {mg:CQ}{base:Heap}{CX:mN}{fd:FuncData}{ps:List Str}
def bF.imp {f:Addr}{sp sp':Sp}(F:bF P w K mg base CX k f fd ps sp)
  (h:∀ vs H Q E,sp' vs H Q E->sp vs H Q E):bF P w K mg base CX k f fd ps sp':=
 ⟨λvs H Q E q=>F.len vs H Q E (h _ _ _ _ q),λA outer s H args us vs Q E hr he hb hv hs=>F.run A outer s H args us vs Q E hr he hb hv (h _ _ _ _ hs)⟩
variable {outer:List Env}
def kP.make (e:kP P w K mg base A outer s H)(C:Addr)(us:List Value)(kw:List (Str×Value)):
  kP P w K mg base (A.under (.builtin "type.__call__" ⟨.ref C::us,kw⟩)) outer s H:=⟨by first|exact e.frames|(simpa[Around.under,Code.envs,Code.isFrame,pushEnvs] using e.frames),e.mod,e.bs,e.bsz,e.eJ,e.frf,e.hok,e.bare⟩
section
variable {X:Cx}{Y:CP}{U:St}{H:Hp}{s s':Shared}
def Inv.d9 (I:Inv X Y U H s):kP X.prog X.w X.K X.mg X.base X.A X.stack s H:=
 ⟨I.ok.frames,I.ok.mod,I.bs,Nat.le_trans I.ok.bsz I.sz,I.stack,I.iX,I.hok,I.bare⟩
def Inv.after {Q:VK}(I:Inv X Y U H s)(h:CE X.stack X.prog X.w H s Q u s'):EP X Y U Q u s':=by
 obtain⟨v,H',os,bare,un,hok,r,q⟩:=h;obtain⟨hh,g,d,t,os'⟩:=s';obtain rfl:os'=s.os:=os;exact⟨v,H',I.call (h':=hh) (g':=g) (d':=d) (t':=t) (ch:=[]) un hok bare (λb z=>absurd z (by simp)),r,q⟩
end
abbrev ve (sp:Sp)(dvs:List V)(E:St->XK)(t:TA):TE:=λU H Q=>t U H λvs H1=>sp (vs++dvs) H1 Q (E U)
abbrev vA (C:Addr)(sp:Sp)(dvs:List V)(E:St->XK)(t:TA):TE:=λU H Q=>t U H λvs H1=>∀ x dx,H1 x=none->H1 dx=none->dx≠x->
 sp (.ref x::(vs++dvs)) (upd (upd H1 dx (.own x)) x (.ins C dx [])) (λv H2=>v=.non/\Q (.ref x) H2) (E U)
abbrev Binds (K:W.Frag)(fd:FuncData)(ps:List Str)(ds:List Value):Prop:=
 ∀ (s:Shared) (us:List Value),K.In s.heap->(us++ds).length=ps.length->BindsTo s fd ⟨us,[]⟩ (ps.zip (us++ds))
def Binds.all (h:∀ us:List Value,us.length=ps.length->bindArgs fd ⟨us,[]⟩=pure (ps.zip us)):Binds K fd ps []:=λs us _ hl=>by
 rw[append_nil]at hl⊢;exact .of_eq (h us hl)
abbrev Passes (CX:mN)(X:Cx)(E:St->XK):Prop:=∀ (Y:CP) (U:St) (H:Hp) (s:Shared) (e:Value) (s':Shared),Inv X Y U H s->CX X.stack H s (E U) e s'->X.xe e s'
variable {vs:List V}
section
variable {X:Cx}{CX:mN}{k:Nat}{f C:Addr}{fd:FuncData}{ps:List Str}{sp:Sp}{dvs:List V}{ds:List Value}{E:St->XK}{x m:Str}{p pos apos:Pos}{e o:Expr}{es:List Expr}{ta:TE}{t:TA}
def iT {Q:VK}(F:bF X.prog X.w X.K X.mg X.base CX k f fd ps sp)(hr:aP k X.A)(hb:Binds X.K fd ps ds)(hd:Vals dvs ds)(hx:Passes CX X E)
  (I:Inv X Y U H s) (r:Vals vs us) (h:sp (vs++dvs) H Q (E U)):wpAny (model X.prog X.w) X.A (call (.ref f) us) (EP X Y U Q) X.xe s:=by
 have r2:Vals (vs++dvs) (us++ds):=r.append hd;have hl:(us++ds).length=ps.length:=by rw[<-r2.length];exact F.len _ _ _ _ h
 refine wpAny_call (codeAny_mono (F.run X.A X.stack s H ⟨us,[]⟩ (us++ds) (vs++dvs) Q (E U) hr I.d9 (hb s us I.aR hl) r2 h) λr s' hq=>?_);cases r with
 |error e=>exact hx Y U H s e s' I hq
 |ok fl=>
  cases fl with
  |ret u=>exact I.after hq
  |next=>exact False.elim hq
  |brk=>exact False.elim hq
  |cont=>exact False.elim hq
def tG (F:bF X.prog X.w X.K X.mg X.base CX k f fd ps sp)(hr:aP k X.A)(hg:Gl X x)(hm:X.mg x=some (.ref f))(hk:W.keepIn X.K (.ref f)=true)(hb:Binds X.K fd ps ds)(hd:Vals dvs ds)(hx:Passes CX X E)
  (ha:PA X (e::es) t) (hdb:(x ==("__debug__":Str))=false:=by decide) (he:bm (e::es) X.env=(false,eval e X.env)::bm es X.env:=by rfl) (hpl:(backTo pos (bm es X.env)).any (·.1)=false:=by rfl):
  PE X (.Call (.Name x p) (e::es) [] pos) (ve sp dvs E t):=by
 intro Y s U H Q I h;refine bv (aQ I hg hm ?_ hdb);refine W.callWith_K (h₀:=X.base) I.ok.mod.kin hk (ao (ha pos Y s U H _ I h) λus s1 ⟨vs,H1,I1,r,q⟩=>⟨I1.aR,?_⟩) he hpl;exact iT F hr hb hd hx I1 r q
def pI (F:bF X.prog X.w X.K X.mg X.base CX k f fd ps sp)(hr:aP k X.A)(hg:Gl X x)(hm:X.mg x=some (.ref f))(hk:W.keepIn X.K (.ref f)=true)(hb:Binds X.K fd ps ds)(hd:Vals dvs ds)(hx:Passes CX X E)
  (hdb:(x ==("__debug__":Str))=false:=by decide):PE X (.Call (.Name x p) [] [] pos) (ve sp dvs E tI):=by
 intro Y s U H Q I h;refine bv (aQ I hg hm ?_ hdb);exact W.callWith_K0 I.aR hk (iT (us:=[]) F hr hb hd hx I .nil h)
structure Mk (K:W.Frag) (C f:Addr):Prop where
 makes:W.makesIn K C=true
 init:W.findIn K (.ref C) "__init__"=some (some (.ref f))
 fn:W.isFn K (.ref f)=true
 kp:W.keepIn K (.ref C)=true
def jC {Q:VK}(M:Mk X.K C f)(F:bF X.prog X.w X.K X.mg X.base CX k f fd ps sp)(hr:aP (k+1) X.A)(hb:Binds X.K fd ps ds)(hd:Vals dvs ds)
  (hx:Passes CX X E) (I:Inv X Y U H s) (r:Vals vs us)
  (h:∀ x dx,H x=none->H dx=none->dx≠x->sp (.ref x::(vs++dvs)) (upd (upd H dx (.own x)) x (.ins C dx [])) (λv H2=>v=.non/\Q (.ref x) H2) (E U)):
  wpAny (model X.prog X.w) X.A (call (.ref C) us) (EP X Y U Q) X.xe s:=by
 have hq:=h (s.heap.objs.size+1) s.heap.objs.size (I.hok.fresh (Nat.le_succ _)) (I.hok.fresh (pc _)) (nl (Nat.lt_succ_self _));have I2:=Inv.made (C:=C) I;have r2:Vals (V.ref (s.heap.objs.size+1)::(vs++dvs)) (Value.ref (s.heap.objs.size+1)::(us++ds)):=.cons rfl (r.append hd);have hl:(Value.ref (s.heap.objs.size+1)::us++ds).length=ps.length:=by
  have e:=r2.length;rw[F.len _ _ _ _ hq]at e;exact e.symm
 refine wpAny_call (qd (f:=f) I.aR M.makes M.init (beq_iff_eq.mp M.fn) (codeAny_mono (F.run _ X.stack _ _ ⟨Value.ref (s.heap.objs.size+1)::us,[]⟩ (Value.ref (s.heap.objs.size+1)::(us++ds)) _ _ (E U) (hr.make C us [])
  (I2.d9.make C us []) (hb _ (Value.ref (s.heap.objs.size+1)::us) I2.aR hl) r2 hq) λr s' hq'=>?_))
 cases r with
 |error e=>exact hx Y U _ _ e s' I2 hq'
 |ok fl=>
  cases fl with
  |ret u=>
   obtain⟨v,H',I3,rv,ev,q3⟩:=I2.after hq';subst ev;exact⟨rv,⟨V.ref (s.heap.objs.size+1),H',I3,rfl,q3⟩⟩
  |next=>exact False.elim hq'
  |brk=>exact False.elim hq'
  |cont=>exact False.elim hq'
def sd (M:Mk X.K C f)(F:bF X.prog X.w X.K X.mg X.base CX k f fd ps sp)(hr:aP (k+1) X.A)(hg:Gl X x)(hm:X.mg x=some (.ref C))(hb:Binds X.K fd ps ds)(hd:Vals dvs ds)(hx:Passes CX X E)
  (ha:PA X (e::es) t) (hdb:(x ==("__debug__":Str))=false:=by decide) (he:bm (e::es) X.env=(false,eval e X.env)::bm es X.env:=by rfl) (hpl:(backTo pos (bm es X.env)).any (·.1)=false:=by rfl):
  PE X (.Call (.Name x p) (e::es) [] pos) (vA C sp dvs E t):=by
 intro Y s U H Q I h;refine bv (aQ I hg hm ?_ hdb);refine W.callWith_K (h₀:=X.base) I.ok.mod.kin M.kp (ao (ha pos Y s U H _ I h) λus s1 ⟨vs,H1,I1,r,q⟩=>⟨I1.aR,?_⟩) he hpl;exact jC M F hr hb hd hx I1 r q
def qK (M:Mk X.K C f)(F:bF X.prog X.w X.K X.mg X.base CX k f fd ps sp)(hr:aP (k+1) X.A)(hg:Gl X x)(hm:X.mg x=some (.ref C))(hb:Binds X.K fd ps ds)(hd:Vals dvs ds)(hx:Passes CX X E)
  (hdb:(x ==("__debug__":Str))=false:=by decide):PE X (.Call (.Name x p) [] [] pos) (vA C sp dvs E tI):=by
 intro Y s U H Q I h;refine bv (aQ I hg hm ?_ hdb);exact W.callWith_K0 I.aR M.kp (jC (us:=[]) M F hr hb hd hx I .nil h)
end
section
variable {X:Cx}{CX:mN}{k:Nat}{f C:Addr}{fd:FuncData}{ps ks:List Str}{sp:Sp}{E:St->XK}{x m:Str}{p pos apos kpos:Pos}{e o:Expr}{es:List Expr}{kws:List Keyword}{te ta:TE}{t tk:TA}{nm:Option Str}
variable {g:List Value->List Value->List Value}{gV:List V->List V->List V}
end
structure fK (N P:List Str) (sc:Scope):Prop where
 kind:sc.kind=.function
 co:sc.isCoroutine=false
 gen:sc.isGenerator=false
 nd:N.Nodup
 pre:N.take P.length=P
 par:∀ x ∈ P,sc.names.lookup x=some .local\/sc.names.lookup x=some .cell
 nofree:∀ y ∈ sc.names,y.2≠.free
def hG {kindOf:Str->Option NameKind}{x:Str}:∀ {binds:List (Str×Value)}{m:CQ},(∀ v,(x,v) ∉ binds)->bindL kindOf binds m x=m x
 | [],_,_=>rfl
 |(n,v)::r,m,h=>by
  unfold bindL;rw[hG λw hw=>h w (dl _ hw)]
  split
  .have:x≠n:=by rintro rfl;exact h v le
   simp[this]
  .rfl
def gX {kindOf:Str->Option NameKind}{x:Str}:∀ {binds:List (Str×Value)}{m:CQ},(∀ v,(x,v) ∉ binds)->bindC kindOf binds m x=m x
 | [],_,_=>rfl
 |(n,v)::r,m,h=>by
  unfold bindC;rw[gX λw hw=>h w (dl _ hw)]
  split
  .rfl
  .have:x≠n:=by rintro rfl;exact h v le
   simp[this]
def il {kindOf:Str->Option NameKind}{x:Str}{v:Value}:∀ {P:List Str}{vs:List Value}{i:Nat}{m:CQ},P.Nodup->P[i]? =some x->vs[i]? =some v->kindOf x=some .local->
  bindL kindOf (P.zip vs) m x=some v
 | [],_,_,_,_,h,_,_=>by simp at h
 |_::_,[],_,_,_,_,h,_=>by simp at h
 |p::P,w::vs,0,m,nd,h1,h2,hk=>by
  simp at h1 h2;subst h1;subst h2;show bindL kindOf ((p,w)::P.zip vs) m p=_;unfold bindL;rw[hG λv hv=>(nodup_cons.mp nd).1 (of_mem_zip hv).1,if_pos hk];simp
 |p::P,w::vs,i+1,m,nd,h1,h2,hk=>by
  show bindL kindOf ((p,w)::P.zip vs) m x=_;unfold bindL;exact il (i:=i) (nodup_cons.mp nd).2 (by simpa using h1) (by simpa using h2) hk
def g7 {kindOf:Str->Option NameKind}{x:Str}{v:Value}:∀ {P:List Str}{vs:List Value}{i:Nat}{m:CQ},P.Nodup->P[i]? =some x->vs[i]? =some v->kindOf x≠some .local->
  bindC kindOf (P.zip vs) m x=some v
 | [],_,_,_,_,h,_,_=>by simp at h
 |_::_,[],_,_,_,_,h,_=>by simp at h
 |p::P,w::vs,0,m,nd,h1,h2,hk=>by
  simp at h1 h2;subst h1;subst h2;show bindC kindOf ((p,w)::P.zip vs) m p=_;unfold bindC;rw[gX λv hv=>(nodup_cons.mp nd).1 (of_mem_zip hv).1,if_neg hk];simp
 |p::P,w::vs,i+1,m,nd,h1,h2,hk=>by
  show bindC kindOf ((p,w)::P.zip vs) m x=_;unfold bindC;exact g7 (i:=i) (nodup_cons.mp nd).2 (by simpa using h1) (by simpa using h2) hk
abbrev start (N:List Str)(vs:List V):St:=vs.map some++s0 (N.length-vs.length) none
abbrev nu (CX:mN)(P:Program)(w:World)(K:W.Frag)(mg:CQ)(base:Heap)(N:List Str)(qual:Str)(scope:Scope)(f:Addr)(cd:Value)(A:Around)(outer:List Env)(s:Shared)(H:Hp)(E:XK):Cx where
 prog:=P
 w:=w
 K:=K
 mg:=mg
 base:=base
 A:=A.deeper (envOfC qual scope s.heap.objs.size f cd)
 N:=N
 s₀:=s
 H₀:=H
 env:=envOfC qual scope s.heap.objs.size f cd
 outer:=outer
 stack:=envOfC qual scope s.heap.objs.size f cd::outer
 ex:=[]
 calm:=true
 fn:=λ_=>true
 pn:=[]
 xe:=λe s'=>wpAny (model P w) (A.deeper (envOfC qual scope s.heap.objs.size f cd)) (leaving (envOfC qual scope s.heap.objs.size f cd) e) (λ_ s''=>CX outer H s E e s'') (λe' s''=>CX outer H s E e' s'') s'
def j8 {sc:Scope}{n:Nat}(h:sc.names.lookup x=some .cell):∃ c,(cellsFrom n sc.names []).lookup x=some c:=by
 have q:=W.cellsFrom_some sc.names n [] (.inl h);exact Option.isSome_iff_exists.mp q
variable {scope:Scope}
def nS {N:List Str}{qual:Str}{f:Addr}{cd:Value}{s1:Shared}{E:XK}
  (S:fK N ps scope) (hd:A.handled=none) (e0:kP P w K mg base A outer s H) (hl:vs.length=ps.length) (r:Vals vs us)
  (x:InCallC s s.heap.objs.size (bindL (envOfC qual scope s.heap.objs.size f cd).kindOf (ps.zip us) λ_=>none) (cellsFrom (s.heap.objs.size+1) scope.names []) (bindC (envOfC qual scope s.heap.objs.size f cd).kindOf (ps.zip us) λ_=>none) s1):
  Inv (nu CX P w K mg base N qual scope f cd A outer s H E) [] (start N vs) H s1:=by
 have hpl:ps.length<=N.length:=by have:=congrArg List.length S.pre;rw[db]at this;omega
 obtain⟨h1,tk,rfl,hk⟩:=x.done;have noA:∀ b:Addr,b ∉ (nu CX P w K mg base N qual scope f cd A outer s H E).ex:=λb z=>absurd (show b ∈ ([]:List Addr) from z) (by simp)
 refine⟨⟨e0.mod,S.kind,rfl,rfl,pc _,λy z c h1 h2=>?_,λy hy=>?_,λy c _ h=>?_,λ_=>hd,Around.frames_deeper e0.frames,.inr ⟨rfl,rfl⟩,λb z=>absurd z (noA b),e0.bs,e0.bsz,λb _ _=>noA b,λb z=>absurd z (noA b),e0.eJ,e0.frf⟩,
  rfl,e0.bare,Un.kept hk,⟨_,x.toInCall.ns,λi y v h1 h2 h3=>?_⟩,λy c h=>⟨_,x.cell y c h⟩,e0.hok.fresh (pc _),λy c h=>?_,λp hp=>absurd (show p ∈ ([]:CP) from hp) (by simp),e0.hok.kept hk,?_⟩
 .exact name_of_addr x.apart (PySem.mem_of_lookup h1) (PySem.mem_of_lookup h2)
 .have hy:scope.names.lookup y=some .cell\/scope.names.lookup y=some .free:=hy;rcases hy with hy|hy
  .exact j8 hy
  .exact absurd rfl (S.nofree _ (PySem.mem_of_lookup hy))
 .exact Nat.le_of_lt (x.above y c (PySem.mem_of_lookup h))
 .have hi:i<vs.length:=by
   unfold start at h2
   by_cases hi:i<vs.length
   .exact hi
   .rw[List.getElem?_append_right (by simpa using hi)]at h2;rw[List.getElem?_replicate]at h2
    split at h2<;>cases h2
  have ha:vs[i]? =some v:=by
   unfold start at h2;rw[List.getElem?_append_left (by simpa using hi),ii]at h2;cases e:vs[i]? with
   |none=>rw[e]at h2;cases h2
   |some a=>rw[e]at h2;cases h2;rfl
  obtain⟨u,hu,rv⟩:=r.get ha;have hp:ps[i]? =some y:=by
   rw[<-S.pre,List.getElem?_take_of_lt nofun];exact h1
  have ndP:ps.Nodup:=by rw[<-S.pre];exact S.nd.sublist (take_sublist _ _)
  refine⟨u,rv,?_⟩;rcases S.par y (cr hp) with k|k
  .exact .inl ⟨k,il ndP hp hu k⟩
  .obtain⟨c,e⟩:=j8 (n:=s.heap.objs.size+1) k;refine .inr ⟨.inl k,c,e,?_⟩;have q:=x.cell y c e;rw[g7 ndP hp hu (by show scope.names.lookup y≠_;rw[k];decide)]at q;exact q
 .exact e0.hok.fresh (Nat.le_of_lt (x.above y c (PySem.mem_of_lookup h)))
 .unfold start;show _=N.length;rw[ci,ce,List.length_replicate]
  omega
def zO {f:Addr}{name qual:Str}{params:Arguments}{dV kV doc pm cdv ct oc:Value}{an od:Option Addr}
  {osl:Array (Option Value)}{N:List Str}{sp:Sp}(lk:K.lookup f=some ⟨oc,od,.func (W.fnOf name qual params body scope dV kV doc pm an cdv ct),osl⟩) (hcd:W.codeIn K cdv qual=true) (S:fK N ps scope)
  (len:∀ vs H Q E,sp vs H Q E->vs.length=ps.length)
  (hbody:∀ (A:Around) (outer:List Env) (s:Shared) (H:Hp) (vs:List V) (Q:VK) (E:XK),aP k (A.deeper (envOfC qual scope s.heap.objs.size f cdv))->sp vs H Q E->
   ∃ t,uY (nu CX P w K mg base N qual scope f cdv A outer s H E) body t/\t { nx:=λ_ H'=>Q .non H',rt:=Q } (start N vs) H):
  bF P w K mg base CX (k+1) f (W.fnOf name qual params body scope dV kV doc pm an cdv ct) ps sp:=by
 refine⟨len,λA outer s H args us vs Q E hr e0 hb r hsp=>?_⟩;have hl:=len _ _ _ _ hsp;have KX:K.In s.heap:=e0.mod.kin.keeps λb o e=>(e0.bs b o e).1
 have lim:s.heap.NoLimit:=e0.mod.nolimit.keeps λb o e=>(e0.bs b o e).1
 have hkind:∀ y ∈ ps.zip us,scope.names.lookup y.1=some .local\/(scope.names.lookup y.1=some .cell/\((cellsFrom (s.heap.objs.size+1) scope.names []).lookup y.1).isSome=true):=λ⟨n,v⟩ hy=>by
  rcases S.par n (of_mem_zip hy).1 with q|q
  .exact .inl q
  .exact .inr ⟨q,W.cellsFrom_some _ _ _ (.inl q)⟩
 refine codeAny_call_function hr.depth (KX _ _ lk) rfl S.co S.gen rfl (W.codeRec_of KX hcd) (hb _ _ _ _ ?_);refine wpAny_newFunctionEnv_cells S.kind hkind λenv he s1 x=>?_
 subst he;refine⟨lim.keeps x.toInCall.keep,codeAny_func ?_⟩;obtain⟨t,ht,hq⟩:=hbody A outer s H vs Q E (hr.deeper _) hsp;have I:Inv (nu CX P w K mg base N qual scope f cdv A outer s H E) [] (start N vs) H s1:=nS S hr.hd e0 hl r x;refine wpAny_mono (ht [] s1 (start N vs) H _ I hq) (λfl s' hs=>?_) λe s' hs=>hs
 have fin:∀ {σ':St}{H':Hp}{v:V}{u:Value},Inv (nu CX P w K mg base N qual scope f cdv A outer s H E) [] σ' H' s'->RelV v u->Q v H'->CE outer P w H s Q u s':=
  λ{σ' H' v u} J rv q=>⟨v,H',J.os,J.bare,J.base,J.hok,rv,q⟩
 cases fl with
 |ret u=>
  obtain⟨v,σ',H',J,rv,q⟩:=hs;exact fin J rv q
 |next=>
  obtain⟨σ',H',J,q⟩:=hs;exact fin (v:=V.non) (u:=Value.none) J rfl q
 |brk=>
  obtain⟨_,_,_,q⟩:=hs;exact False.elim q
 |cont=>
  obtain⟨_,_,_,q⟩:=hs;exact False.elim q
section
variable {X:Cx}{x:Str}{p pos:Pos}{e:Expr}{es:List Expr}{t:TA}{id T:String}{r:List V->Hp->VK->Prop}
abbrev BO (r:List V->Hp->VK->Prop)(t:TA):TE:=λU H Q=>t U H λvs H1=>r vs H1 Q
def gq (hc:bh X (.builtin id) r)(hg:Gl X x)(hm:X.mg x=none)(hv:bootBuiltins x=some (.builtin id))(ha:PA X (e::es) t)(hn:x≠"__name__":=by decide) (hdb:(x ==("__debug__":Str))=false:=by decide)
  (he:bm (e::es) X.env=(false,eval e X.env)::bm es X.env:=by rfl) (hpl:(backTo pos (bm es X.env)).any (·.1)=false:=by rfl):PE X (.Call (.Name x p) (e::es) [] pos) (BO r t):=by
 intro Y s U H Q I h;refine bv (gr I hg hm hv ?_ hn hdb);exact PyProof.Rows.callWith_builtin1 (ao (ha pos Y s U H _ I h) λus s1 ⟨vs,H1,I1,r1,q1⟩=>hc Y s1 U H1 vs us Q I1 r1 q1) he hpl
def ow (hc:bh X (.type T) r)(hg:Gl X x)(hm:X.mg x=none)(hv:bootBuiltins x=some (.type T))(ha:PA X (e::es) t)(hn:x≠"__name__":=by decide) (hdb:(x ==("__debug__":Str))=false:=by decide)
  (he:bm (e::es) X.env=(false,eval e X.env)::bm es X.env:=by rfl) (hpl:(backTo pos (bm es X.env)).any (·.1)=false:=by rfl):PE X (.Call (.Name x p) (e::es) [] pos) (BO r t):=by
 intro Y s U H Q I h;refine bv (gr I hg hm hv ?_ hn hdb);exact PyProof.Rows.callWith_type1 (ao (ha pos Y s U H _ I h) λus s1 ⟨vs,H1,I1,r1,q1⟩=>hc Y s1 U H1 vs us Q I1 r1 q1) he hpl
end
end L2
namespace HT
open PySem PyProof.Rows
section
open PySem.SeqAt
open PySem.AutoSeq1 (wpAny_loadPart')
open PySem.MeetsSeq PySem.MeetsSeq2 PySem.MeetsSeq3
end
section
variable {prog:Program}{w:World}{A:Around}{E:CO}{s:Shared}
abbrev bB (n d:Nat):Option Int->Nat
 |none=>d
 |some v=>if v<0 then(v+(n:Int)).toNat else min v.toNat n
def xl (n d:Nat)(hd:d<=n)(o:Option Int):bB n d o<=n:=by
 cases o with
 |none=>exact hd
 |some v=>
  show(if v<0 then(v+(n:Int)).toNat else min v.toNat n)<=n
  by_cases hv:v<0
  .rw[if_pos hv];omega
  .rw[if_neg hv];exact Nat.min_le_right _ _
end
end HT
namespace L2
open PySem PySem.Spec PyProof.Rows
@[reducible]def TO:=St->Hp->(Option Int->Hp->Prop)->Prop
abbrev PO (X:Cx)(e:Option Expr)(t:TO):Prop:=
 ∀ (Y:CP) (s:Shared) (U:St) (H:Hp) (Q:Option Int->Hp->Prop),Inv X Y U H s->t U H Q->
  wpAny (model X.prog X.w) X.A (evalPart e X.env) (λu s'=>∃ o H',Inv X Y U H' s'/\IsPart u o/\Q o H') X.xe s
abbrev uJ:TO:=λ_ H Q=>Q none H
abbrev zM (t:TE):TO:=λU H Q=>t U H λx H1=>∃ i,x=.int i/\Q (some i) H1
section
variable {X:Cx}{e:Expr}{te:TE}{lo hi:Option Expr}{tl th:TO}{pos p2:Pos}
def sG:PO X none uJ:=by
 intro Y s U H Q I h;rw[evalPart_none];exact ap ⟨none,H,I,.none,h⟩
def r9 (h:PE X e te):PO X (some e) (zM te):=by
 intro Y s U H Q I hw;rw[evalPart_some];refine ao (h Y s U H _ I hw) λu s1 ⟨x,H1,I1,r1,q1⟩=>?_
 obtain⟨i,rfl,q⟩:=q1;obtain⟨t,rfl⟩:=r1;exact⟨some i,H1,I1,.int i t,q⟩
abbrev zt (X:Cx)(r:V->Option Int->Option Int->Hp->VK->Prop):Prop:=
 ∀ (Y:CP) (s:Shared) (U:St) (H:Hp) (x:V) (v vl vu:Value) (lo hi:Option Int) (sl:Addr) (Q:VK),Inv X Y U H s->RelV x v->s.heap.IsSliceOf sl vl vu .none->IsPart vl lo->IsPart vu hi->r x lo hi H Q->
  ∃ T id,typeLookup (.type T) "__getitem__"=pure (some (.builtin id))/\s.TypeIs v T/\wpAny (model X.prog X.w) X.A (getItem v (.ref sl)) (EP X Y U Q) X.xe s
abbrev CK (r:V->Option Int->Option Int->Hp->VK->Prop)(te:TE)(tl th:TO):TE:=λU H Q=>te U H λx H1=>tl U H1 λl H2=>th U H2 λu H3=>r x l u H3 Q
def qA {r:V->Option Int->Option Int->Hp->VK->Prop}(hr:zt X r)(he:PE X e te)(hl:PO X lo tl)(hu:PO X hi th):PE X (.Subscript e (.Slice lo hi none p2) pos) (CK r te tl th):=by
 intro Y s U H Q I h;refine Subscript_ (ao (he Y s U H _ I h) λv s1 ⟨x,H1,I1,r1,q1⟩=>?_);refine wpAny_Slice (ao (hl Y s1 U H1 _ I1 q1) λvl s2 ⟨l,H2,I2,pl,q2⟩=>ao (hu Y s2 U H2 _ I2 q2) λvu s3 ⟨u,H3,I3,pu,q3⟩=>?_);rw[evalPart_none];refine ap ?_;have I4:Inv X Y U H3 { s3 with heap:=s3.heap.push { cls:=.type "slice",data:=.fields #[vl,vu,.none] } }:=I3.kept (t':=s3.toks) λb ob q=>ss _ q
 obtain⟨T,id,hT,ht,hg⟩:=hr Y { s3 with heap:=s3.heap.push { cls:=.type "slice",data:=.fields #[vl,vu,.none] } } U H3 x v vl vu l u s3.heap.objs.size Q I4 r1 (Heap.IsSliceOf.new ..) pl pu q3;show wpAny (model X.prog X.w) X.A (subscriptTail e (.Slice lo hi none p2) v (.ref s3.heap.objs.size)) (EP X Y U Q) X.xe { s3 with heap:=s3.heap.push { cls:=.type "slice",data:=.fields #[vl,vu,.none] } };exact tail_any (ops:=[.ref s3.heap.objs.size,v]) ht hT hg (by with_unfolding_all rfl)
abbrev cX (xs:List V)(lo hi:Option Int):List V:=(xs.drop (HT.bB xs.length 0 lo)).take (HT.bB xs.length xs.length hi-HT.bB xs.length 0 lo)
def ke (xs:List V)(lo hi:Option Int):(cX xs lo hi).length<=xs.length:=by
 unfold cX;rw[db,im]
 omega
end
abbrev nj (n:Nat)(i:Int):Option Nat:=if 0<=i then(if i<n then some i.toNat else none) else if -(n:Int)<=i then some (i+n).toNat else none
variable {α:Type}
abbrev fg (xs:List α)(i:Int):Option α:=(nj xs.length i).bind λj=>xs[j]?
variable {n:Nat}
def lV {i:Int}{j:Nat}(h:nj n i=some j):seqIndex? i n=some j/\j<n/\ -(n:Int)<=i/\i<n:=by
 unfold nj at h
 by_cases h0:0<=i
 .rw[if_pos h0]at h
  by_cases h1:i<n
  .rw[if_pos h1]at h;have e:i.toNat=j:=Option.some.inj h;exact⟨by rw[seqIndex_of h0 h1,e],by omega,by omega,h1⟩
  .rw[if_neg h1]at h;cases h
 .rw[if_neg h0]at h
  by_cases h1: -(n:Int)<=i
  .rw[if_pos h1]at h;have e:(i+n).toNat=j:=Option.some.inj h;exact⟨by rw[seqIndex_neg nofun h1,e],by omega,h1,by omega⟩
  .rw[if_neg h1]at h;cases h
def i8 {xs:List α}{i:Int}{v:α}(h:fg xs i=some v):∃ j,seqIndex? i xs.length=some j/\xs[j]? =some v/\j<xs.length/\ -(xs.length:Int)<=i/\i<xs.length:=by
 unfold fg at h;cases e:nj xs.length i with
 |none=>rw[e]at h;cases h
 |some j=>
  rw[e]at h;obtain⟨h1,h2,h3,h4⟩:=lV e;exact⟨j,h1,h,h2,h3,h4⟩
def bb {xs:List α}{j:Nat}{v:α}(h:xs[j]? =some v):fg xs (j:Int)=some v:=by
 have hj:j<xs.length:=(sn.mp h).1;have e:nj xs.length (j:Int)=some j:=by
  unfold nj;rw[if_pos nofun,if_pos nofun];simp
 unfold fg;rw[e];exact h
abbrev l7 (b:Expr):Prop:=∀ o i,subscripted b false o i=operate [o,i] (getItem o i)
abbrev yF (X:Cx)(r:R2):Prop:=
 ∀ (value slice:Expr) (Y:CP) (s:Shared) (U:St) (H:Hp) (x y:V) (v u:Value) (Q:VK),Inv X Y U H s->RelV x v->RelV y u->r x y H Q->
  subscripted slice false v u=operate [v,u] (getItem v u)->wpAny (model X.prog X.w) X.A (subscriptTail value slice v u) (EP X Y U Q) X.xe s
abbrev vD (X:Cx)(id:String)(r:V->List V->Hp->VK->Prop):Prop:=
 ∀ (Y:CP) (s:Shared) (U:St) (H:Hp) (x:V) (xs:List V) (v:Value) (us:List Value) (Q:VK),Inv X Y U H s->RelV x v->Vals xs us->r x xs H Q->
  wpAny (model X.prog X.w) X.A (call (.builtin id) (v::us)) (EP X Y U Q) X.xe s
variable {Y:CP}{U:St}{H:Hp}{s:Shared}{y:V}{u:Value}
section
variable {X:Cx}{a b:Expr}{ta tb:TE}{pos:Pos}
def zD {r:R2}(hr:yF X r)(ha:PE X a ta)(hb:PE X b tb)(hs:l7 b):PE X (.Subscript a b pos) (AM r ta tb):=by
 intro Y s U H Q I h;exact Subscript_ (x8 ha hb I h λv u s2 x y H2 I2 rx ry q=>hr a b Y s2 U H2 x y v u Q I2 rx ry q (hs _ _))
abbrev A8 (K:W.Frag):R2:=λx y H Q=>∃ p xs i v,x=.ref p/\y=.int i/\aA K H p xs/\fg xs i=some v/\Q v H
abbrev BL (K:W.Frag):R2:=λx y H Q=>∃ p xs i v,x=.ref p/\y=.int i/\bY K H p xs/\fg xs i=some v/\Q v H
abbrev AZ:R2:=λx y H Q=>∃ z i c,x=.str z/\y=.int i/\z.length<=bn/\fg z.cps.toList i=some c/\Q (.str ⟨#[c]⟩) H
def t8:yF X (A8 X.K):=by
 intro value slice Y s U H x y v u Q I rx ry h hs;obtain⟨p,xs,i,z,rfl,rfl,hq,he,q⟩:=h;cases rx;obtain⟨t,rfl⟩:=ry;obtain⟨its,r,pl,hz⟩:=I.list hq;obtain⟨j,h1,h2,h3,h4,h5⟩:=i8 he;obtain⟨w,ew,rw'⟩:=r.get h2;have hl:=r.length;have hn:=di;have fin:EP X Y U Q w s:=⟨z,H,I,rw',q⟩
 by_cases h0:0<=i
 .have hj:i.toNat=j:=by
   rw[seqIndex_of h0 h5]at h1;exact Option.some.inj h1
  exact item_listR pl.isList h0 nofun (by rw[hj];simpa using ew) fin hs
 .have hj:(i+(its.toArray.size:Int)).toNat=j:=by
   rw[seqIndex_neg nofun h4]at h1;rw[ge,<-hl];exact Option.some.inj h1
  exact subscriptTail_builtinR (x:=w) pl.isList.typeIs slot_list_getitem.lookup
   (wpAny_getItem_list_neg (Q:=λr s'=>r=w/\EP X Y U Q r s') pl.isList nofun (by rw[ge]<;>omega) nofun (by rw[hj];simpa using ew) ⟨rfl,fin⟩) hs
def yl:yF X (BL X.K):=by
 intro value slice Y s U H x y v u Q I rx ry h hs;obtain⟨p,xs,i,z,rfl,rfl,hq,he,q⟩:=h;cases rx;obtain⟨t,rfl⟩:=ry;obtain⟨its,r,pl,hz⟩:=I.tuple hq;obtain⟨j,h1,h2,h3,h4,h5⟩:=i8 he;obtain⟨w,ew,rw'⟩:=r.get h2;have hl:=r.length;have hn:=di;have fin:EP X Y U Q w s:=⟨z,H,I,rw',q⟩;exact subscriptTail_builtinR (x:=w) pl.typeIs slot_tuple_getitem.lookup
  (getItem_tuple (j:=j) (Q:=λr s'=>r=w/\EP X Y U Q r s') pl nofun nofun (by rw[ge,<-hl];exact h1) (by simpa using ew) ⟨rfl,fin⟩) hs
def yc:yF X AZ:=by
 intro value slice Y s U H x y v u Q I rx ry h hs;obtain⟨z,i,c,rfl,rfl,hz,he,q⟩:=h;obtain⟨t,rfl⟩:=rx;obtain⟨t',rfl⟩:=ry;obtain⟨j,h1,h2,h3,h4,h5⟩:=i8 he;have hl:z.cps.toList.length=z.length:=by simp[Str.length]
 rw[hl]at h1 h4 h5;have hn:=di;exact tail_any (typeIs_str s z t) slot_str_getitem.lookup (getItem_str (c:=c) (by
  have e1:decide (i< -(2 ^ 63:Int))=false:=decide_eq_false nofun;have e2:decide (i>=2 ^ 63)=false:=decide_eq_false nofun;rw[e1,e2,Bool.or_false]) (by rw[h1];simpa using h2) ⟨.str ⟨#[c]⟩,H,I.tok _,⟨_,rfl⟩,q⟩) hs
def kQ (its:List Value)(n j:Nat)(u:Value):Obj.mapSeq (·.setIfInBounds j u) { cls:=.type "list",data:=.seq its.toArray n }={ cls:=.type "list",data:=.seq (its.set j u).toArray n }:=by
 simp[Obj.mapSeq]
def Inv.lst {Y:CP}{U:St}{H:Hp}{s:Shared}{p:Addr}{xs:List V}(I:Inv X Y U H s)(h:H p=some (.lst xs)):
  ∃ (its:List Value) (n:Nat),Vals xs its/\s.heap.get? p=some { cls:=.type "list",data:=.seq its.toArray n }/\xs.length<=bn:=by
 obtain⟨z,its,n,r,e⟩:=I.hok p _ h;exact⟨its,n,r,e,z⟩
def Inv.xx {p:Addr}{xs ys:List V}{its its':List Value}{n':Nat}{f:Obj->Obj}(I:Inv X Y U H s)(h:H p=some (.lst xs))
  (ho:s.heap.get? p=some { cls:=.type "list",data:=.seq its.toArray n }) (hf:f { cls:=.type "list",data:=.seq its.toArray n }={ cls:=.type "list",data:=.seq its'.toArray n' }) (r:Vals ys its') (hz:ys.length<=bn) (t:Nat):
  Inv X Y U (upd H p (.lst ys)) { s with heap:=s.heap.update p f,toks:=t }:=by
 have e:(s.heap.update p f).get? p=some { cls:=.type "list",data:=.seq its'.toArray n' }:=by
  rw[Heap.get?_update_self f ho (by rw[hf]<;>rfl),hf]
 refine I.write (x:=p) (e:=p) (by rw[h];trivial) (.inl rfl) (λb u hb q=>(Heap.get?_update_other _ _ (Ne.symm hb)).trans q) ⟨_,e⟩ ?_;exact⟨hz,its',n',r,e⟩
abbrev zA:V->V->V->Hp->(Hp->Prop)->Prop:=λo i v H Q=>∃ p xs k j,o=.ref p/\i=.int k/\H p=some (.lst xs)/\nj xs.length k=some j/\Q (upd H p (.lst (xs.set j v)))
def set_list:sM X zA:=by
 intro Y s U H o i v ov iv u Q I ro ri rv h;obtain⟨p,xs,k,j,rfl,rfl,hp,hj,q⟩:=h;cases ro;obtain⟨t,rfl⟩:=ri;obtain⟨its,n,r,ho,hz⟩:=I.lst hp;obtain⟨h1,h2,h3,h4⟩:=lV hj;have hl:=r.length;have hn:=di;have I':Inv X Y U (upd H p (.lst (xs.set j v))) { s with heap:=s.heap.update p (Obj.mapSeq (·.setIfInBounds j u)) }:=
  I.xx hp ho (kQ its n j u) (r.set rv j) (by rw[length_set];exact hz) s.toks
 by_cases h0:0<=k
 .have hk:k.toNat=j:=by
   rw[seqIndex_of h0 h4]at h1;exact Option.some.inj h1
  exact W.ki_setAt ho h0 nofun (by rw[ge,<-hl];exact h4) (by rw[hk];exact⟨_,I',q⟩)
 .have hk:(k+(its.toArray.size:Int)).toNat=j:=by
   rw[seqIndex_neg nofun h3]at h1;rw[ge,<-hl];exact Option.some.inj h1
  exact W.ki_setBack ho nofun (by rw[ge,<-hl];exact h3) nofun (by rw[hk];exact⟨_,I',q⟩)
def iW (lo hi:Option Int)(n:Nat):(sliceBounds lo hi none n).1=((HT.bB n 0 lo:Nat):Int)/\(sliceBounds lo hi none n).2.1=((HT.bB n n hi:Nat):Int)/\(sliceBounds lo hi none n).2.2=1:=by
 refine⟨?_,?_,rfl⟩
 .cases lo with
  |none=>simp[sliceBounds,HT.bB]
  |some i=>
   simp only[sliceBounds,HT.bB,Option.getD_none,show(1:Int)>0 by decide,if_true]
   by_cases h:i<0
   .simp only[h,if_true]<;>omega
   .simp only[h,if_false]<;>omega
 .cases hi with
  |none=>simp[sliceBounds,HT.bB]
  |some i=>
   simp only[sliceBounds,HT.bB,Option.getD_none,show(1:Int)>0 by decide,if_true]
   by_cases h:i<0
   .simp only[h,if_true]<;>omega
   .simp only[h,if_false]<;>omega
def gL (its:List Value)(lo hi:Option Int):slicePick its.toArray lo hi none=((its.drop (HT.bB its.length 0 lo)).take (HT.bB its.length its.length hi-HT.bB its.length 0 lo)).toArray:=by
 obtain⟨h1,h2,h3⟩:=iW lo hi its.toArray.size;unfold slicePick;rw[h1,h2,h3];simp only[sliceRange_one,pick_run,ge]<;>rfl
abbrev BE (K:W.Frag):V->Option Int->Option Int->Hp->VK->Prop:=λx lo hi H Q=>∃ a xs,x=.ref a/\aA K H a xs/\∀ p,H p=none->Q (.ref p) (upd H p (.lst (cX xs lo hi)))
def tm:zt X (BE X.K):=by
 intro Y s U H x v vl vu lo hi sl Q I rx hs pl pu h;obtain⟨a,xs,rfl,hx,q⟩:=h;cases rx;obtain⟨its,r,ht,hz⟩:=I.list hx;have hlen:=r.length;refine⟨"list",_,slot_list_getitem.lookup,ht.isList.typeIs,?_⟩;refine wpAny_getItem_list_slice ht.isList hs pl pu .none (by simp) ?_ (by rw[ge]<;>omega);rw[gL,<-hlen];refine⟨.ref s.heap.objs.size,_,I.laid (t':=s.toks) (o:=.lst (cX xs lo hi)) (λb ob q=>ss _ q) (pc _) ?_,rfl,q _ (I.hok.fresh (pc _))⟩;exact⟨Nat.le_trans (ke xs lo hi) hz,_,0,(r.drop (HT.bB xs.length 0 lo)).take (HT.bB xs.length xs.length hi-HT.bB xs.length 0 lo),sK _ rfl⟩
abbrev av:V->Bool
 | .non=>true
 | .bl _=>true
 | .int _=>true
 | .str _=>true
 |_=>false
abbrev gR:V->V->Bool
 | .non,.non=>true
 | .bl a,.bl b=>a ==b
 | .bl a,.int b=>(if a then 1 else 0) ==b
 | .int a,.bl b=>a ==(if b then 1 else 0)
 | .int a,.int b=>a ==b
 | .str a,.str b=>a ==b
 |_,_=>false
def qz {A:Around}{x:V}{v:Value}(ry:RelV y u)(rx:RelV x v)(fy:av y=true)(fx:av x=true):SeqAt.EqAt A s u v (gR y x):=by
 cases y with
 |non=>
  cases ry;cases x with
  |non=>cases rx;exact SeqAt.EqAt.same _
  |bl b=>cases rx;exact SeqAt.EqAt.none_bool b
  |int b=>obtain⟨t,rfl⟩:=rx;exact SeqAt.EqAt.none_int b t
  |str b=>obtain⟨t,rfl⟩:=rx;exact SeqAt.EqAt.none_str b t
  |_=>exact absurd (show false=true from fx) Bool.false_ne_true
 |bl a=>
  cases ry;cases x with
  |non=>cases rx;exact SeqAt.EqAt.bool_none a
  |bl b=>cases rx;exact SeqAt.EqAt.bool_bool a b
  |int b=>obtain⟨t,rfl⟩:=rx;exact SeqAt.EqAt.bool_int a b t
  |str b=>obtain⟨t,rfl⟩:=rx;exact SeqAt.EqAt.bool_str a b t
  |_=>exact absurd (show false=true from fx) Bool.false_ne_true
 |int a=>
  obtain⟨t',rfl⟩:=ry;cases x with
  |non=>cases rx;exact SeqAt.EqAt.int_none a t'
  |bl b=>cases rx;exact SeqAt.EqAt.int_bool a t' b
  |int b=>obtain⟨t,rfl⟩:=rx;exact SeqAt.EqAt.int_int a t' b t
  |str b=>obtain⟨t,rfl⟩:=rx;exact SeqAt.EqAt.int_str a t' b t
  |_=>exact absurd (show false=true from fx) Bool.false_ne_true
 |str a=>
  obtain⟨t',rfl⟩:=ry;cases x with
  |non=>cases rx;exact SeqAt.EqAt.str_none a t'
  |bl b=>cases rx;exact SeqAt.EqAt.str_bool a t' b
  |int b=>obtain⟨t,rfl⟩:=rx;exact SeqAt.EqAt.str_int a t' b t
  |str b=>obtain⟨t,rfl⟩:=rx;exact SeqAt.EqAt.str_str a t' b t
  |_=>exact absurd (show false=true from fx) Bool.false_ne_true
 |_=>exact absurd (show false=true from fy) Bool.false_ne_true
abbrev sR (x:V)(u:Value):Bool:=match u with
 | .none=>gR .non x
 | .bool b=>gR (.bl b) x
 | .int i _=>gR (.int i) x
 | .str z _=>gR (.str z) x
 |_=>false
def qM {x:V}(r:RelV y u)(f:av y=true):sR x u=gR y x:=by
 cases y with
 |non=>cases r;rfl
 |bl b=>cases r;rfl
 |int i=>obtain⟨t,rfl⟩:=r;rfl
 |str z=>obtain⟨t,rfl⟩:=r;rfl
 |_=>exact absurd (show false=true from f) Bool.false_ne_true
def iV {x:V}:∀ {xs:List V}{us:List Value},Vals xs us->xs.all av=true->us.any (sR x)=xs.any λy=>gR y x
 |_,_,.nil,_=>rfl
 |y::xs,u::us,.cons r t,f=>by
  rw[all_cons,li]at f;rw[any_cons,any_cons,qM r f.1,iV t f.2]
def fZ {A:Around}{s:Shared}{x:V}{v:Value}(rx:RelV x v)(fx:av x=true):∀ {xs:List V}{us:List Value},Vals xs us->xs.all av=true->∀ u ∈ us,SeqAt.EqAt A s u v (sR x u)
 |_,_,.nil,_=>λu hu=>by cases hu
 |y::xs,u::us,.cons r t,f=>λu' hu=>by
  rw[all_cons,li]at f;rcases lf.mp hu with rfl|hu
  .rw[qM r f.1];exact qz r rx f.1 fx
  .exact fZ rx fx t f.2 u' hu
abbrev yr (x:V)(xs:List V):Bool:=xs.any λy=>gR y x
abbrev Cp (K:W.Frag)(neg:Bool):R2:=λx y H Q=>∃ p xs,y=.ref p/\(aA K H p xs\/bY K H p xs)/\av x=true/\xs.all av=true/\Q (.bl (if neg then !yr x xs else yr x xs)) H
def n9:bC X (compareOp .In) (Cp X.K false):=by
 intro Y s U H x y v u Q I rx ry h;obtain⟨p,xs,rfl,hq,fx,fs,q⟩:=h;cases ry;rcases hq with hq|hq
 .obtain⟨its,r,pl,hz⟩:=I.list hq;refine SeqAt.in_listAt (sR x) pl.isList (λw hw=>fZ rx fx r fs w (by simpa using hw)) ⟨.bl _,H,I,rfl,?_⟩;rw[show its.toArray.any (sR x)=its.any (sR x) by simp,iV r fs];exact q
 .obtain⟨its,r,pl,hz⟩:=I.tuple hq;refine SeqAt.in_tupleAt (sR x) pl (λw hw=>fZ rx fx r fs w (by simpa using hw)) ⟨.bl _,H,I,rfl,?_⟩;rw[show its.toArray.any (sR x)=its.any (sR x) by simp,iV r fs];exact q
def iS:bh X (.type "list") (λxs H Q=>∃ p ys,xs=[.ref p]/\(aA X.K H p ys\/bY X.K H p ys)/\∀ l,H l=none->Q (.ref l) (upd H l (.lst ys))):=by
 intro Y s U H xs us Q I r h;obtain⟨p,ys,rfl,hq,q⟩:=h;obtain⟨u,rfl,rx⟩:=vals1 r;cases rx;have fin:∀ (its:List Value),Vals ys its->ys.length<=bn->∀ (h':Heap) (c':Nat),(∀ b o',s.heap.get? b=some o'->h'.get? b=some o')->
   h'.get? s.heap.objs.size=some { cls:=.type "list",dict:=none,data:=.seq its.toArray c',slots:=#[] }->EP X Y U Q (.ref s.heap.objs.size) { s with heap:=h' }:=λits r' hz h' c' kp e=>
  ⟨.ref s.heap.objs.size,_,I.laid (t':=s.toks) kp (pc _) (show ai X.prog X.w _ h' _ (.lst ys) from⟨hz,its,c',r',e⟩),rfl,q _ (I.hok.fresh (pc _))⟩
 rcases hq with hq|hq
 .obtain⟨its,r',pl,hz⟩:=I.list hq;have hlen:=r'.length;obtain⟨o,ho,hc,n,hd⟩:=pl.isList;exact call_list_seq p (.inl rfl) ho hc hd (λh' c' kp e=>fin its r' hz h' c' kp e) (by simp only[ge]<;>omega)
 .obtain⟨its,r',pl,hz⟩:=I.tuple hq;have hlen:=r'.length;obtain⟨o,ho,hc,n,hd⟩:=pl;exact call_list_seq p (.inr rfl) ho hc hd (λh' c' kp e=>fin its r' hz h' c' kp e) (by simp only[ge]<;>omega)
def gK:bh X (.type "tuple") (λxs H Q=>∃ p ys,xs=[.ref p]/\((aA X.K H p ys/\∀ l,H l=none->Q (.ref l) (upd H l (.tup ys)))\/(bY X.K H p ys/\Q (.ref p) H))):=by
 intro Y s U H xs us Q I r h;obtain⟨p,ys,rfl,h⟩:=h;obtain⟨u,rfl,rx⟩:=vals1 r;cases rx;rcases h with⟨hq,q⟩|⟨hq,q⟩
 .obtain⟨its,r',pl,hz⟩:=I.list hq;have hlen:=r'.length;refine call_tuple_list pl.isList (λh' kp=>?_) (by simp only[ge]<;>omega);have I1:Inv X Y U H { s with heap:=h' }:=I.kept (t':=s.toks) kp;have I2:Inv X Y U (upd H h'.objs.size (.tup ys)) { s with heap:=h'.push { cls:=.type "tuple",data:=.seq its.toArray } }:=
   I1.laid (t':=s.toks) (λb o e=>ss _ e) (pc _) (show ai X.prog X.w _ _ _ (.tup ys) from⟨hz,its,r',IsTup.new _ _⟩)
  exact⟨.ref h'.objs.size,_,I2,rfl,q _ (I1.hok.fresh (pc _))⟩
 .obtain⟨its,r',pl,hz⟩:=I.tuple hq;exact call_tuple_same pl ⟨.ref p,H,I,rfl,q⟩
abbrev Bp (K:W.Frag)(T:String)(x:V)(H:Hp):Prop:=match x with
 | .str _=>T="str"
 | .int _=>T="int"
 | .ref p=>(T="list"/\∃ xs,aA K H p xs)\/(T="tuple"/\∃ o,K.lookup p=some o/\o.cls=.type "tuple"/\o.dict=none)\/
   (T="dict"/\((∃ kvs,H p=some (.dK kvs))\/∃ kvs,H p=some (.dT kvs)))\/(T="set"/\∃ S n,H p=some (.set S n))
 |_=>False
def pQ {T:String}{x:V}{v:Value}(I:Inv X Y U H s)(r:RelV x v)(ty:Bp X.K T x H):
  s.TypeIs v T/\∀ a,v=.ref a->∃ ob,s.heap.get? a=some ob/\ob.dict=none:=by
 cases x with
 |str z=>
  obtain⟨t,rfl⟩:=r;cases(show T="str" from ty);exact⟨typeIs_str s z t,λ_ e=>nomatch e⟩
 |int i=>
  obtain⟨t,rfl⟩:=r;cases(show T="int" from ty);exact⟨typeIs_int s i t,λ_ e=>nomatch e⟩
 |ref p=>
  cases r;rcases ty with⟨rfl,xs,hq⟩|⟨rfl,o,hk,hc,hd⟩|⟨rfl,hk⟩|⟨rfl,S,n,hk⟩
  .obtain⟨its,_,pl,_⟩:=I.list hq;refine⟨pl.isList.typeIs,λa e=>?_⟩;cases e;obtain⟨o,n,e,c,hd,_⟩:=pl;exact⟨o,e,hd⟩
  .refine⟨⟨o,I.aR p o hk,hc⟩,λa e=>?_⟩;cases e;exact⟨o,I.aR _ o hk,hd⟩
  .have z:∃ o,s.heap.get? p=some o/\o.ExactDict:=by
    rcases hk with⟨kvs,hk⟩|⟨kvs,hk⟩
    .obtain⟨_,_,_,_,o,_,_,e,ex,_⟩:=I.hok p _ hk;exact⟨o,e,ex⟩
    .obtain⟨_,_,_,_,o,_,_,e,ex,_⟩:=I.hok p _ hk;exact⟨o,e,ex⟩
   obtain⟨o,e,ex⟩:=z;refine⟨⟨o,e,ex.1⟩,λa e2=>?_⟩;cases e2;exact⟨o,e,ex.2.1⟩
  .obtain⟨o,_,_,_,e,ex,_⟩:=I.hok p _ hk;refine⟨⟨o,e,ex.1⟩,λa e2=>?_⟩;cases e2;exact⟨o,e,ex.2.1⟩
 |_=>exact False.elim ty
abbrev Bj (K:W.Frag)(T:String)(r:V->List V->Hp->VK->Prop)(to:TE):TE:=λU H Q=>to U H λx H1=>Bp K T x H1/\r x [] H1 Q
abbrev CF (K:W.Frag)(T:String)(r:V->List V->Hp->VK->Prop)(to:TE)(t:TA):TE:=λU H Q=>to U H λx H1=>Bp K T x H1/\t U H1 λxs H2=>r x xs H2 Q
variable {o e:Expr}{es:List Expr}{to:TE}{t:TA}{name:Str}{apos cpos:Pos}{T id:String}{r:V->List V->Hp->VK->Prop}
def wQ (pa:PlainAttrs T)(slot:Slot T name id)(hty:typeOf (.builtin id)=pure (.type "method_descriptor")) (hm:vD X id r) (ho:PE X o to)
  (hbase:attributeBase o name X.env (eval o X.env)=eval o X.env:=by rfl) (hline:(apos.endLine ==cpos.line)=true:=by rfl):PE X (.Call (.Attribute o name apos) [] [] cpos) (Bj X.K T r to):=by
 intro Y s U H Q I h;refine wpAny_Call_method0_late hbase hline (ao (ho Y s U H _ I h) λv s1 ⟨x,H1,I1,r1,ty,q1⟩=>?_);obtain⟨h1,h2⟩:=pQ I1 r1 ty;exact⟨T,id,pa,slot,hty,h1,h2,Calls.callWith_builtin rfl (PySem.evalArgs_none (hm Y s1 U H1 x [] v [] Q I1 r1 .nil q1))⟩
def vf (pa:PlainAttrs T)(slot:Slot T name id)(hty:typeOf (.builtin id)=pure (.type "method_descriptor")) (hm:vD X id r) (ho:PE X o to) (ha:PA X (e::es) t)
  (hbase:attributeBase o name X.env (eval o X.env)=eval o X.env:=by rfl)
  (hfew:((backTo cpos (bm (e::es) X.env)).all (λx=>!x.1)&&(backToKw cpos (keywordEach [] X.env)).all (λx=>x.1.isSome)
   &&decide ((e::es).length+([]:List Keyword).length+(if([]:List Keyword).isEmpty then 0 else 1)<30))=true:=by rfl)
  (hline:(apos.endLine ==cpos.line)=true:=by rfl) (hs:bm (e::es) X.env=(false,eval e X.env)::bm es X.env:=by rfl) (hplain:(backTo cpos (bm es X.env)).any (·.1)=false:=by rfl):
  PE X (.Call (.Attribute o name apos) (e::es) [] cpos) (CF X.K T r to t):=by
 intro Y s U H Q I h;refine wpAny_Call_method_late hbase hfew hline rfl (ao (ho Y s U H _ I h) λv s1 ⟨x,H1,I1,r1,ty,q1⟩=>?_);obtain⟨h1,h2⟩:=pQ I1 r1 ty;refine⟨T,id,pa,slot,hty,h1,h2,?_⟩;have hA:=ha cpos Y s1 U H1 _ I1 q1;rw[hs]at hA⊢;refine Calls.callWith_builtin (by show(false||(backTo cpos (bm es X.env)).any (·.1))=false;rw[hplain]<;>rfl) (Calls.evalArgs_plain ?_);exact ao hA λus s2 ⟨vs,H2,I2,r2,q2⟩=>hm Y s2 U H2 x vs v us Q I2 r1 r2 q2
/- xs.append(e),list.index on a module's tuple .. are vD facts of 06m -/
end
abbrev Cn (X:Cx)(id:String)(r:V->List V->Hp->VK->Prop):Prop:=
 ∀ (Y:CP) (s:Shared) (U:St) (H:Hp) (x:V) (xs:List V) (v:Value) (us:List Value) (Q:VK),Inv X Y U H s->RelV x v->Vals xs us->r x xs H Q->
  wpAny (model X.prog X.w) X.A (call (.builtin id) (v::us)) (EP X Y U Q) X.xe s
def Vals.one:∀ {x:V}{us:List Value},Vals [x] us->∃ u,us=[u]/\RelV x u
 |_,_,.cons r .nil=>⟨_,rfl,r⟩
def Vals.zero:∀ {us:List Value},Vals [] us->us=[]
 |_,.nil=>rfl
variable {us:List Value}
def Vals.reverse {xs:List V}(h:Vals xs us):Vals xs.reverse us.reverse:=by
 induction h with
 |nil=>exact .nil
 |cons r t ih=>rw[List.reverse_cons,List.reverse_cons];exact Vals.append ih (.cons r .nil)
def Vals.rep {xs:List V}(h:Vals xs us):∀ k:Nat,Vals (s0 k xs).flatten (s0 k us).flatten
 |0=>.nil
 |k+1=>by
  rw[replicate_succ,replicate_succ,flatten_cons,flatten_cons];exact Vals.append h (Vals.rep h k)
def foldl_rep (its:List Value):∀ (k:Nat) (acc:List Value),
  List.foldl (λx1 x2=>x1++x2) acc.toArray (s0 k its.toArray)=(acc++(s0 k its).flatten).toArray
 |0,acc=>by simp
 |k+1,acc=>by
  have e:acc.toArray++its.toArray=(acc++its).toArray:=by simp
  have e2:(acc++its)++(s0 k its).flatten=acc++(s0 (k+1) its).flatten:=by
   rw[replicate_succ,flatten_cons,io]
  rw[<-e2,<-foldl_rep its k (acc++its),<-e,replicate_succ,foldl_cons]
section
variable {X:Cx}{Y:CP}{U:St}{H:Hp}{s:Shared}{l b:Addr}{xs ys zs:List V}
def Inv.A2 {its its':List Value}{f:Array Value->Array Value}{t':Nat}(I:Inv X Y U H s)(hH:H l=some (.lst xs))
  (e:s.heap.get? l=some { cls:=.type "list",data:=.seq its.toArray n }) (hf:f its.toArray=its'.toArray) (hv:Vals ys its') (hz:ys.length<=bn):
  Inv X Y U (upd H l (.lst ys)) { s with heap:=s.heap.update l (Obj.mapSeq f),toks:=t' }:=by
 have q:=PySem.IsL.update e f;rw[hf]at q;refine I.write (x:=l) (e:=l) (by rw[hH];exact trivial) (.inl rfl) (λb' u hb hu=>(Heap.get?_update_other s.heap (Obj.mapSeq f) (Ne.symm hb)).trans hu) ⟨_,q⟩ ?_;exact⟨hz,its',_,hv,q⟩
def Inv.yN {its:List Value}{t':Nat}(I:Inv X Y U H s)(hv:Vals ys its)(hz:ys.length<=bn):
  Inv X Y U (upd H s.heap.objs.size (.lst ys)) { s with heap:=s.heap.push { cls:=.type "list",data:=.seq its.toArray },toks:=t' }:=
 I.laid (λ_ _ q=>ss _ q) (pc _) ⟨hz,its,0,hv,sK _ rfl⟩
def Inv.fresh (I:Inv X Y U H s):H s.heap.objs.size=none:=I.hok.fresh (pc _)
def Inv.sC (I:Inv X Y U H s)(hH:H l=some (.lst xs)):xs.length<=bn/\∃ (its:List Value) (n:Nat),Vals xs its/\xs.length=its.length/\s.heap.get? l=some { cls:=.type "list",data:=.seq its.toArray n }:=by
 obtain⟨z,its,n,r,e⟩:=I.hok l _ hH;exact⟨z,its,n,r,r.length,e⟩
def pZ (h:n<=bn):Builtin.List.listTooLong n=false:=by
 unfold Builtin.List.listTooLong;exact decide_eq_false nofun
end
section
variable {X:Cx}
abbrev uy:V->List V->Hp->VK->Prop:=λx vs H Q=>∃ l xs y,x=.ref l/\vs=[y]/\H l=some (.lst xs)/\xs.length<bn/\Q .non (upd H l (.lst (xs++[y])))
def eA:Cn X "list.append" uy:=by
 intro Y s U H x vs v us Q I rx rv h;obtain⟨l,xs,y,rfl,rfl,hH,hz,q⟩:=h;cases rx;obtain⟨u,rfl,ru⟩:=rv.one;obtain⟨z,its,n,r,hl,e⟩:=I.sC hH;refine call_meets F.slot_list_append ⟨_,e,rfl⟩ F.entry_list_append (F.args_list_append_2 _ _) (PySem.list_append l its.toArray n u (by rw[ge];omega)) ⟨e,?_⟩;refine⟨.non,_,I.A2 (its':=its++[u]) hH e (by simp) (r.append (.cons ru .nil)) ?_,rfl,q⟩;rw[ci,f8]
 omega
abbrev BA:R2:=λx y H Q=>∃ l b xs zs,x=.ref l/\y=.ref b/\H l=some (.lst xs)/\H b=some (.lst zs)/\xs.length+zs.length<=bn/\∀ p,H p=none->Q (.ref p) (upd H p (.lst (xs++zs)))
def yf:bC X (binaryOp .Add) BA:=by
 intro Y s U H x y v u Q I rx ry h;obtain⟨l,b,xs,zs,rfl,rfl,hH,hB,hz,q⟩:=h;cases rx;cases ry;obtain⟨z,its,n,r,hl,e⟩:=I.sC hH;obtain⟨z2,its2,n2,r2,hl2,e2⟩:=I.sC hB;refine PySem.P.add_list e e2 ?_ (by rw[ge,ge];omega);have ea:its.toArray++its2.toArray=(its++its2).toArray:=by simp
 rw[ea];exact⟨.ref _,_,I.yN (t':=s.toks) (r.append r2) (by rw[ci];omega),rfl,q _ I.fresh⟩
abbrev Bc:R2:=λx y H Q=>∃ l k xs,x=.ref l/\y=.int k/\H l=some (.lst xs)/\ -(2 ^ 63)<=k/\k<2 ^ 63/\xs.length*k.toNat<=bn/\
 ∀ p,H p=none->Q (.ref p) (upd H p (.lst (s0 k.toNat xs).flatten))
def len_rep (xs:List α)(k:Nat):(s0 k xs).flatten.length=k*xs.length:=by
 induction k with
 |zero=>simp
 |succ k ih=>rw[replicate_succ,flatten_cons,ci,ih,Nat.succ_mul,Nat.add_comm]
def xi:bC X (binaryOp .Mult) Bc:=by
 intro Y s U H x y v u Q I rx ry h;obtain⟨l,k,xs,rfl,rfl,hH,h1,h2,hz,q⟩:=h;cases rx;obtain⟨t,rfl⟩:=ry;obtain⟨z,its,n,r,hl,e⟩:=I.sC hH;have hlen:its.toArray.size*k.toNat<=bn:=by rw[ge,<-hl];exact hz
 have hcap:¬ its.toArray.size*k.toNat>(2 ^ 63-1) / 8:=by
  have:(bn:Nat)<=(2 ^ 63-1) / 8:=by decide
  omega
 have hfit:¬ (!Builtin.List.listFitsIndex k)=true:=by
  rw[fitsIndex_both h1 h2];exact Bool.false_ne_true
 have hlong:¬ Builtin.List.listTooLong (its.toArray.size*k.toNat)=true:=by
  rw[pZ hlen];exact Bool.false_ne_true
 have hnew:List.foldl (λx1 x2=>x1++x2) #[] (s0 (if its.toArray.isEmpty=true then 0 else k.toNat) its.toArray)=(s0 k.toNat its).flatten.toArray:=by
  have f0:∀ m:Nat,List.foldl (λx1 x2=>x1++x2) #[] (s0 m its.toArray)=(s0 m its).flatten.toArray:=λm=>by
   have:=foldl_rep its m [];rw[nil_append]at this;exact this
  rw[f0];cases its with
  |nil=>simp
  |cons a r'=>rw[if_neg (by simp)]
 refine wpAny_binaryOp_repeat_ref (T:="list") (U:="int") (by decide) ⟨_,e,rfl⟩ (λs'=>typeIs_int s' k t) noFill_list_mul F.fills_int_mul F.slot_int_rmul repeat_list F.slot_int_index.lookup
  (call_meets F.slot_int_rmul (typeIs_int s k t) F.entry_int_rmul (F.args_int_rmul_2 _ _) (int___rmul___int_list k t l its.toArray n)
   ⟨e,rfl,⟨_,e,rfl⟩,call_meets F.slot_list_mul ⟨_,e,rfl⟩ F.entry_list_mul (F.args_list_mul_2 _ _) (AutoListH.list___mul___list_int_3 l its.toArray n k t hfit hcap hlong) ⟨e,?_⟩⟩)
 rw[hnew];exact⟨.ref _,_,I.yN (t':=s.toks) (r.rep k.toNat) (by rw[len_rep,Nat.mul_comm];exact hz),rfl,q _ I.fresh⟩
end
section
variable {prog:Program}{w:World}{A:Around}{E:CO}{s:Shared}
set_option maxRecDepth 100000 in
end
section
variable {X:Cx}
end
variable {o:Option V}
section
variable {κ:Type} [DecidableEq κ]
abbrev fu (kvs:List (κ×V))(k:κ):Option V:=(kvs.find? λkv=>decide (kv.1=k)).map (·.2)
abbrev putK (kvs:List (κ×V))(k:κ)(v:V):List (κ×V):=
 if(kvs.any λkv=>decide (kv.1=k))=true then kvs.map (λkv=>if kv.1=k then(kv.1,v) else kv) else kvs++[(k,v)]
def fV {p:κ×V}{r:List (κ×V)}{k:κ}(e:p.1=k):fu (p::r) k=some p.2:=by simp[fu,find?_cons,e]
def gg {p:κ×V}{r:List (κ×V)}{k:κ}(e:¬ p.1=k):fu (p::r) k=fu r k:=by simp[fu,find?_cons,e]
def jL (k:κ):∀ kvs:List (κ×V),(kvs.any λkv=>decide (kv.1=k))=(fu kvs k).isSome
 | []=>rfl
 |p::r=>by
  rw[any_cons]
  by_cases e:p.1=k
  .simp only[fV e,decide_eq_true e,Bool.true_or,Option.isSome_some]
  .rw[gg e,decide_eq_false e,Bool.false_or];exact jL k r
def cf (kvs:List (κ×V))(k:κ)(v:V):(putK kvs k v).length<=kvs.length+1:=by
 unfold putK
 split
 .rw[ce];omega
 .rw[ci,length_cons,length_nil];omega
def bG.nA {u:Option Value}(r:bG o u):o.isSome=u.isSome:=by
 cases o with
 |none=>cases u with
  |none=>rfl
  |some _=>exact(show False from r).elim
 |some _=>cases u with
  |none=>exact(show False from r).elim
  |some _=>rfl
def KV.val {kvs:List (κ×V)}{vs:List (κ×Value)}(r:KV kvs vs)(k:κ):bG (fu kvs k) (valueAt vs k):=by
 unfold KV at r
 induction r with
 |nil=>exact True.intro
 | @cons p q ps qs h t ih=>
  obtain⟨h1,h2⟩:=h
  by_cases e:p.1=k
  .have e':q.1=k:=h1.symm.trans e;have b:valueAt (q::qs) k=some q.2:=by simp[valueAt,find?_cons,e']
   rw[fV e,b];exact h2
  .have e':¬ q.1=k:=λz=>e (h1.trans z)
   have b:valueAt (q::qs) k=valueAt qs k:=by simp[valueAt,find?_cons,e']
   rw[gg e,b];exact ih
def KV.any {kvs:List (κ×V)}{vs:List (κ×Value)}(r:KV kvs vs)(k:κ):(kvs.any λkv=>decide (kv.1=k))=vs.any λkv=>decide (kv.1=k):=by
 unfold KV at r
 induction r with
 |nil=>rfl
 |cons h t ih=>rw[any_cons,any_cons,ih,h.1]
def KV.wV {kvs:List (κ×V)}{vs:List (κ×Value)}(r:KV kvs vs)(k:κ)(ry:RelV y u):
  KV (kvs.map λkv=>if kv.1=k then(kv.1,y) else kv) (vs.map λkv=>if kv.1=k then(kv.1,u) else kv):=by
 unfold KV at r⊢
 induction r with
 |nil=>exact .nil
 | @cons p q ps qs h t ih=>
  rw[map_cons,map_cons];refine .cons ?_ ih;obtain⟨h1,h2⟩:=h
  by_cases e:p.1=k
  .rw[if_pos e,if_pos (h1.symm.trans e)];exact⟨h1,ry⟩
  .rw[if_neg e,if_neg (λz=>e (h1.trans z))];exact⟨h1,h2⟩
def KV.put {kvs:List (κ×V)}{vs:List (κ×Value)}(r:KV kvs vs)(k:κ)(ry:RelV y u):KV (putK kvs k y) (stored vs k u):=by
 unfold putK stored;rw[r.any k]
 by_cases e:(vs.any λkv=>decide (kv.1=k))=true
 .rw[if_pos e,if_pos e];exact r.wV k ry
 .rw[if_neg e,if_neg e];exact Paired.snoc r ⟨rfl,ry⟩
def KV.length {kvs:List (κ×V)}{vs:List (κ×Value)}(r:KV kvs vs):kvs.length=vs.length:=Paired.length r
end
variable {P:Program}{w:World}
def m8 {k:Key}(r:RelV (kV k) u):(aq P w).is k u=true:=by
 cases k with
 |inl i=>obtain⟨t,e⟩:=(show ∃ t,u=Value.int i t from r);subst e;exact kh P w i t
 |inr x=>obtain⟨t,e⟩:=(show ∃ t,u=Value.str x t from r);subst e;exact kE P w x t
def ij {P:Program}{w:World}:∀ {ks:List Key}{us:List Value},Vals (ks.map kV) us->ItemsAre (aq P w) ks us
 | [],_,r=>by rw[List.map_nil]at r;cases r;exact .nil
 |k::ks,_,r=>by
  rw[map_cons]at r;cases r with
  |cons h t=>exact .cons (m8 h) (ij t)
@[reducible]def KT (H:Hp):List (List Key×V)->List (List Key×Addr×Value)->Prop:=Paired λp q=>p.1=q.1/\H q.2.1=some (.tup (p.1.map kV))/\RelV p.2 q.2.2
variable {xs:List (List Key×Addr×Value)}{kvs:List (List Key×V)}
def KT.val (r:KT H kvs xs)(k:List Key):bG (fu kvs k) ((atKey xs k).map (·.2)):=by
 induction r with
 |nil=>exact True.intro
 | @cons p q ps qs h t ih=>
  obtain⟨h1,_,h2⟩:=h
  by_cases e:p.1=k
  .have e':q.1=k:=h1.symm.trans e;have b:atKey (q::qs) k=some q.2:=by simp[atKey,find?_cons,e']
   rw[fV e,b];exact h2
  .have e':¬ q.1=k:=λz=>e (h1.trans z)
   have b:atKey (q::qs) k=atKey qs k:=by simp[atKey,find?_cons,e']
   rw[gg e,b];exact ih
def KT.wV (r:KT H kvs xs)(k:List Key)(ry:RelV y u):
  KT H (kvs.map λkv=>if kv.1=k then(kv.1,y) else kv) (xs.map (putAt k u)):=by
 induction r with
 |nil=>exact .nil
 | @cons p q ps qs h t ih=>
  rw[map_cons,map_cons];refine .cons ?_ ih;obtain⟨h1,h2,h3⟩:=h;unfold putAt
  by_cases e:p.1=k
  .rw[if_pos e,if_pos (h1.symm.trans e)];exact⟨h1,h2,ry⟩
  .rw[if_neg e,if_neg (λz=>e (h1.trans z))];exact⟨h1,h2,h3⟩
def KT.put (r:KT H kvs xs)(k:List Key){b:Addr}(hb:H b=some (.tup (k.map kV)))(ry:RelV y u):
  KT H (putK kvs k y) (storedH xs k b u):=by
 have e:(kvs.any λkv=>decide (kv.1=k))=(atKey xs k).isSome:=by
  rw[jL,(r.val k).nA,Option.isSome_map]
 unfold putK storedH;rw[e]
 by_cases q:(atKey xs k).isSome=true
 .rw[if_pos q,if_pos q];exact r.wV k ry
 .rw[if_neg q,if_neg q];exact Paired.snoc r ⟨rfl,hb,ry⟩
variable {H':Hp}
def KT.keeps (r:KT H kvs xs)(ht:∀ b ys,H b=some (.tup ys)->H' b=some (.tup ys)):KT H' kvs xs:=
 Paired.xS r λ_ _ z=>⟨z.1,ht _ _ z.2.1,z.2.2⟩
section
variable {P:Program}{w:World}{H:Hp}{h:Heap}{a:Addr}
def vw {u:HO}(ok:dc P w H h)(e:Rd H a u):ai P w H h a u:=e.ok ok
def iy {kvs:List (Key×V)}(ok:dc P w H h)(e:Rd H a (.dK kvs)):kvs.length<=bn/\(a ==sysModules)=false/\∃ vs,KV kvs vs/\h.DictOf (aq P w) a vs:=
 show ai P w H h a (.dK kvs) from vw ok e
def vd {kvs:List (Key×V)}(ok:dc P w H h)(e:H a=some (.dK kvs)):kvs.length<=bn/\(a ==sysModules)=false/\∃ vs,KV kvs vs/\h.DictOf (aq P w) a vs:=iy ok (.inl e)
def lx {ks:List Key}(ok:dc P w H h)(e:H a=some (.tup (ks.map kV))):(tupleKind (aq P w)).is h ks a:=by
 obtain⟨_,its,r,o,h1,h2,n,h3⟩:=(show ai P w H h a (.tup (ks.map kV)) from ok a _ e);exact⟨o,its.toArray,n,h1,h2,h3,by simpa using ij r⟩
def qU (ok:dc P w H h)(e:Rd H a (.dT kvs)):kvs.length<=bn/\(a ==sysModules)=false/\
  ∃ xs,KT H kvs xs/\h.DictOfH (tupleKind (aq P w)) a xs:=by
 obtain⟨z,y,xs,r,o,es,ep,h1,h2,h3,h4,h5⟩:=(show ai P w H h a (.dT kvs) from vw ok e);refine⟨z,y,xs,r,o,es,ep,h1,h2,h3,h4,λx hx=>?_,h5⟩;have all:∀ {l:List (List Key×V)}{m:List (List Key×Addr×Value)},KT H l m->∀ x ∈ m,(tupleKind (aq P w)).is h x.1 x.2.1:=by
  intro l m q
  induction q with
  |nil=>intro x hx;exact nomatch hx
  | @cons p q ps qs hq t ih=>
   intro x hx;rcases lf.mp hx with e|hx
   .subst e;exact lx ok (by rw[<-hq.1];exact hq.2.1)
   .exact ih x hx
 exact all r x hx
def yY (ok:dc P w H h)(e:H a=some (.dT kvs)):kvs.length<=bn/\(a ==sysModules)=false/\
  ∃ xs,KT H kvs xs/\h.DictOfH (tupleKind (aq P w)) a xs:=qU ok (.inl e)
end
abbrev xA (H:Hp)(a:Addr)(y:V)(r:Option V):Prop:=
 (∃ kvs k,Rd H a (.dK kvs)/\y=kV k/\r=fu kvs k)\/∃ kvs k b,Rd H a (.dT kvs)/\y=.ref b/\H b=some (.tup (k.map kV))/\r=fu kvs k
abbrev zp (H:Hp)(a:Addr)(y v:V)(H':Hp):Prop:=
 (∃ kvs k,H a=some (.dK kvs)/\y=kV k/\kvs.length<bn/\H'=upd H a (.dK (putK kvs k v)))\/
 ∃ kvs k b,H a=some (.dT kvs)/\y=.ref b/\H b=some (.tup (k.map kV))/\kvs.length<bn/\H'=upd H a (.dT (putK kvs k v))
section
variable {X:Cx}{Y:CP}{U:St}{H:Hp}{s:Shared}{a:Addr}{y v:V}{u r:Value}{o:Option V}{A:Around}{E:CO}
def Inv.big (I:Inv X Y U H s):sysModules<s.heap.objs.size:=by
 have h:mainGlobals<s.heap.objs.size:=(I.mod.glob.keeps I.bk).lt;exact Nat.lt_trans (by decide) h
def oj {Q:CO}(hu:A.units+1<cLine)(I:Inv X Y U H s)(g:xA H a y (some v))(ry:RelV y u)(h:∀ w' s',Inv X Y U H s'->RelV v w'->Q w' s'):
  wpAny (model X.prog X.w) A (getItem (.ref a) u) Q E s:=by
 rcases g with⟨kvs,k,e,ey,l⟩|⟨kvs,k,b,e,ey,eb,l⟩
 .subst ey;obtain⟨z,hd,vs,rel,dd⟩:=iy I.hok e;obtain⟨w',hw,rw'⟩:=bG.some_of (v:=v) (o:=valueAt vs k) (by rw[l];exact rel.val k);exact wpAny_getItem_of (m8 ry) dd.mapOf hw (h w' _ (I.tok _) rw')
 .subst ey;cases(show u=Value.ref b from ry);obtain⟨z,hd,xs,rel,dd⟩:=qU I.hok e;obtain⟨w',hw,rw'⟩:=bG.some_of (v:=v) (o:=(atKey xs k).map (·.2)) (by rw[l];exact rel.val k);obtain⟨p,hp,hp2⟩:=lw.mp hw;refine wpAny_getItem_heap (tupleKind_room_in1 hu) (lx I.hok eb) dd hp ?_;rw[hp2];exact h w' _ (I.tok _) rw'
def iM {h':Heap}{t':Nat}{ob:HO}(I:Inv X Y U H s)(mu:zk (H a))(hs:Heap.SameBut a s.heap h')(he:∃ q,h'.get? a=some q) (new:ai X.prog X.w (upd H a ob) h' a ob):
  Inv X Y U (upd H a ob) { s with heap:=h',toks:=t' }:=
 I.write (x:=a) (e:=a) mu (.inl rfl) (λb q hb z=>(hs.2 b hb).trans z) he new
def pz {h':Heap}{kvs:List (Key×V)}{vs:List (Key×Value)}(z:kvs.length<=bn)(hd:(a ==sysModules)=false)(rel:KV kvs vs)(dd:h'.DictOf (aq P w) a vs):
  ai P w H' h' a (.dK kvs):=⟨z,hd,vs,rel,dd⟩
def om {Q:CN}(hu:A.units+1<cLine)(I:Inv X Y U H s)(g:zp H a y v H')(ry:RelV y u)(rv:RelV v r)(h:∀ s',Inv X Y U H' s'->Q () s'):
  wpAny (model X.prog X.w) A (setItem (.ref a) u r) Q E s:=by
 rcases g with⟨kvs,k,e,ey,l,eH⟩|⟨kvs,k,b,e,ey,eb,l,eH⟩
 .subst ey eH;obtain⟨z,hd,vs,rel,dd⟩:=vd I.hok e;have hz:vs.length<=bn:=by rw[<-rel.length];exact z
  have hl:(putK kvs k v).length<=bn:=by have:=cf kvs k v;omega
  refine wpAny_setItem_pairs (hsz:=hz) (m8 ry) dd λh' dd' hs=>h _ ?_
  have he:∃ q,h'.get? a=some q:=let⟨q,_,_,hq,_⟩:=dd';⟨q,hq⟩;exact iM I (by rw[e];exact True.intro) hs he (pz hl hd (rel.put k rv) dd')
 .subst ey eH;cases(show u=Value.ref b from ry);obtain⟨z,hd,xs,rel,dd⟩:=yY I.hok e;have hz:xs.length<=bn:=by rw[<-Paired.length rel];exact z
  have hl:(putK kvs k v).length<=bn:=by have:=cf kvs k v;omega
  refine wpAny_setItem_heap (hsz:=hz) (tupleKind_room_in1 hu) (lx I.hok eb) dd λh' dd' hs=>h _ ?_
  obtain⟨q,es,ep,hq,h2,h3,h4,_,h5⟩:=dd';refine iM I (by rw[e];exact True.intro) hs ⟨q,hq⟩ ⟨hl,hd,_,(rel.put k eb rv).keeps λc ys ec=>?_,q,es,ep,hq,h2,h3,h4,h5⟩;rw[ae (Ad ec e (λz=>nomatch z))];exact ec
end
section
variable {X:Cx}{Y:CP}{U:St}{H:Hp}{s:Shared}{a:Addr}{kvs:List (Key×V)}{k:Key}{u:Value}{A:Around}{E:CO}
end
def j5 {X:Cx}{a:Addr}(I:Inv X Y U H s)(g:xA H a y o):s.TypeIs (.ref a) "dict":=by
 rcases g with⟨kvs,k,e,_,_⟩|⟨kvs,k,b,e,_,_,_⟩
 .obtain⟨_,_,vs,_,dd⟩:=iy I.hok e;exact dd.typeIs
 .obtain⟨_,_,xs,_,dd⟩:=qU I.hok e;exact dd.typeIs
section
variable {X:Cx}{o i e value:Expr}{pos pos' tpos:Pos}{td ty tv:TE}
end
def kl (h:Heap)(hb:sysModules<h.objs.size):ai P w H (h.push { cls:=.type "dict",data:=.dict #[] }) h.objs.size (.dK []):=
 ⟨Nat.zero_le _,beq_eq_false_iff_ne.mpr (Ne.symm (nl hb)),[],.nil,Heap.DictOf.new h⟩
abbrev wW:TE:=λ_ H Q=>∀ p,H p=none->Q (.ref p) (upd H p (.dK []))
section
variable {X:Cx}{pos:Pos}
def qi:PE X (.Dict [] [] pos) wW:=λY s U H Q I h=>
 wpAny_Dict_empty ⟨.ref s.heap.objs.size,_,I.laid (a:=s.heap.objs.size) (o:=.dK []) (t':=s.toks) (λ_ _ q=>ss _ q) (pc _) (kl s.heap I.big),rfl,h _ (I.hok.fresh (pc _))⟩
end
section
variable {X:Cx}{Y:CP}{U:St}{H:Hp}{s:Shared}{a:Addr}{y d:V}{u r:Value}{o:Option V}{A:Around}{E:CO}
end
section
variable {X:Cx}{o e f:Expr}{apos cpos:Pos}{td ty tx:TE}
end
section
variable {X:Cx}{Y:CP}{U:St}{H:Hp}{s:Shared}{a:Addr}{kvs:List (Key×V)}{A:Around}{E:CO}
end
section
variable {X:Cx}{Y:CP}{U:St}{H:Hp}{s:Shared}{a:Addr}{y:V}{u:Value}{A:Around}{E:CO}
end
end L2
namespace Att
open PySem PySem.W PySem.Calls PyProof.Rows
variable {P:Params}
def fj {h:Heap}:∀ (ns:List Int) (vs:List Value),WellAll P h vs (ns.map WData.int)->IntsAre vs ns:=by
 intro ns
 induction ns with
 |nil=>
  intro vs w;rw[List.map_nil]at w;cases w;exact .nil
 |cons n ns ih=>
  intro vs w;rw[map_cons]at w;cases w with
  |cons a b=>
   cases a;exact .cons _ _ (ih _ b)
variable {l:OpenLaw}
def oo {n:Nat}(hn:l.most=some n){h:Heap}{args:List WData}{vals:List Value}
  (hpre:l.row.toRowW.claim.pre args=true) (hwl:WellAll P h vals args):
  ∃ a vs ns,vals=[Value.ref a]/\args=[WData.list (ns.map WData.int)]/\h.get? a=some { cls:=.type "list",data:=.seq vs.toArray }/\IntsAre vs ns/\ns.length<=n:=by
 have hsh:WShape.hasAll [] args [.list .int]=true:=(pre_splitW hpre).1;have hc:l.pre.holds [] { args:=args }=true:=(pre_splitW hpre).2;obtain⟨d,r,rfl,h1,h2⟩:=hasAllW_cons hsh;obtain rfl:=hasAllW_nil h2;obtain⟨xs,rfl,h3⟩:=hasW_list h1;obtain⟨ns,rfl⟩:=items_int h3;have hlen:ns.length<=n:=by
  unfold OpenLaw.pre at hc;have h4:(WTm.not (.lt (.lit (.int (n:Int))) (.len (.arg 0)))).holds [] { args:=[.list (ns.map .int)] }=true:=by
   have h4:=(holds_andW hc).1;rw[hn]at h4;exact h4
  have h5:=condW_of h4 (w_not (w_lt w_lit (w_len_list (w_arg rfl))));rw[ce]at h5;refine Nat.le_of_not_lt λq=>?_
  have q':(n:Int)<((ns.length:Nat):Int):=by omega
  first
   |(rw[decide_eq_true q']at h5;exact absurd h5 (by decide))
   |(simp at h5;omega)
 cases hwl with
 |cons w1 w2=>
  cases w2;cases w1 with
  |list ho hall=>exact⟨_,_,ns,rfl,rfl,ho,fj ns _ hall,hlen⟩
def o4 (l:OpenLaw)(args:List WData):l.row.toRowW.claim.post args (.bool true) args=true:=
 postW_of (r:=l.row.toRowW) (X:=(true ==true))
  (show WShape.has [] (.bool true) .bool=true by first|rfl|decide|simp[WShape.has,WShape.arms,WShape.armsAll])
  (show(WTm.eq .res (.lit (.bool true))).value [] { args:=args,res:=some (.bool true),after:=args }=some (.bool (true ==true)) from w_eq_bool (w_res rfl) w_lit) rfl
def jZ {n:Nat}{q:Program}{loose:List Str}{XP:(Str->Option Value)->Heap->Prop}{YP:World->Heap->Prop}{d:DefRec}
  (hn:l.most=some n) (hdf:d.params.defaults=[])
  (call:∀ (w:World) (s₀ s₁:Shared) (mg mb:CQ) (fa:Addr) (o:Obj) (pm cd doc:Value) (a:Addr) (vs:List Value) (ns:List Int),
   Ground q loose [] XP w s₀ mg mb s₁.heap->YP w s₁.heap->
   s₁.heap.get? fa=some o->o.data=.func (docDef d.name d.params d.body d.scope pm cd doc)->s₁.heap.CodeRec cd d.name->mg d.name=some (.ref fa)->
   s₁.heap.get? a=some { cls:=.type "list",data:=.seq vs.toArray }->IntsAre vs ns->ns.length<=n->s₁.gens=#[]->
   codeAny (model l.prog w) callerA (.call (.ref fa) ⟨[.ref a],[]⟩) (λr s'=>r=.ok (.ret (.bool true))/\OldK s₁.heap s'.heap/\s'.os=s₁.os/\AllBare s'.gens) s₁):
  WalkO q loose XP YP l.row.toRowW d [] (λf vs=>PySem.call f vs):=by
 intro w s₀ s₁ mg mb G Y fa o pm cd doc dV kV ho hd hcd hD hmg hg args vals as hpre hlay hrd hwl hlo;obtain rfl:dV=.none:=Dflts.none hD hdf;obtain rfl:kV=.none:=Dflts.noKw hD;obtain⟨a,vs,ns,rfl,rfl,hobj,hints,hlen⟩:=oo hn hpre hwl;refine enter_call (codeAny_mono (call w s₀ s₁ mg mb fa o pm cd doc a vs ns G Y ho (fd_plain hd) hcd hmg hobj hints hlen hg) λr s' hq=>?_);obtain⟨rfl,h2,h3,h4⟩:=hq;exact⟨.inl ⟨.bool true,.bool true,[],rfl,λ_=>rfl,.bool true,o4 l _,λ_=>⟨List.Pairwise.nil,λ_ hm=>(nomatch hm)⟩⟩,h2,h3,h4⟩
section
variable {prog:Program}{w:World}{A:Around}{E:CO}{s:Shared}{K:Frag}
end
end Att
namespace L2
open PySem PySem.Spec PyProof.Rows
def g9:∀ {vs:List Value}{ns:List Int},IntsAre vs ns->Vals (ns.map V.int) vs
 |_,_,.nil=>.nil
 |_,_,.cons n t h=>.cons ⟨t,rfl⟩ (g9 h)
abbrev xO (H:Hp):Prop:=∀ b,H b=none\/∃ o xs,H b=some (.fL o (.lst xs))
def pK {P:Program}{w:World}{K:W.Frag}{mg mb:CQ}{CX:mN}{k:Nat}{fa a:Addr}{fd:FuncData}{x:Str}{sp:Sp}{s₁:Shared}{vs:List Value}{ns:List Int}
  (KX:K.In s₁.heap) (hns:s₁.heap.Ns mainGlobals mg) (hb:s₁.heap.Ns builtinsNs mb) (hbb:∀ x:Str,x≠"__name__"->mb x=bootBuiltins x) (hlim:s₁.heap.NoLimit) (hg:s₁.gens=#[])
  (ha:s₁.heap.get? a=some { cls:=.type "list",data:=.seq vs.toArray }) (hi:IntsAre vs ns) (hl:ns.length<=bn) (hr:aP k callerA)
  (F:∀ base:Heap,K.In base->base.Ns mainGlobals mg->bF P w K mg base CX k fa fd [x] sp) (hbind:∀ (s:Shared) (u:Value),BindsTo s fd ⟨[u],[]⟩ [(x,u)])
  (hsp:∀ H:Hp,xO H->aA K H a (ns.map V.int)->sp [.ref a] H (λv _=>v=.bl true) λ_ _=>False)
  (hCX:∀ H e s',CX [] H s₁ (λ_ _=>False) e s'->False):
  codeAny (model P w) callerA (.call (.ref fa) ⟨[.ref a],[]⟩) (λr s'=>r=.ok (.ret (.bool true))/\OldK s₁.heap s'.heap/\s'.os=s₁.os/\AllBare s'.gens) s₁:=by
 have rv:=g9 hi;have lenV:=hi.length;have core:∀ H:Hp,xO H->aA K H a (ns.map V.int)->dc P w H s₁.heap->(∀ b,H b≠none->b=a)->(H a≠none->K.lookup a=none)->
   codeAny (model P w) callerA (.call (.ref fa) ⟨[.ref a],[]⟩) (λr s'=>r=.ok (.ret (.bool true))/\OldK s₁.heap s'.heap/\s'.os=s₁.os/\AllBare s'.gens) s₁:=by
  intro H hO hS hok hA hK;have base_of:∀ {b:Addr}{o:Obj},s₁.heap.get? b=some o->H b=none->(jr s₁.heap H).get? b=some o:=λe n=>rA e n
  have noA:∀ {b:Addr}{o:Obj}{es:Array DictEntry}{ep:Nat},s₁.heap.get? b=some o->o.data=.dict es ep->H b=none:=λ{b o es ep} e d=>by
   cases q:H b with
   |none=>rfl
   |some u=>
    have e':b=a:=hA b (by rw[q];simp);subst e';rw[ha]at e;cases e;have d':Data.seq vs.toArray _=Data.dict es ep:=d;cases d'
  have nsK:∀ {b:Addr}{m:CQ},s₁.heap.Ns b m->(jr s₁.heap H).Ns b m:=λ{b m} ⟨o,es,ep,e,d,r⟩=>⟨o,es,ep,base_of e (noA e d),d,r⟩
  have hKb:K.In (jr s₁.heap H):=λb o e=>base_of (KX b o e) (by
   cases q:H b with
   |none=>rfl
   |some u=>
    have e':b=a:=hA b (by rw[q];simp);subst e';rw[hK (by rw[q];simp)]at e;cases e)
  have hM:Mod K mg (jr s₁.heap H):=⟨hKb,nsK hns,⟨mb,nsK hb,hbb⟩,let⟨mc,h1,h2⟩:=hlim;⟨mc,nsK h1,h2⟩⟩;have e0:kP P w K mg (jr s₁.heap H) callerA [] s₁ H:=⟨rfl,hM,λb o e=>tU e,Nat.le_of_eq (n6 _ _),trivial,λb hb=>absurd (show b ∈ ([]:List Addr) from hb) (by simp),hok,.of_eq hg⟩;refine codeAny_mono ((F _ hKb (nsK hns)).run callerA [] s₁ H ⟨[.ref a],[]⟩ [.ref a] [.ref a] _ _ hr e0 (hbind s₁ (.ref a)) (.cons rfl .nil) (hsp H hO hS)) λr s' h=>?_
  cases r with
  |error e=>exact(hCX H e s' h).elim
  |ok fl=>
   cases fl with
   |next=>exact False.elim h
   |brk=>exact False.elim h
   |cont=>exact False.elim h
   |ret u=>
    obtain⟨v,H',os,bare,un,hok',r',q⟩:=h;have q':v=.bl true:=q;subst q';obtain rfl:u=Value.bool true:=r';refine⟨rfl,OldK.of_keep λb o e=>?_,os,bare⟩;cases q:H b with
    |none=>exact un.keep b o e q (by intro z;exact absurd (show b ∈ ([]:List Addr) from z) (by simp)) (by simp)
    |some u=>
     rcases hO b with z|⟨ob,xs,z⟩
     .rw[q]at z;cases z
     .have z2:=un.frzs b ob _ z;obtain⟨e1,_⟩:=hok b _ z;obtain⟨e2,_⟩:=hok' b _ z2;rw[e]at e1;cases e1;exact e2
 cases hk:K.lookup a with
 |some o=>
  have e:=KX a o hk;rw[ha]at e;cases e;refine core (λ_=>none) (λ_=>.inl rfl) (.inr ⟨_,vs.toArray,_,hk,rfl,rfl,rfl,by rw[ge,lenV];exact hl,by simpa using rv⟩) (λb u z=>by have z':(none:Option HO)=some u:=z;cases z') (λb z=>absurd rfl z) λz=>absurd rfl z
 |none=>
  refine core (λb=>if b=a then some (.fL { cls:=.type "list",data:=.seq vs.toArray } (.lst (ns.map V.int))) else none) (λb=>?_) (.inl (.inr ⟨{ cls:=.type "list",data:=.seq vs.toArray },if_pos rfl⟩)) (λb u z=>?_) (λb z=>?_) λ_=>hk
  .by_cases hb:b=a
   .exact .inr ⟨_,_,if_pos hb⟩
   .exact .inl (if_neg hb)
  .by_cases hb:b=a
   .have z':=(if_pos hb).symm.trans z;cases z';subst hb;exact⟨ha,by rw[ce];exact hl,vs,_,rv,ha⟩
   .have z':=(if_neg hb).symm.trans z;cases z'
  .by_cases hb:b=a
   .exact hb
   .exact absurd (if_neg hb) z
def tY {l:W.OpenLaw}{n k:Nat}{q:Program}{loose:List Str}{XP:(Str->Option Value)->Heap->Prop}{YP:World->Heap->Prop}{d:DefRec}{K:Params->W.Frag}{CX:World->mN}{sp:World->Sp}{x:Str}
  (hn:l.most=some n) (hn2:n<=bn) (hdf:d.params.defaults=[]) (hr:aP k callerA)
  (hY:∀ (w:World) (h:Heap),YP w h->(K w.params).In h)
  (F:∀ (w:World) (mg:CQ) (fa:Addr) (h:Heap),(K w.params).In h->h.Ns mainGlobals mg->mg d.name=some (.ref fa)->
   ∃ fd:FuncData,(∀ (s:Shared) (u:Value),BindsTo s fd ⟨[u],[]⟩ [(x,u)])/\
    ∀ base:Heap,(K w.params).In base->base.Ns mainGlobals mg->bF l.prog w (K w.params) mg base (CX w) k fa fd [x] (sp w))
  (hsp:∀ (w:World) (H:Hp) (a:Addr) (ns:List Int),ns.length<=n->xO H->aA (K w.params) H a (ns.map V.int)->sp w [.ref a] H (λv _=>v=.bl true) λ_ _=>False)
  (hCX:∀ (w:World) (H:Hp) (s:Shared) (e:Value) (s':Shared),CX w [] H s (λ_ _=>False) e s'->False):
  W.WalkO q loose XP YP l.row.toRowW d [] (λf vs=>PySem.call f vs):=by
 refine Att.jZ hn hdf λw s₀ s₁ mg mb fa o pm cd doc a vs ns G Y ho hd hcd hmg hobj hints hlen hg=>?_
 have KX:=hY w _ Y;obtain⟨fd,hb,hF⟩:=F w mg fa _ KX G.T.g hmg;exact pK KX G.T.g G.T.b G.T.builtins G.T.nolimit hg hobj hints (Nat.le_trans hlen hn2) hr hF hb (λH hO hS=>hsp w H a ns hlen hO hS) λH e s'=>hCX w H s₁ e s'
section
variable {P:Program}{w:World}{K:W.Frag}{mg:CQ}{base:Heap}
end
def cL {n:Nat}(h:n<=1000):n<bn:=Nat.lt_of_le_of_lt h (by decide)
section
variable {X:Cx}
end
end L2
namespace L2
open PySem PySem.Spec PySem.W PyProof.Rows PySem.Builtin PySem.Builtin.ObjectAttr
variable {rs:List Addr}
section
variable {prog:Program}{w:World}{A:Around}{E:CO}{s:Shared}{K:W.Frag}{x C:Addr}{ox od:Obj}{name:Str}{expr:Bool}{v:Value}{Q:CO}
def jE:builtinKind "BaseException.__getattribute__"=some .slot:=by decide+kernel
def ir:splitId "BaseException.__getattribute__"=some ("BaseException","__getattribute__"):=by decide+kernel
def tL (X:K.In s.heap)(I:W.InstAt s.heap x ox C (some od))(hga:W.findIn K (.ref C) "__getattribute__"=some (some (.builtin "BaseException.__getattribute__"))) (hgn:W.findIn K (.ref C) "__getattr__"=some none)
  (hb:W.mroIn K C (.type "BaseException")=some true) (hf:W.findObj K C (some od) name=some (.value v)) (hh:W.handedIn v=true) (h:Q v { s with toks:=s.toks+1 }):
  wpAny (model prog w) A (getAttr (.ref x) name expr) Q E s:=by
 obtain⟨hp,g,d,t,os⟩:=s;have L0:=I.type (M:=model prog w);have L1:=looks_findIn (M:=model prog w) X hga;have L2':=looks_findIn (M:=model prog w) X hgn;have L3:=looks_find (M:=model prog w) X I hf;have L4:Looks (model prog w) hp (isInstance (.ref x) (.type "BaseException")) true:=I.type.andThen (looks_mroIn X hb);unfold getAttr getAttrBy;refine am (wpAny_mkText (be (am (L0.at (am (L1.at ?_))))));have e1:(Value.builtin "BaseException.__getattribute__" ==Value.builtin "object.__getattribute__")=false:=by decide+kernel
 dsimp only;rw[e1,Bool.and_false];show wpAny _ _ (getAttrByItsOwn _ _ _ _ _ _) _ _ _;unfold getAttrByItsOwn hookBefore;refine am (L2'.at ?_);refine am (wpAny_attempt (be ?_));have e2:(expr&&onTheHeap (Value.builtin "BaseException.__getattribute__"))=false:=by cases expr<;>rfl
 unfold callGetattribute;rw[e2];show wpAny _ _ (boundAndCalled _ _ _) _ _ _;unfold boundAndCalled;rw[PySem.F.attr_ValueError.ga.bind];refine am (ap (wpAny_call (codeAny_call_builtin PySem.F.attr_ValueError.ga.plain PySem.F.entry_bexc_ga ?_)));refine @check_slot (model prog w) _ _ _ "BaseException.__getattribute__" "BaseException" "__getattribute__" (.ref x) [.str name t] [] _ jE ir L4 (PySem.F.args_bexc_ga (.ref x) (.str name t)) ?_;unfold Builtin.«object.__getattribute__»;refine am (ap (am (ap (am (L0.at (am (L3.at ?_)))))));refine ap ?_;show wpAny _ _ (handedOut v) _ _ _;rw[handedOut_of hh];exact ap h
abbrev rG:Value->Bool
 | .ref _=>true
 |_=>false
abbrev aS:List Value:=[.type "ValueError",.type "Exception",.type "BaseException",.type "object"]
abbrev bM (l:List Value):Bool:=l.dropWhile rG ==aS
def bV:∀ {l:List Value},bM l=true->∃ rs:List Addr,l=rs.map Value.ref++aS
 | [],e=>by cases e
 |c::r,e=>by
  by_cases h:rG c=true
  .have e':bM r=true:=by
    unfold bM at e⊢;rw[List.dropWhile_cons_of_pos h]at e;exact e
   obtain⟨rs,q⟩:=bV e';cases c with
   |ref a=>exact⟨a::rs,by rw[q];rfl⟩
   |_=>cases h
  .unfold bM at e;rw[List.dropWhile_cons_of_neg h]at e;exact⟨[],beq_iff_eq.mp e⟩
def gm (self:Value):∀ rs:List Addr,refuseLoop self "__setattr__" (rs.map Value.ref++aS)=pure ()
 | []=>PySem.F.store_ValueError.passes self
 |a::r=>by rw[map_cons,List.cons_append,refuseLoop_ref];exact gm self r
structure a9 (K:W.Frag) (C:Addr):Prop where
 mt:W.typeIn K (.ref C)=some (.type "type")
 ov:(W.clsIn K C).any (λcd=>bM cd.mro)=true
 hd:W.hasDictIn K C=true
 ga:W.findIn K (.ref C) "__getattribute__"=some (some (.builtin "BaseException.__getattribute__"))
 gn:W.findIn K (.ref C) "__getattr__"=some none
 sa:W.findIn K (.ref C) "__setattr__"=some (some (.builtin "object.__setattr__"))
def a9.mro (c:a9 K C):∃ (cd:ClassData) (rs:List Addr),W.clsIn K C=some cd/\cd.mro=rs.map Value.ref++aS:=by
 obtain⟨cd,h1,h2⟩:=W.any_some c.ov;obtain⟨rs,h3⟩:=bV h2;exact⟨cd,rs,h1,h3⟩
def jF (h:aS.contains v=true):(rs.map Value.ref++aS).contains v=true:=by
 rw[List.contains_eq_mem,decide_eq_true_eq]at h⊢;exact gt _ h
def my:(rs.map Value.ref++aS).isEmpty=false:=by cases rs<;>rfl
def a9.sub (c:a9 K C)(h:aS.contains v=true):W.mroIn K C v=some true:=by
 obtain⟨cd,rs,h1,h2⟩:=c.mro;unfold W.mroIn;rw[h1,Option.bind_some,h2,if_neg (by rw[my];decide),jF h]
variable {R:Result->Shared->Prop}
def jA {tk:Tok}{odo:Option Obj}(X:K.In s.heap)(I:W.InstAt s.heap x ox C odo)(c:a9 K C)(ht:W.findIn K (.ref C) name=some none)
  (h:wpAny (model prog w) A.in1 (storeInOwnDict (.ref x) (.ref C) (.str name tk) name v false)
   (λfin s'=>match fin with| .done f=>R (.ok f) s'| .again c'=>c'.quiet=true/\codeAny (model prog w) A c' R s') (λe s'=>R (.error e) s') s):
  codeAny (model prog w) A (.call (.builtin "object.__setattr__") ⟨[.ref x,.str name tk,v],[]⟩) R s:=by
 have SF:=PySem.F.store_object;obtain⟨cd,rs,hc,hm⟩:=c.mro;have sub:Looks (model prog w) s.heap (isInstance (.ref x) (.type "object")) true:=I.type.andThen (looks_mroIn X (c.sub (by decide+kernel)));refine codeAny_call_builtin SF.slot.plain SF.entry (@check_slot (model prog w) _ _ s "object.__setattr__" "object" "__setattr__" (.ref x) [.str name tk,v] [] _ SF.kind SF.split sub (SF.args (.ref x) (.str name tk) v) ?_);have hl:Looks (model prog w) s.heap (mroOf (.ref C)) cd.mro:=(looks_clsIn X hc).andThen .now;rw[osa_eq,refuse_eq];refine am (am (I.type.here (am (hl.here ?_))));rw[hm,gm];refine ap (am (I.type.here (am ((looks_findIn X ht).here (am (ap ?_))))));exact h
end
variable {Q:CO}{u:Value}
section
variable {X:Cx}{Y:CP}{U:St}{H:Hp}{s:Shared}{a C dx:Addr}{fs:List (Str×V)}{f:Str}{v:V}{A:Around}{E:CO}{fr:Bool}
def hV {b:Bool}(I:Inv X Y U H s)(e:H a=some (.exc C (some dx) fs fr))(c:a9 X.K C)(n:cj X.K C f)(l:fs.lookup f=some v)
  (h:∀ u s',Inv X Y U H s'->RelV v u->Q u s'):wpAny (model X.prog X.w) A (getAttr (.ref a) f b) Q E s:=by
 obtain⟨⟨vs,ho,_⟩,z⟩:=I.hok a _ e;rcases z with⟨z,_⟩|⟨d,ed,_,_,_,mA,hn,r,_⟩
 .cases z
 cases ed;obtain⟨u,hu,ru⟩:=bG.some_of (v:=v) (o:=mA f) (by rw[<-l];exact r f);obtain⟨od,hod,hl⟩:=dY hn;refine tL (ox:={ cls:=.ref C,dict:=some dx,data:=.fields vs }) (od:=od) I.aR ⟨ho,rfl,rfl,hod⟩ c.ga c.gn (c.sub (by decide+kernel)) (W.findObj_own c.hd n rfl (by rw[hl,hu])) (iq ru) (h u _ (I.tok _) ru)
def gd {y:V}{Q:CN}(I:Inv X Y U H s)(e:H a=some (.exc C (some dx) fs fr))(c:a9 X.K C)(n:cj X.K C f)(hl:fs.length<1000)(ry:RelV y u)
  (h:∀ s',Inv X Y U (upd H a (.exc C (some dx) (bt f y fs) fr)) s'->Q () s'):wpAny (model X.prog X.w) A (setAttr (.ref a) f u) Q E s:=by
 obtain⟨⟨vs,ho,zz⟩,z⟩:=id (I.hok a _ e);rcases z with⟨z,_⟩|⟨d,ed,hown,_,hne,mA,hn,r,wi⟩
 .cases z
 cases ed;obtain⟨od,hod,hlk⟩:=dY hn;have hz:(fs.map (·.1)).length<=bn:=by rw[ce,sizeLine_eq];omega
 have J:W.InstAt s.heap a { cls:=.ref C,dict:=some dx,data:=.fields vs } C (some od):=⟨ho,rfl,rfl,hod⟩;refine W.set_plain I.aR J c.sa (jA (s:={ s with toks:=s.toks+1 }) I.aR J c n ?_);obtain⟨cd,hc,hd'⟩:=W.any_some c.hd;refine am (ap (am (am (wpAny_loadPart ho (am (W.Looks.here (s:={ s with toks:=s.toks+1 }) (W.looks_clsIn I.aR hc) ?_))))));rw[hd'];refine ap (a:=some dx) (am (ap (am ?_)));refine wpAny_nsSet1 (s:={ s with toks:=s.toks+1 }) hn λh' hn2 hs2=>?_
 obtain⟨oD,esD,epD,hoD,hdD,hcD⟩:=hn2.count (PySem.Within.cons f u wi);refine am (wpAny_lookBehind hoD (by rw[hdD];exact pastItsLine_dict (Nat.le_trans hcD (by rw[length_cons];omega))) ?_);refine ap (h _ ?_);refine I.write (x:=a) (e:=dx) (by rw[e];exact True.intro) (.inr hown) (λb q hb z=>(hs2.2 b hb).trans z) ⟨oD,hoD⟩ ?_;refine⟨⟨vs,(hs2.2 _ (Ne.symm hne)).trans ho,zz⟩,.inr ⟨dx,rfl,by rw[ae hne];exact hown,?_,hne,_,hn2,λg=>?_,λg hg=>?_⟩⟩
 .have:=ck f y fs;omega
 .show bG ((bt f y fs).lookup g) (if g=f then some u else mA g);rw[cE]
  by_cases q:g=f
  .rw[if_pos q,if_pos q];exact ry
  .rw[if_neg q,if_neg q];exact r g
 .by_cases q:g=f
  .rw[q];exact(bE f y fs).1
  .refine(bE f y fs).2 g (wi g λz=>hg ?_);show(if g=f then some u else mA g)=none;rw[if_neg q];exact z
def fW {y:V}{Q:CN}(I:Inv X Y U H s)(e:H a=some (.exc C none fs fr))(c:a9 X.K C)(n:cj X.K C f)(ry:RelV y u)
  (h:∀ d s',H d=none->Inv X Y U (upd (upd H d (.own a)) a (.exc C (some d) [(f,y)] fr)) s'->Q () s'):wpAny (model X.prog X.w) A (setAttr (.ref a) f u) Q E s:=by
 obtain⟨⟨vs,ho,zz⟩,z⟩:=id (I.hok a _ e);have hfs:fs=[]:=by
  rcases z with⟨_,z⟩|⟨d,ed,_⟩
  .exact z
  .cases ed
 subst hfs;have J:W.InstAt s.heap a { cls:=.ref C,dict:=none,data:=.fields vs } C none:=⟨ho,rfl,rfl,True.intro⟩;refine W.set_plain I.aR J c.sa (jA (s:={ s with toks:=s.toks+1 }) I.aR J c n ?_);obtain⟨cd,hc,hd'⟩:=W.any_some c.hd;refine am (ap (am (am (wpAny_loadPart ho (am (W.Looks.here (s:={ s with toks:=s.toks+1 }) (W.looks_clsIn I.aR hc) ?_))))));rw[hd'];have hlt:=sw ho;have hxs:a≠s.heap.objs.size:=nl hlt;have ho1:(s.heap.push { cls:=.type "dict",data:=.dict #[] }).get? a=some { cls:=.ref C,dict:=none,data:=.fields vs }:=ss _ ho;refine am (wpAny_alloc' ?_);refine am (wpAny_update' ho1 ?_);refine ap ?_;have hgd:((s.heap.push { cls:=.type "dict",data:=.dict #[] }).update a λo=>{ o with dict:=some s.heap.objs.size }).get? s.heap.objs.size=some { cls:=.type "dict",data:=.dict #[] }:=
  (Heap.get?_update_ne _ _ _ _ hxs.symm).trans (Heap.get?_push_at rfl rfl)
 have hga:((s.heap.push { cls:=.type "dict",data:=.dict #[] }).update a λo=>{ o with dict:=some s.heap.objs.size }).get? a=some { cls:=.ref C,dict:=some s.heap.objs.size,data:=.fields vs }:=
  Heap.get?_update_self _ ho1 rfl
 have hnd:((s.heap.push { cls:=.type "dict",data:=.dict #[] }).update a λo=>{ o with dict:=some s.heap.objs.size }).Ns s.heap.objs.size (λ_=>none):=
  ⟨_,#[],_,hgd,rfl,λe he=>absurd he (by simp),λ_=>rfl⟩
 show wpAny _ _ (storeInDict s.heap.objs.size (.str f _) f u) _ _ _;unfold storeInDict newKeyGuard;refine am (ap (am (wpAny_nsSet1 (Heap.Ns1.of_empty hnd) λh' hn2 hs2=>?_)));obtain⟨oD,esD,epD,hoD,hdD,hcD⟩:=hn2.count (PySem.Within.cons f u PySem.Within.nil);refine am (wpAny_lookBehind hoD (by rw[hdD];exact pastItsLine_dict (Nat.le_trans hcD (by rw[length_cons,length_nil,sizeLine_eq];omega))) ?_);have hd0:H s.heap.objs.size=none:=I.hok.fresh (pc _);refine ap (h s.heap.objs.size _ hd0 ?_);have e':upd H s.heap.objs.size (.own a) a=some (.exc C none [] fr):=by rw[ae hxs];exact e
 have I1:Inv X Y U (upd H s.heap.objs.size (.own a)) { s with heap:=s.heap.push { cls:=.type "dict",data:=.dict #[] },toks:=s.toks+1 }:=
  I.laid (a:=s.heap.objs.size) (o:=.own a) (t':=s.toks+1) (λb u q=>ss _ q) (pc _) ⟨_,sK s.heap rfl⟩
 have I2:=I1.write (x:=a) (e:=a) (o:=.exc C (some s.heap.objs.size) [] fr) (t':=s.toks+1) (h':=(s.heap.push { cls:=.type "dict",data:=.dict #[] }).update a λo=>{ o with dict:=some s.heap.objs.size })
  (by rw[e'];exact True.intro) (.inl rfl) (λb q hb z=>(Heap.get?_update_ne _ _ _ _ hb).trans z) ⟨_,hga⟩
  ⟨⟨vs,hga,zz⟩,.inr ⟨_,rfl,by rw[ae hxs.symm,ah],Nat.zero_le _,hxs.symm,_,Heap.Ns1.of_empty hnd,λ_=>True.intro,λy hy=>absurd rfl hy⟩⟩
 have ga':h'.get? a=some { cls:=.ref C,dict:=some s.heap.objs.size,data:=.fields vs }:=(hs2.2 a hxs).trans hga;have I3:=I2.write (x:=a) (e:=s.heap.objs.size) (o:=.exc C (some s.heap.objs.size) [(f,y)] fr) (t':=s.toks+1+1) (h':=h') (by rw[ah];exact True.intro) (.inr (by rw[ae hxs.symm,ah]))
  (λb q hb z=>(hs2.2 b hb).trans z) ⟨oD,hoD⟩
  ⟨⟨vs,ga',zz⟩,.inr ⟨_,rfl,by rw[ae hxs.symm,ae hxs.symm,ah],by show 1<=1000;decide,hxs.symm,_,hn2,λg=>?_,λg hg=>?_⟩⟩
 .rw[sV]at I3;exact I3
 .show bG (List.lookup g [(f,y)]) (if g=f then some u else none)
  by_cases q:g=f
  .have hb:(g ==f)=true:=beq_iff_eq.mpr q;simp only[List.lookup,hb,if_pos q];exact ry
  .have hb:(g ==f)=false:=beq_eq_false_iff_ne.mpr q;simp only[List.lookup,hb,if_neg q];exact True.intro
 .by_cases q:g=f
  .rw[q];simp
  .exact absurd (show(if g=f then some u else none)=none by rw[if_neg q]) hg
end
section
variable {X:Cx}{Y:CP}{U:St}{H:Hp}{s:Shared}{a C:Addr}{dx:Option Addr}{fs:List (Str×V)}{f:Str}{v:V}{A:Around}{E:CO}{fr:Bool}
def Inv.fields {vs':Array Value}{h':Heap}{t':Nat}(I:Inv X Y U H s)(e:H a=some (.exc C dx fs fr))(hs:vs'.size=6)(h1:fr=true->vs'[1]? =some Value.none)
  (ha:h'.get? a=some { cls:=.ref C,dict:=dx,data:=.fields vs' }) (k:∀ b u,b≠a->s.heap.get? b=some u->h'.get? b=some u):Inv X Y U H { s with heap:=h',toks:=t' }:=by
 have I2:=I.write (x:=a) (e:=a) (o:=.exc C dx fs fr) (t':=t') (h':=h') (by rw[e];exact True.intro) (.inl rfl) k ⟨_,ha⟩ ?_
 .have:upd H a (.exc C dx fs fr)=H:=by
   funext b
   by_cases hb:b=a
   .rw[hb,ah,e]
   .rw[ae hb]
  rw[this]at I2;exact I2
 .obtain⟨_,z⟩:=id (I.hok a _ e);refine⟨⟨vs',ha,hs,h1⟩,?_⟩;rcases z with z|⟨d,ed,d1,z1,ne,mA,⟨od,es,ep,e2,c⟩,r⟩
  .exact .inl z
  .exact .inr ⟨d,ed,by rw[ae ne];exact d1,z1,ne,mA,⟨od,es,ep,k _ _ ne e2,c⟩,r⟩
def fS {R:Result->Shared->Prop}(I:Inv X Y U H s)(e:H a=some (.exc C dx fs fr))(c:a9 X.K C)
  (h:∀ s',Inv X Y U H s'->R (.ok (.ret .none)) s'):codeAny (model X.prog X.w) A (.call (.builtin "ValueError.__init__") ⟨[.ref a,u],[]⟩) R s:=by
 have F:=PySem.F.excCall_ValueError;obtain⟨⟨vs,ho,hsz,h1⟩,z⟩:=id (I.hok a _ e);have L4:Looks (model X.prog X.w) s.heap (isInstance (.ref a) (.type "ValueError")) true:=(show Looks (model X.prog X.w) s.heap (typeOf (.ref a)) (.ref C) from(Looks.ld ho).andThen .now).andThen (looks_mroIn I.aR (c.sub (by decide+kernel)));refine codeAny_call_builtin F.init.plain F.initEntry ?_;simp only[checkBuiltinCall,F.initKind,F.initSplit,F.initRow];refine am (L4.here ?_);simp only[Bool.not_true,Bool.false_eq_true,if_false];have hshort:("ValueError" != "*")=true:=by decide
 have h0:∃ a0,vs[0]? =some a0:=⟨_,Array.getElem?_eq_getElem nofun⟩;obtain⟨a0,h0⟩:=h0;obtain⟨hp,g,d,t,os⟩:=s;unfold Bind.checkArgs;have hn:Looks (model X.prog X.w) hp (typeOf (.ref a)) (.ref C):=(Looks.ld ho).andThen .now;obtain⟨cd,rs,hcl,_⟩:=c.mro;obtain⟨oc,od,sl,hC⟩:∃ oc od sl,hp.get? C=some ⟨oc,od,.cls cd,sl⟩:=by
  unfold W.clsIn at hcl
  split at hcl
  .rename_i ho';cases hcl;exact⟨_,_,_,I.aR _ _ ho'⟩
  .cases hcl
 repeat(first|with_reducible refine wpAny_load hC ?_|wp_step)
 rw[h0];have ho1:(hp.push { cls:=.type "tuple",data:=.seq #[u] }).get? a=some { cls:=.ref C,dict:=dx,data:=.fields vs }:=ss _ ho;have hq:=Heap.get?_update_self (Obj.mapFields (·.setIfInBounds 0 (.ref hp.objs.size))) ho1 (Obj.isFreed_of_fields (Obj.data_mapFields rfl _));have fin:R (.ok (.ret Value.none)) ⟨(hp.push { cls:=.type "tuple",data:=.seq #[u] }).update a (Obj.mapFields (·.setIfInBounds 0 (.ref hp.objs.size))),g,d,t,os⟩:=by
  refine h _ (I.fields (vs':=vs.setIfInBounds 0 (.ref hp.objs.size)) (t':=t) e (by simpa using hsz) (λz=>?_) hq λb q hb z'=>?_)
  .rw[Array.getElem?_setIfInBounds_ne (by decide)];exact h1 z
  .exact(Heap.get?_update_ne _ _ _ _ hb).trans (ss _ z')
 refine ap (am (wpAny_setField ho1 rfl nofun ?_));cases a0<;>first|exact ap (ap fin)|exact wpAny_letGo (ap fin)
def lT (I:Inv X Y U H s)(e:H a=some (.exc C dx fs fr))(c:a9 X.K C)
  (h:∀ s',Inv X Y U H s'->Q .none s'):wpAny (model X.prog X.w) A (call (.builtin "ValueError.__init__") [.ref a,u]) Q E s:=wpAny_call (fS I e c h)
end
abbrev aV (K:W.Frag)(C:Addr):Bool:=match K.lookup C with
 |some ⟨_,_,.cls cd,sl⟩=>!cd.abstract&& !cd.hasDel&&(sl.toList[4]?).join ==some (.builtin "ValueError.__new__")&&bM cd.mro&&cd.mro.contains (.ref C)&&
   W.specialIn K (.ref C) "__call__" ==some (some (.builtin "type.__call__"))&&W.instIn K (.ref C) (.type "type") ==some true
 |_=>false
structure pT (M:Model) (h:Heap) (C:Addr):Prop where
 obj:∃ oc od cd sl,h.get? C=some ⟨oc,od,.cls cd,sl⟩/\cd.abstract=false/\cd.hasDel=false/\cd.mro.isEmpty=false
 made:W.Looks M h (Bind.madeBy (.ref C)) (some "ValueError.__new__")
 base:W.Looks M h (Bind.staticBase (.ref C)) (.ref C)
 self:W.Looks M h (isSubtype (.ref C) (.ref C)) true
 top:W.Looks M h (isSubtype (.ref C) (.type "ValueError")) true
 no1:W.Looks M h (isSubtype (.ref C) (.type "AttributeError")) false
 no2:W.Looks M h (isSubtype (.ref C) (.type "NameError")) false
 call:W.Looks M h (specialOf (.ref C) "__call__") (some (.builtin "type.__call__"))
 typ:W.Looks M h (isInstance (.ref C) (.type "type")) true
def mW {n:String}(h:aS.contains (.type n)=false):(rs.map Value.ref++aS).contains (.type n)=false:=by
 induction rs with
 |nil=>exact h
 |cons a r ih=>rw[map_cons,List.cons_append,List.contains_cons,ih];rfl
def iA {K:W.Frag}{M:Model}{h:Heap}(X:K.In h){C:Addr}(e:aV K C=true):pT M h C:=by
 unfold aV at e
 split at e
 .rename_i oc od cd sl ho;simp only[li,Bool.not_eq_true',beq_iff_eq]at e;obtain⟨⟨⟨⟨⟨⟨e1,e2⟩,e3⟩,e4⟩,e5⟩,e7⟩,e8⟩:=e;obtain⟨rs,em⟩:=bV e4;have hc:W.clsIn K C=some cd:=by unfold W.clsIn;rw[ho]
  have hm:Looks M h (mroOf (.ref C)) cd.mro:=(looks_clsIn X hc).andThen .now;have ne:cd.mro.isEmpty=false:=by rw[em];exact my
  obtain⟨c,l,hl⟩:∃ c l,cd.mro=c::l:=by
   cases q:cd.mro with
   |nil=>rw[q]at ne;cases ne
   |cons c l=>exact⟨c,l,rfl⟩
  have made:Looks M h (Bind.madeBy (.ref C)) (some "ValueError.__new__"):=by
   intro A Q E s k q;unfold Bind.madeBy;refine am (hm A _ E s k ?_);rw[hl,forIn_cons];refine am (am (am (am (wpAny_loadPart (k _ _ (X _ _ ho)) (ap ?_)))));dsimp only;rw[<-Array.getElem?_toList,e3];exact ap (ap (ap q))
  have mro:∀ {v b},cd.mro.contains v=b->W.mroIn K C v=some b:=λ{v b} q=>by
   unfold W.mroIn;rw[hc,Option.bind_some,if_neg (by rw[ne];decide),q]
  refine⟨⟨oc,od,cd,sl,X _ _ ho,e1,e2,ne⟩,made,?_,looks_mroIn X (mro e5),looks_mroIn X (mro (by rw[em];exact jF (by decide+kernel))),looks_mroIn X (mro (by rw[em];exact mW (by decide+kernel))),looks_mroIn X (mro (by rw[em];exact mW (by decide+kernel))),looks_specialIn X e7,looks_instIn X e8⟩;intro A Q E s k q;unfold Bind.staticBase;refine am (hm A _ E s k ?_);rw[hl,forIn_cons];exact am (am (am (made A _ E s k (ap (ap (ap q))))))
 .cases e
variable {rest:List Value}
section
variable {prog:Program}{w:World}{A:Around}{K:W.Frag}{C:Addr}{R:Result->Shared->Prop}{h:Heap}{g:Array GenState}{d:Drawn}{t:Nat}{os:OsState}
def vB (Y:pT (model prog w) h C)(hz:rest.length<=bn)
  (hq:R (.ok (.ret (.ref (h.objs.size+1)))) ⟨(h.push { cls:=.type "tuple",data:=.seq rest.toArray }).push { cls:=.ref C,data:=.fields #[.ref h.objs.size,.none,.none,.none,.bool false,.none] },g,d,t,os⟩):
  codeAny (model prog w) A (.call (.builtin "ValueError.__new__") ⟨.ref C::rest,[]⟩) R ⟨h,g,d,t,os⟩:=by
 obtain⟨⟨oc,od,cd,sl,hC,e1,e2,e4⟩,made,base,self,top,no1,no2,call,typ⟩:=Y;have F:=PySem.F.excBase_ValueError;have here:Looks (model prog w) h (Bind.madeHere "BaseException.__new__" (.ref C)) ():=base.andThen (made.andThen (Looks.of_pure (by simp only[Option.map_some,F.canon,bne_self_eq_false,Bool.false_eq_true,if_false])));refine codeAny_call_builtin_code (Code.quiet_builtin _ F.quiet) ?_;simp only[checkBuiltinCall,F.newKind,F.newSplit,F.newRow]
 repeat(first|simp only[bne_self_eq_false,Bool.false_eq_true,if_false]|lk)
 refine codeAny_builtinAt F.entry ?_;unfold Builtin.«BaseException.__new__»;refine PySem.wpAt_bind ?_;show PySem.wpAt _ _ _ (stack >>= _) _ _ _;refine PySem.wpAt_bind (PySem.wpAt_stack λp below=>PySem.wpAt_of_wpAny ?_);have hends:=F.ends
 wp_walk
 refine PySem.wpAt_of_wpAny ?_;rw[F.owner]
 repeat(first|simp only[Bool.not_true,Bool.false_eq_true,if_false]|lk)
 rw[if_neg (show ¬ (rest.toArray.size>bn) by rw[ge];omega)];unfold newObjAsIs;refine am (wpAny_alloc (ap (am ?_)));show wpAny _ _ (newObjAsIs _ _ _) _ _ _;unfold newObjAsIs classHasDel;refine am (wpAny_alloc (am (am (wpAny_load (ss _ (ss _ hC)) (ap ?_)))));rw[e2];refine ap (ap ?_);show R _ _;rw[Heap.size_push];exact hq
def wk {fI:Addr}(X:K.In h)(hz:rest.length<=bn)(hm:aV K C=true)(hi:W.findIn K (.ref C) "__init__"=some (some (.ref fI))) (hf:W.typeIn K (.ref fI)=some (.type "function"))
  (hq:codeAny (model prog w) (A.under (.builtin "type.__call__" ⟨.ref C::rest,[]⟩)) (.call (.ref fI) ⟨.ref (h.objs.size+1)::rest,[]⟩) (InitBack (h.objs.size+1) R)
   ⟨(h.push { cls:=.type "tuple",data:=.seq rest.toArray }).push { cls:=.ref C,data:=.fields #[.ref h.objs.size,.none,.none,.none,.bool false,.none] },g,d,t,os⟩):
  codeAny (model prog w) A (.call (.ref C) ⟨rest,[]⟩) R ⟨h,g,d,t,os⟩:=by
 have Y:=iA (M:=model prog w) X hm;have Y':=Y;obtain⟨⟨oc,od,cd,sl,hC,e1,e2,e4⟩,made,base,self,top,no1,no2,call,typ⟩:=Y;refine codeAny_of_tree ?_;show wpAny _ _ (callAny (.ref C) _) _ _ _;refine nd_load hC ?_;show wpAny _ _ (callAny.viaDunder (.ref C) _) _ _ _;unfold callAny.viaDunder;refine am (call.at ?_);dsimp only;rw[tc_bind];refine am (ap (am (ap ?_)));refine ap (a:=Fin.again (.call (.builtin "type.__call__") ⟨.ref C::rest,[]⟩)) (And.intro rfl ?_);refine codeAny_call_builtin_at (Code.quiet_builtin _ (by decide+kernel)) entry_typeCall (check_slot tc_kind tc_split typ (tc_args _ _ _) ?_);unfold Builtin.«type.__call__»;have hmr:Looks (model prog w) h (mroOf (.ref C)) cd.mro:=((Looks.ld (part:=none) hC).andThen .now).andThen .now
 repeat(first|simp only[e4,Bool.false_eq_true,if_false]|with_reducible refine wpAny_call ?_|lk)
 refine vB Y' hz ?_;have k:∀ b o,h.get? b=some o->((h.push { cls:=.type "tuple",data:=.seq rest.toArray }).push { cls:=.ref C,data:=.fields #[.ref h.objs.size,.none,.none,.none,.bool false,.none] }).get? b=some o:=λb o e=>ss _ (ss _ e)
 have hx:((h.push { cls:=.type "tuple",data:=.seq rest.toArray }).push { cls:=.ref C,data:=.fields #[.ref h.objs.size,.none,.none,.none,.bool false,.none] }).get? (h.objs.size+1)=some { cls:=.ref C,data:=.fields #[.ref h.objs.size,.none,.none,.none,.bool false,.none] }:=by heap_get
 have t1:Looks (model prog w) ((h.push { cls:=.type "tuple",data:=.seq rest.toArray }).push { cls:=.ref C,data:=.fields #[.ref h.objs.size,.none,.none,.none,.bool false,.none] }) (typeOf (.ref (h.objs.size+1))) (.ref C):=(Looks.ld hx).andThen .now;have s1:=self.keeps k;have i1:=(looks_findIn (M:=model prog w) X hi).keeps k;have b1:=(bind_fn (M:=model prog w) X (.ref (h.objs.size+1)) hf).keeps k;unfold isInstance callSpecial? specialOf
 repeat(first|with_reducible refine wpAny_call ?_|lk)
 refine codeAny_mono hq λr s' z=>?_
 rcases r with e|(v|_|_|_)<;>first|exact z|exact z.elim|skip
 obtain⟨rfl,z⟩:=z;exact ap (ap z)
def tR (X:K.In h)(hz:rest.length<=bn)(hm:aV K C=true)(hi:W.findIn K (.ref C) "__init__"=some (some (.builtin "ValueError.__init__")))
  (hq:codeAny (model prog w) (A.under (.builtin "type.__call__" ⟨.ref C::rest,[]⟩)) (.call (.builtin "ValueError.__init__") ⟨.ref (h.objs.size+1)::rest,[]⟩) (InitBack (h.objs.size+1) R)
   ⟨(h.push { cls:=.type "tuple",data:=.seq rest.toArray }).push { cls:=.ref C,data:=.fields #[.ref h.objs.size,.none,.none,.none,.bool false,.none] },g,d,t,os⟩):
  codeAny (model prog w) A (.call (.ref C) ⟨rest,[]⟩) R ⟨h,g,d,t,os⟩:=by
 have Y:=iA (M:=model prog w) X hm;have Y':=Y;obtain⟨⟨oc,od,cd,sl,hC,e1,e2,e4⟩,made,base,self,top,no1,no2,call,typ⟩:=Y;refine codeAny_of_tree ?_;show wpAny _ _ (callAny (.ref C) _) _ _ _;refine nd_load hC ?_;show wpAny _ _ (callAny.viaDunder (.ref C) _) _ _ _;unfold callAny.viaDunder;refine am (call.at ?_);dsimp only;rw[tc_bind];refine am (ap (am (ap ?_)));refine ap (a:=Fin.again (.call (.builtin "type.__call__") ⟨.ref C::rest,[]⟩)) (And.intro rfl ?_);refine codeAny_call_builtin_at (Code.quiet_builtin _ (by decide+kernel)) entry_typeCall (check_slot tc_kind tc_split typ (tc_args _ _ _) ?_);unfold Builtin.«type.__call__»;have hmr:Looks (model prog w) h (mroOf (.ref C)) cd.mro:=((Looks.ld (part:=none) hC).andThen .now).andThen .now
 repeat(first|simp only[e4,Bool.false_eq_true,if_false]|with_reducible refine wpAny_call ?_|lk)
 refine vB Y' hz ?_;have k:∀ b o,h.get? b=some o->((h.push { cls:=.type "tuple",data:=.seq rest.toArray }).push { cls:=.ref C,data:=.fields #[.ref h.objs.size,.none,.none,.none,.bool false,.none] }).get? b=some o:=λb o e=>ss _ (ss _ e)
 have hx:((h.push { cls:=.type "tuple",data:=.seq rest.toArray }).push { cls:=.ref C,data:=.fields #[.ref h.objs.size,.none,.none,.none,.bool false,.none] }).get? (h.objs.size+1)=some { cls:=.ref C,data:=.fields #[.ref h.objs.size,.none,.none,.none,.bool false,.none] }:=by heap_get
 have t1:Looks (model prog w) ((h.push { cls:=.type "tuple",data:=.seq rest.toArray }).push { cls:=.ref C,data:=.fields #[.ref h.objs.size,.none,.none,.none,.bool false,.none] }) (typeOf (.ref (h.objs.size+1))) (.ref C):=(Looks.ld hx).andThen .now;have s1:=self.keeps k;have i1:=(looks_findIn (M:=model prog w) X hi).keeps k;have b1:Looks (model prog w) ((h.push { cls:=.type "tuple",data:=.seq rest.toArray }).push { cls:=.ref C,data:=.fields #[.ref h.objs.size,.none,.none,.none,.bool false,.none] }) (bindSpecial (.builtin "ValueError.__init__") (.ref (h.objs.size+1))) (.builtin "ValueError.__init__",[.ref (h.objs.size+1)]):=Looks.of_pure (PySem.F.excCall_ValueError.init.bind _);unfold isInstance callSpecial? specialOf
 repeat(first|with_reducible refine wpAny_call ?_|lk)
 refine codeAny_mono hq λr s' z=>?_
 rcases r with e|(v|_|_|_)<;>first|exact z|exact z.elim|skip
 obtain⟨rfl,z⟩:=z;exact ap (ap z)
end
end L2
namespace L2
open PySem PySem.Spec PySem.W PyProof.Rows
abbrev aJ (e:Addr)(h h':Heap):Prop:=∀ oe vs,h.get? e=some oe->oe.data=.fields vs->∃ vs',h'.get? e=some { oe with data:=.fields vs' }/\vs'.size=vs.size
abbrev vL (as:List Addr)(h h':Heap):Prop:=∀ b o,b ∉ as->h.get? b=some o->h'.get? b=some o
abbrev nW (h:Heap)(e T:Addr)(fl:Value):Prop:=∃ oe vs oT ts,h.get? e=some oe/\oe.data=.fields vs/\vs[1]? =some (.ref T)/\T≠e/\h.get? T=some oT/\oT.data=.fields ts/\ts[3]? =some fl
def aJ.trans {e:Addr}{h h1 h2:Heap}(a:aJ e h h1)(b:aJ e h1 h2):aJ e h h2:=λoe vs x y=>by
 obtain⟨vs1,x1,z1⟩:=a oe vs x y;obtain⟨vs2,x2,z2⟩:=b _ vs1 x1 rfl;exact⟨vs2,x2,z2.trans z1⟩
def aJ.same {e:Addr}{h h':Heap}(k:h'.get? e=h.get? e):aJ e h h':=λoe vs x y=>⟨vs,by rw[k,x,<-y],rfl⟩
variable {Q:CN}
section
variable {M:Model}{A:Around}{E:CO}{s:Shared}{base:Heap}{env:Env}{outer:List Env}{L e:Addr}
def iw {oe:Obj}{vs:Array Value}{head:Value}{hadNext:Bool}(hfr:A.frames=some (env::outer))(hl:s.heap.FunFrames base (env::outer))(hf:env.frame=some L)
  (he:s.heap.get? e=some oe) (hd:oe.data=.fields vs) (hsz:1<vs.size)
  (q:∀ h' T,s.heap.objs.size<=T->nW h' e T (rawInt L)->aJ e s.heap h'->(∀ b o,b≠e->s.heap.get? b=some o->∃ sl,h'.get? b=some { o with slots:=sl })->vL (e::iH (env::outer)) s.heap h'->Q () { s with heap:=h' }):
  wpAny M A (do let a <-frameOf env;let pl <-entryPlaceOf L hadNext;let b <-EntryCells.newEntry head a .none (rawInt L) .none pl;setField (.ref e) 1 b) Q E s:=by
 have hne:e ∉ iH (env::outer):=λhm=>by
  obtain⟨_,o,ho,hnf⟩:=hl.mem hm;rw[he]at ho;cases ho;exact hnf vs hd
 refine am (wpAny_frameOf_fun hfr hl hf λh1 s1=>am (wpAny_entryPlaceOf λpl hpl=>?_));unfold EntryCells.newEntry newFields;refine am (wpAny_newObj_type ?_ (hpl.sizeOk5 _ _ _ _ _));have e1:h1.get? e=some oe:=(s1.2.1 e hne).trans he;have e2:=ss (h:=h1) { cls:=.type "traceback",dict:=none,data:=.fields ([head,.ref L,.none,rawInt L,.none]++(if pl.isEmpty then s0 6 Value.none else pl)).toArray } e1;have hTe:h1.objs.size≠e:=Nat.ne_of_gt (sw e1);have d3:=Obj.data_mapFields hd (·.setIfInBounds 1 (Value.ref h1.objs.size));have e3:=Heap.get?_update_self (Obj.mapFields (·.setIfInBounds 1 (Value.ref h1.objs.size))) e2 (Obj.isFreed_of_fields d3);have t3:=(Heap.get?_update_other (h1.push { cls:=.type "traceback",dict:=none,data:=.fields ([head,.ref L,.none,rawInt L,.none]++(if pl.isEmpty then s0 6 Value.none else pl)).toArray })
  (Obj.mapFields (·.setIfInBounds 1 (Value.ref h1.objs.size))) (Ne.symm hTe)).trans (sK h1 rfl)
 have keep:∀ b o,b≠e->h1.get? b=some o->((h1.push { cls:=.type "traceback",dict:=none,data:=.fields ([head,.ref L,.none,rawInt L,.none]++(if pl.isEmpty then s0 6 Value.none else pl)).toArray }).update e (Obj.mapFields (·.setIfInBounds 1 (Value.ref h1.objs.size)))).get? b=some o:=
  λb o hb hq=>(Heap.get?_update_other _ _ (Ne.symm hb)).trans (ss _ hq)
 refine wpAny_setField e2 hd hsz (q _ h1.objs.size ?_ ?_ ?_ (λb o hb ho=>?_) λb o hb ho=>?_)
 .rw[s1.1];exact pc _
 .refine⟨_,_,_,_,e3,d3,by simp[hsz],hTe,t3,rfl,?_⟩
  first|(simp;done)|(rcases hpl with rfl|⟨_,_,_,_,_,_,_,rfl⟩<;>simp)
 .intro oe' vs' x y;rw[he]at x;cases x;rw[hd]at y;cases y;refine⟨vs.setIfInBounds 1 (.ref h1.objs.size),?_,by simp⟩;rw[e3];obtain⟨c0,d0,dt,sl0⟩:=oe;cases hd
  rfl
 .obtain⟨sl,z⟩:=s1.2.2 b o ho;exact⟨sl,keep b _ hb z⟩
 .exact keep b o (λz=>hb (by rw[z];exact le)) ((s1.2.1 b λz=>hb (dl _ z)).trans ho)
abbrev qL (n₀:Nat)(ps:CP)(H:Hp)(h:Heap)(e:Addr):Prop:=(∃ oe vs,h.get? e=some oe/\oe.data=.fields vs/\vs[1]? =some Value.none)\/∃ T,n₀<=T/\H T=none/\(∀ p ∈ ps,p.1≠T)/\∃ fl,nW h e T fl
def sv {n₀:Nat}{ps:CP}{H:Hp}(hfr:A.frames=some (env::outer))(hl:s.heap.FunFrames base (env::outer))(hf:env.frame=some L)(sf:(∃ oe vs,s.heap.get? e=some oe/\oe.data=.fields vs/\vs[1]? =some Value.none)\/∃ T,n₀<=T/\H T=none/\(∀ p ∈ ps,p.1≠T)/\∃ fl,(fl ==rawInt L)=false/\nW s.heap e T fl) (h0:n₀<=s.heap.objs.size) (hps:∀ p ∈ ps,p.1<s.heap.objs.size)
  (q:∀ h' T T0,s.heap.objs.size<=T->n₀<=T0->(H T0=none\/s.heap.objs.size<=T0)->(∀ p ∈ ps,p.1≠T0)->(∀ o,s.heap.get? T0=some o->∃ ts,o.data=.fields ts)->nW h' e T (rawInt L)->aJ e s.heap h'->h'.FunFrames base (env::outer)->(∀ b o,b≠e->b≠T0->s.heap.get? b=some o->∃ sl,h'.get? b=some { o with slots:=sl })->vL (e::T0::iH (env::outer)) s.heap h'->(∀ b o,s.heap.get? b=some o->∃ o',h'.get? b=some o')->Q () { s with heap:=h' }):
  wpAny M A (noteFrame (.ref e) env) Q E s:=by
 have fun_of:∀ {h':Heap}{as:List Addr},(∀ b ∈ as,∀ o,s.heap.get? b=some o->∃ vs,o.data=.fields vs)->(∀ b o,b ∉ as->s.heap.get? b=some o->∃ sl,h'.get? b=some { o with slots:=sl })->h'.FunFrames base (env::outer):=
  λ{h' as} ha k=>hl.of_keeps λb o ho hnf=>by
   by_cases hb:b ∈ as
   .obtain⟨vs,z⟩:=ha b hb o ho;exact absurd z (hnf vs)
   .obtain⟨sl,z⟩:=k b o hb ho;exact⟨_,z,rfl⟩
 unfold noteFrame;simp only[hf];rcases sf with⟨oe,vs,he,hd,h1⟩|⟨T0,hT0,hH0,hp0,fl,hfl,oe,vs,oT,ts,he,hd,h1,hTe,hT,hdT,h3⟩
 .skip
  refine am (bd he hd h1 ?_);rw[if_neg (by decide)];refine iw hfr hl hf he hd (Array.getElem?_eq_some_iff.mp h1).1 λh' T hT st fo sl sy=>?_
  refine q h' T s.heap.objs.size hT h0 (.inr (pc _)) (λp hp=>nl (hps p hp)) (λo z=>absurd (sw z) (Nat.lt_irrefl _)) st fo ?_ (λb o hb _ ho=>sl b o hb ho) (λb o hb ho=>sy b o (λz=>hb ?_) ho) λb o ho=>?_
  .refine fun_of (as:=[e]) (λb hb o ho=>?_) λb o hb ho=>sl b o (by simpa using hb) ho
   obtain rfl:b=e:=by simpa using hb
   rw[he]at ho;cases ho;exact⟨vs,hd⟩
  .rcases lf.mp z with z|z
   .exact lf.mpr (.inl z)
   .exact dl _ (dl _ z)
  .by_cases hb:b=e
   .subst hb;rw[he]at ho;cases ho;obtain⟨vs',z,_⟩:=fo _ _ he hd;exact⟨_,z⟩
   .obtain⟨sl',z⟩:=sl b o hb ho;exact⟨_,z⟩
 .refine am (bd he hd h1 ?_);rw[if_pos (show(Value.ref T0 != Value.none)=true from by simp)];refine am (bd hT hdT h3 ?_);rw[if_neg (by rw[hfl];exact Bool.false_ne_true)];refine am (wpAny_setField hT hdT (Array.getElem?_eq_some_iff.mp h3).1 ?_);have other:∀ b,b≠T0->(s.heap.update T0 (Obj.mapFields (·.setIfInBounds 3 Value.none))).get? b=s.heap.get? b:=λb hb=>Heap.get?_update_other _ _ (Ne.symm hb)
  have self':=Heap.get?_update_self (Obj.mapFields (·.setIfInBounds 3 Value.none)) hT (Obj.isFreed_of_fields (Obj.data_mapFields hdT _));have rec':∀ b o,s.heap.get? b=some o->(∀ vs,o.data≠.fields vs)->b≠T0:=λb o hb hnf z=>by
   rw[z,hT]at hb;cases hb;exact hnf ts hdT
  refine iw (base:=base) hfr (hl.of_keeps λb o hb hnf=>⟨o,(other b (rec' b o hb hnf)).trans hb,rfl⟩) hf ((other e (Ne.symm hTe)).trans he) hd (Array.getElem?_eq_some_iff.mp h1).1 λh' T hTn st fo sl sy=>?_
  have hTn':s.heap.objs.size<=T:=by
   have z:(s.heap.update T0 (Obj.mapFields (·.setIfInBounds 3 Value.none))).objs.size<=T:=hTn
   rwa [Heap.size_after_update]at z
  refine q h' T T0 hTn' hT0 (.inl hH0) hp0 (λo z=>by rw[hT]at z;cases z;exact⟨ts,hdT⟩) st (aJ.trans (aJ.same (other e (Ne.symm hTe))) fo) ?_ (λb o hb hb0 ho=>sl b o hb ((other b hb0).trans ho)) (λb o hb ho=>?_) λb o ho=>?_
  .refine fun_of (as:=[e,T0]) (λb hb o ho=>?_) λb o hb ho=>sl b o (λz=>hb (by simp[z])) ((other b λz=>hb (by simp[z])).trans ho)
   rcases lf.mp hb with hb|hb
   .subst hb;rw[he]at ho;cases ho;exact⟨vs,hd⟩
   .obtain rfl:b=T0:=by simpa using hb
    rw[hT]at ho;cases ho;exact⟨ts,hdT⟩
  .have n1:b≠e:=λz=>hb (by simp[z])
   have n2:b≠T0:=λz=>hb (by simp[z])
   refine sy b o (λz=>hb ?_) ((other b n2).trans ho);rcases lf.mp z with z|z
   .exact lf.mpr (.inl z)
   .exact dl _ (dl _ z)
  .by_cases hb:b=e
   .subst hb;obtain⟨vs',z,_⟩:=fo _ _ ((other b (Ne.symm hTe)).trans he) hd;exact⟨_,z⟩
   .by_cases hb0:b=T0
    .subst hb0;obtain⟨sl',z⟩:=sl b _ hb self';exact⟨_,z⟩
    .obtain⟨sl',z⟩:=sl b o hb ((other b hb0).trans ho);exact⟨_,z⟩
def mD {T:Addr}{fl:Value}(st:nW s.heap e T fl)
  (q:∀ h',nW h' e T .none->(∀ b,b≠T->h'.get? b=s.heap.get? b)->(∃ o,s.heap.get? T=some o)->(∃ o,h'.get? T=some o)->(∃ oT ts,h'.get? T=some oT/\oT.data=.fields ts)->Q () { s with heap:=h' }):wpAny M A (setFlight (.ref e) none) Q E s:=by
 obtain⟨oe,vs,oT,ts,he,hd,h1,hTe,hT,hdT,h3⟩:=st;have hz:3<ts.size:=(Array.getElem?_eq_some_iff.mp h3).1;have other:∀ b,b≠T->(s.heap.update T (Obj.mapFields (·.setIfInBounds 3 ((none:Option Addr).elim Value.none λf=>rawInt f)))).get? b=s.heap.get? b:=λb hb=>Heap.get?_update_other _ _ (Ne.symm hb)
 have self':=Heap.get?_update_self (Obj.mapFields (·.setIfInBounds 3 ((none:Option Addr).elim Value.none λf=>rawInt f))) hT (Obj.isFreed_of_fields (Obj.data_mapFields hdT _));unfold setFlight;refine am (bd he hd h1 ?_);rw[if_pos (show(Value.ref T != Value.none)=true from by simp)];refine wpAny_setField hT hdT hz (q _ ⟨oe,vs,_,_,(other e (Ne.symm hTe)).trans he,hd,h1,hTe,self',Obj.data_mapFields hdT _,by simp[hz]⟩ other ⟨_,hT⟩ ⟨_,self'⟩ ⟨_,_,self',Obj.data_mapFields hdT _⟩)
end
variable {A:Around}
section
variable {X:Cx}{U:St}{H:Hp}{s:Shared}{e C:Addr}{dx:Option Addr}{fs:List (Str×V)}{h':Heap}
def Inv.kU {Y:CP}(I:Inv X Y U H s):Inv X [] U H s:=I.jk λ_ z=>absurd z (by simp)
def Inv.Ap {T0:Addr}{as:List Addr}(I:Inv X [] U H s)(hpn:∀ p ∈ X.pn,p.1≠T0) (he:H e=some (.exc C dx fs false)) (has:as=iH X.stack)
  (hT:X.s₀.heap.objs.size<=T0) (hT0:H T0=none\/s.heap.objs.size<=T0) (hTd:∀ o,s.heap.get? T0=some o->∃ ts,o.data=.fields ts)
  (fo:aJ e s.heap h') (sl:∀ b o,b≠e->b≠T0->s.heap.get? b=some o->∃ sl,h'.get? b=some { o with slots:=sl }) (sy:vL (e::T0::as) s.heap h') (th:∀ b o,s.heap.get? b=some o->∃ o',h'.get? b=some o'):
  Inv X [] U H { s with heap:=h' }:=by
 subst has;obtain⟨⟨vs,ho,hsz,_⟩,z⟩:=id (I.hok e _ he);have hH0:H T0=none:=by
  rcases hT0 with z|z
  .exact z
  .exact I.hok.fresh z
 have nT:∀ {b:Addr}{o:Obj},s.heap.get? b=some o->(∀ vs,o.data≠.fields vs)->b≠T0:=λ{b o} hb hn z=>by
  subst z;obtain⟨ts,q⟩:=hTd _ hb;exact hn ts q
 have cW:∀ b o,H b=none->b≠T0->b ∉ iH X.stack->s.heap.get? b=some o->h'.get? b=some o:=λb o hb h0 hf hq=>sy b o (λm=>by
  rcases lf.mp m with m|m
  .rw[m,he]at hb;cases hb
  .rcases lf.mp m with m|m
   .exact h0 m
   .exact hf m) hq
 have u9:∀ a u,H a=some u->a≠e->∀ o,s.heap.get? a=some o->h'.get? a=some o:=λa u ha ne o hq=>sy a o (λm=>by
  rcases lf.mp m with m|m
  .exact ne m
  .rcases lf.mp m with m|m
   .rw[m,hH0]at ha;cases ha
   .rw[I.iX a m]at ha;cases ha) hq
 refine I.step (g':=s.gens) (t':=s.toks) (d':=s.drawn) (ch:=[T0]) (h':=h') (λb hb=>?_) (λb o hL hfs hch hq hn=>?_) (λb o hL hfs hch hq hn=>?_) (λb o _ _ hn=>hn) (λb o _ hq=>th b o hq) (λ_ _ q=>q) (λ_ _ _ q=>q) (λb ps q=>⟨#[],by rw[q];simp⟩) (λm hm=>?_) (λa u ha=>?_) I.bare
 .obtain rfl:b=T0:=by simpa using hb
  refine⟨.inr hT,?_,λx c hc z=>?_,λp hp=>hpn p (by simpa using hp)⟩
  .obtain⟨m,⟨o,es,ep,ho',hd,_⟩,_⟩:=I.loc;intro z;exact nT ho' (λvs q=>by rw[hd]at q;cases q) z.symm
  .obtain⟨v,o,ho',hd⟩:=I.cell x c hc;exact nT ho' (λvs q=>by rw[hd]at q;cases q) z
 .refine cW b o hn (by simpa using hch) (λm=>?_) hq;rcases lf.mp (I.d5 b m) with z|z
  .exact hL z
  .exact hfs z
 .exact sl b o (λz=>by rw[z,he]at hn;cases hn) (by simpa using hch) hq
 .obtain⟨o,es,ep,ho',hd,r⟩:=hm;have n1:X.env.locals≠e:=λz=>by have:=I.free;rw[z,he]at this;cases this
  obtain⟨sl',q⟩:=sl _ o n1 (nT ho' λvs q=>by rw[hd]at q;cases q) ho';exact⟨_,es,ep,q,hd,r⟩
 .by_cases hae:a=e
  .subst hae;rw[he]at ha;cases ha;obtain⟨vs',q,hz⟩:=fo _ vs ho rfl;refine⟨⟨vs',q,hz.trans hsz,λy=>by cases y⟩,?_⟩;rcases z with z|⟨d,ed,d1,z1,ne,mA,⟨od,es,ep,e2,c⟩,r⟩
   .exact .inl z
   .exact .inr ⟨d,ed,d1,z1,ne,mA,⟨od,es,ep,u9 d _ d1 ne _ e2,c⟩,r⟩
  .refine(I.hok a u ha).cW (λb o hb hq=>?_) (λ_ q=>q) λ_ _ q=>q
   rcases hb with hb|hb
   .subst hb;exact u9 b u ha hae o hq
   .refine u9 b _ hb (λz=>?_) o hq;rw[z,he]at hb;cases hb
abbrev pN (P:Program)(w:World):mN:=λouter H s E u s'=>∃ (e:Addr) (H':Hp) (C:Addr) (dx:Option Addr) (fs:List (Str×V)) (T:Addr),u=.ref e/\s'.os=s.os/\AllBare s'.gens/\Un (iH outer) [] H H' s.heap s'.heap/\dc P w H' s'.heap/\
 H' e=some (.exc C dx fs false)/\s.heap.objs.size<=T/\H' T=none/\nW s'.heap e T .none/\E e H'
abbrev wu (X:Cx)(E:St->XK):Prop:=∀ (U:St) (H:Hp) (s:Shared) (e C:Addr) (dx:Option Addr) (fs:List (Str×V)),Inv X [] U H s->qL X.s₀.heap.objs.size X.pn H s.heap e->H e=some (.exc C dx fs false)->E U e H->X.xe (.ref e) s
def d6 {E:St->XK}(x:wu X E):Passes (pN X.prog X.w) X E:=by
 intro Y U H s u s' I h;obtain⟨e,H',C,dx,fs,T,rfl,os,bare,un,hok,he,hT,hT0,st,q⟩:=h;have J:Inv X [] U H' s':=Inv.mr (ch:=[]) I.kU os un hok bare (λb z=>absurd z (by simp));exact x U H' s' e C dx fs J (.inr ⟨T,Nat.le_trans I.sz hT,hT0,λp hp=>nl (mo (sw (I.pin p (mem_append_left _ hp)).1) hT),_,st⟩) he q
def je {x:Value}{e1 e2:Env}(h:e1.frame=e2.frame):noteFrame x e1=noteFrame x e2:=by
 unfold noteFrame PySem.frameOf;rw[h]
def Inv.pX {T:Addr}{oT:Obj}{ts:Array Value}(I:Inv X [] U H s)(hT:s.heap.get? T=some oT)(hd:oT.data=.fields ts):T≠X.env.locals/\∀ x c,X.env.cells.lookup x=some c->c≠T:=by
 refine⟨λz=>?_,λx c hc z=>?_⟩
 .obtain⟨m,⟨o,es,ep,ho',hd',_⟩,_⟩:=I.loc;rw[<-z,hT]at ho';cases ho';rw[hd]at hd';cases hd'
 .obtain⟨v,o,ho',hd'⟩:=I.cell x c hc;rw[z,hT]at ho';cases ho';rw[hd]at hd';cases hd'
def kB {M:Model}{E':CO}{env e0:Env}{o0:List Env}{L:Addr}(I:Inv X [] U H s)(hs:X.stack=e0::o0)(hf0:e0.frame=some L)(hf:env.frame=some L)(sf:qL X.s₀.heap.objs.size X.pn H s.heap e)(he:H e=some (.exc C dx fs false))
  (q:∀ h' T,Inv X [] U H { s with heap:=h' }->X.s₀.heap.objs.size<=T->H T=none->(∀ p ∈ X.pn,p.1≠T)->nW h' e T (rawInt L)->Q () { s with heap:=h' }):
  wpAny M X.A (noteFrame (.ref e) env) Q E' s:=by
 rw[je (e1:=env) (e2:=e0) (hf.trans hf0.symm)];have hl:s.heap.FunFrames X.base (e0::o0):=hs▸I.stack;have go:((∃ oe vs,s.heap.get? e=some oe/\oe.data=.fields vs/\vs[1]? =some Value.none)\/∃ T,X.s₀.heap.objs.size<=T/\H T=none/\(∀ p ∈ X.pn,p.1≠T)/\∃ fl,(fl ==rawInt L)=false/\nW s.heap e T fl)->wpAny M X.A (noteFrame (.ref e) e0) Q E' s:=λsf=>by
  refine sv (by rw[<-hs];exact I.ok.frames) hl hf0 sf I.sz (λp hp=>sw (I.pin p (mem_append_left _ hp)).1) λh1 T T0 hT hT0 hH0 hp0 hTd st fo fF sl sy th=>?_
  exact q h1 T (I.Ap (T0:=T0) (as:=iH (e0::o0)) (h':=h1) hp0 he (by rw[hs]) hT0 hH0 hTd fo sl sy th) (Nat.le_trans I.sz hT) (I.hok.fresh hT) (λp hp=>nl (mo (sw (I.pin p (mem_append_left _ hp)).1) hT)) st
 rcases sf with sf|⟨T,hT,hH,hp,fl,st⟩
 .exact go (.inl sf)
 .cases hfl:(fl ==rawInt L) with
  |false=>exact go (.inr ⟨T,hT,hH,hp,fl,hfl,st⟩)
  |true=>
   obtain rfl:fl=rawInt L:=eq_of_beq hfl;obtain⟨oe,vs,oT,ts,he',hd,h1,hTe,hoT,hdT,h3⟩:=id st;exact wpAny_noteFrame_inFlight hf0 he' hd h1 hoT hdT h3 (q s.heap T I hT hH hp st)
def gZ {M:Model}{E E':CO}{Q:Shared->Prop}(I:Inv X [] U H s)(hs:X.stack=X.env::X.outer)(hf:X.env.frame=some X.env.locals)(sf:qL X.s₀.heap.objs.size X.pn H s.heap e)(he:H e=some (.exc C dx fs false))
  (q:∀ s' T,Inv X [] U H s'->s'.os=s.os->X.s₀.heap.objs.size<=T->H T=none->(∀ p ∈ X.pn,p.1≠T)->nW s'.heap e T .none->Q s'):
  wpAny M X.A (noteFrame (.ref e) X.env) (λ_ s1=>wpAny M X.A (setFlight (.ref e) none) (λ_ s2=>Q s2) E s1) E' s:=by
 refine kB I hs hf hf sf he λh1 T I1 hT hHT hpT st=>?_
 obtain⟨_,_,oT,ts,_,_,_,_,hoT,hdT,_⟩:=id st;obtain⟨n1,n2⟩:=I1.pX hoT hdT;refine mD (s:={ s with heap:=h1 }) st λh2 kK oth _ th2 rec2=>?_
 exact q _ T (Inv.turned (s:={ s with heap:=h1 }) (it:=T) (h':=h2) (t':=s.toks) I1 (λb o hb hq=>(oth b hb).trans hq) hHT n1 (.inr hT) n2 λp hp=>hpT p (by simpa using hp)) rfl hT hHT hpT kK
def oA {P:Program}{w:World}{K:W.Frag}{mg:CQ}{base:Heap}{N:List Str}{qual:Str}{scope:Scope}{f:Addr}{cd:Value}{outer:List Env}{E:XK}:
  wu (nu (pN P w) P w K mg base N qual scope f cd A outer s H E) (λ_=>E):=by
 intro σ' H' s' e C dx fs I sf he q;show wpAny _ _ (do noteFrame (.ref e) _;setFlight (.ref e) none) _ _ s';refine am (gZ I rfl rfl sf he λs2 T J os hT hH _ st=>?_);exact⟨e,H',C,dx,fs,T,rfl,J.os,J.bare,J.base,J.hok,he,hT,hH,st,q⟩
end
structure AQ (K:W.Frag) (C f:Addr):Prop where
 mks:aV K C=true
 init:W.findIn K (.ref C) "__init__"=some (some (.ref f))
 fn:W.isFn K (.ref f)=true
 kp:W.keepIn K (.ref C)=true
variable {us:List Value}{vs:List V}
section
variable {X:Cx}{Y:CP}{U:St}{H:Hp}{s:Shared}{C f:Addr}
def Inv.vc (us:List Value)(I:Inv X Y U H s):Inv X Y U (upd H (s.heap.objs.size+1) (.exc C none [] true))
  { s with heap:=(s.heap.push { cls:=.type "tuple",data:=.seq us.toArray }).push { cls:=.ref C,data:=.fields #[.ref s.heap.objs.size,.none,.none,.none,.bool false,.none] } }:=by
 have I1:=I.kept (h':=s.heap.push { cls:=.type "tuple",data:=.seq us.toArray }) (t':=s.toks) λb u q=>ss _ q
 refine Inv.laid (s:={ s with heap:=s.heap.push { cls:=.type "tuple",data:=.seq us.toArray } }) (a:=s.heap.objs.size+1) (o:=.exc C none [] true) (t':=s.toks) I1 (λb u q=>ss _ q) (Nat.le_of_eq (Heap.size_push _ _)) ?_;refine⟨⟨#[.ref s.heap.objs.size,.none,.none,.none,.bool false,.none],?_,rfl,λ_=>rfl⟩,.inl ⟨rfl,rfl⟩⟩;have:=sK (s.heap.push { cls:=.type "tuple",data:=.seq us.toArray }) (o:={ cls:=.ref C,data:=.fields #[.ref s.heap.objs.size,.none,.none,.none,.bool false,.none] }) rfl
 rwa [Heap.size_push]at this
variable {CX:mN}{k:Nat}{fd:FuncData}{ps:List Str}{sp:Sp}{dvs:List V}{ds:List Value}{E:St->XK}{x m:Str}{p pos apos:Pos}{e o:Expr}{es:List Expr}{ta:TE}{t:TA}
abbrev pL (C:Addr)(sp:Sp)(dvs:List V)(E:St->XK)(t:TA):TE:=λU H Q=>t U H λvs H1=>vs.length<=1000/\∀ x,H1 x=none->sp (.ref x::(vs++dvs)) (upd H1 x (.exc C none [] true)) (λv H2=>v=.non/\Q (.ref x) H2) (E U)
def iu {Q:VK}(M:AQ X.K C f)(F:bF X.prog X.w X.K X.mg X.base CX k f fd ps sp)(hr:aP (k+1) X.A)(hb:Binds X.K fd ps ds)(hd:Vals dvs ds)
  (hx:Passes CX X E) (hz:us.length<=bn) (I:Inv X Y U H s) (r:Vals vs us)
  (h:∀ x,H x=none->sp (.ref x::(vs++dvs)) (upd H x (.exc C none [] true)) (λv H2=>v=.non/\Q (.ref x) H2) (E U)):
  wpAny (model X.prog X.w) X.A (call (.ref C) us) (EP X Y U Q) X.xe s:=by
 have hq:=h (s.heap.objs.size+1) (I.hok.fresh (Nat.le_succ _));have I2:=Inv.vc (C:=C) us I;have r2:Vals (V.ref (s.heap.objs.size+1)::(vs++dvs)) (Value.ref (s.heap.objs.size+1)::(us++ds)):=.cons rfl (r.append hd);have hl:(Value.ref (s.heap.objs.size+1)::us++ds).length=ps.length:=by
  have e:=r2.length;rw[F.len _ _ _ _ hq]at e;exact e.symm
 obtain⟨hh,g,d,tk,os⟩:=s;refine wpAny_call (wk (fI:=f) I.aR hz M.mks M.init (beq_iff_eq.mp M.fn) (codeAny_mono (F.run _ X.stack _ _ ⟨Value.ref (hh.objs.size+1)::us,[]⟩ (Value.ref (hh.objs.size+1)::(us++ds)) _ _ (E U) (hr.make C us [])
  (I2.d9.make C us []) (hb _ (Value.ref (hh.objs.size+1)::us) I2.aR hl) r2 hq) λr s' hq'=>?_))
 cases r with
 |error e=>exact hx Y U _ _ e s' I2 hq'
 |ok fl=>
  cases fl with
  |ret u=>
   obtain⟨v,H',J,rv,ev,q⟩:=I2.after hq';subst ev;obtain rfl:u=Value.none:=rv;exact⟨rfl,.ref _,H',J,rfl,q⟩
  |next=>exact False.elim hq'
  |brk=>exact False.elim hq'
  |cont=>exact False.elim hq'
def rp (M:AQ X.K C f)(F:bF X.prog X.w X.K X.mg X.base CX k f fd ps sp)(hr:aP (k+1) X.A)(hg:Gl X x)(hm:X.mg x=some (.ref C))(hb:Binds X.K fd ps ds)(hd:Vals dvs ds)(hx:Passes CX X E)
  (ha:PA X (e::es) t) (hdb:(x ==("__debug__":Str))=false:=by decide) (he:bm (e::es) X.env=(false,eval e X.env)::bm es X.env:=by rfl) (hpl:(backTo pos (bm es X.env)).any (·.1)=false:=by rfl):
  PE X (.Call (.Name x p) (e::es) [] pos) (pL C sp dvs E t):=by
 intro Y s U H Q I h;refine bv (aQ I hg hm ?_ hdb);refine W.callWith_K (h₀:=X.base) I.ok.mod.kin M.kp (ao (ha pos Y s U H _ I h) λus s1 ⟨vs,H1,I1,r,z,q⟩=>⟨I1.aR,?_⟩) he hpl;exact iu M F hr hb hd hx (by rw[nil_append,<-r.length];exact Nat.le_of_lt (cL z)) I1 r q
structure xp (K:W.Frag) (C:Addr):Prop where
 mks:aV K C=true
 init:W.findIn K (.ref C) "__init__"=some (some (.builtin "ValueError.__init__"))
 kp:W.keepIn K (.ref C)=true
 cls:a9 K C
abbrev uc (C:Addr)(t:TA):TE:=λU H Q=>t U H λvs H1=>vs.length=1/\∀ x,H1 x=none->Q (.ref x) (upd H1 x (.exc C none [] true))
def lu {Q:VK}(M:xp X.K C)(I:Inv X Y U H s)(r:Vals vs us)(h1:vs.length=1)(h:∀ x,H x=none->Q (.ref x) (upd H x (.exc C none [] true))):
  wpAny (model X.prog X.w) X.A (call (.ref C) us) (EP X Y U Q) X.xe s:=by
 have hq:=h (s.heap.objs.size+1) (I.hok.fresh (Nat.le_succ _));have I2:=Inv.vc (C:=C) us I;obtain⟨u,rfl⟩:∃ u,us=[u]:=by
  have e:=r.length;rw[h1]at e
  match us,e with
  | [u],_=>exact⟨u,rfl⟩
 obtain⟨hh,g,d,tk,os⟩:=s;refine wpAny_call (tR I.aR (by rw[sizeLine_eq];exact nb rfl) M.mks M.init (fS (C:=C) (dx:=none) (fs:=[]) (fr:=true) I2 ah M.cls λs' J=>?_));exact⟨rfl,.ref _,_,J,rfl,hq⟩
def rF (M:xp X.K C)(hg:Gl X x)(hm:X.mg x=some (.ref C))(ha:PA X (e::es) t)(hdb:(x ==("__debug__":Str))=false:=by decide) (he:bm (e::es) X.env=(false,eval e X.env)::bm es X.env:=by rfl) (hpl:(backTo pos (bm es X.env)).any (·.1)=false:=by rfl):
  PE X (.Call (.Name x p) (e::es) [] pos) (uc C t):=by
 intro Y s U H Q I h;refine bv (aQ I hg hm ?_ hdb);refine W.callWith_K (h₀:=X.base) I.ok.mod.kin M.kp (ao (ha pos Y s U H _ I h) λus s1 ⟨vs,H1,I1,r,z,q⟩=>⟨I1.aR,?_⟩) he hpl;exact lu M I1 r z q
structure B6 (K:W.Frag) (B:Addr):Prop where
 ga:W.specialIn K (.ref B) "__getattribute__"=some (some (.builtin "type.__getattribute__"))
 rd:W.readsIn K B (.type "type")=true
 fi:W.findCls K (.ref B) (.type "type") "__init__"=some (.val (.builtin "ValueError.__init__"))
abbrev Bg (K:W.Frag)(t:TA):TE:=λU H Q=>t U H λvs H1=>∃ a C dx fs fr v,vs=[.ref a,v]/\H1 a=some (.exc C dx fs fr)/\a9 K C/\Q .non H1
def xM {B:Addr}{pl:Sem Bool}{np:Pos}(b:B6 X.K B)(hg:Gl X x)(hm:X.mg x=some (.ref B))(ha:PA X (e::es) t)(hdb:(x ==("__debug__":Str))=false:=by decide)
  (hst:bm (e::es) X.env=(false,eval e X.env)::bm es X.env:=by rfl) (hpl:(backTo pos (bm es X.env)).any (·.1)=false:=by rfl)
  (ht:eval (.Call (.Attribute (.Name x np) "__init__" apos) (e::es) [] pos) X.env=(do
   let ov <-eval (.Name x np) X.env
   standAt apos.atName
   let(f,first) <-holding [ov] (getMethod ov "__init__" pl)
   callWith pos f first (backTo pos (bm (e::es) X.env)) (backToKw pos (keywordEach [] X.env))):=by rfl):
  PE X (.Call (.Attribute (.Name x np) "__init__" apos) (e::es) [] pos) (Bg X.K t):=by
 intro Y s U H Q I h;refine W.methodCall_KW (pl:=pl) (aQ I hg hm ?_ hdb) ht;refine W.method_cls I.aR b.ga (W.cls_value I.aR b.rd b.fi (by decide+kernel) ?_);refine PyProof.Rows.callWith_builtin1 (ao (ha pos Y _ U H _ (I.tok _) h) λus s1 ⟨vs,H1,I1,r,a,C,dx,fs,fr,v,ev,ea,c,q⟩=>?_) hst hpl;subst ev;cases r with
 |cons r1 r2=>
  cases r2 with
  |cons r3 r4=>
   cases r4;cases r1;exact lT I1 ea c λs' J=>⟨.non,H1,J,rfl,q⟩
structure CB (K:W.Frag) (C f:Addr):Prop where
 ga:W.specialIn K (.ref C) "__getattribute__"=some (some (.builtin "type.__getattribute__"))
 rd:W.readsIn K C (.type "type")=true
 fi:W.findCls K (.ref C) (.type "type") "__init__"=some (.val (.ref f))
 kp:W.keepIn K (.ref f)=true
end
section
open PySem.Builtin PySem.Builtin.ObjectAttr
variable {prog:Program}{w:World}{A:Around}{E:CO}{s:Shared}{K:W.Frag}{x C:Addr}{ox:Obj}{odo:Option Obj}
structure pf (K:W.Frag) (C:Addr):Prop where
 ha:W.findIn K (.ref C) "__class__"=some (some (.builtin "object.__class__"))
 hn:W.specialIn K (.builtin "object.__class__") "__get__"=some (some (.builtin "getset_descriptor.__get__"))
 htk:W.takesIn K (.builtin "object.__class__")=some true
def uu {Q:Option Value->Shared->Prop}(X:K.In s.heap)(I:W.InstAt s.heap x ox C odo)(c:a9 K C)(z:pf K C)(hfo:W.findObj K C odo "__class__"=some (.bind (.builtin "getset_descriptor.__get__") (.builtin "object.__class__")))
  (h:Q (some (.ref C)) { s with toks:=s.toks+1 }):wpAny (model prog w) A (getAttr? (.ref x) "__class__") Q E s:=by
 obtain⟨hp,g,d,t,os⟩:=s;have L0:=I.type (M:=model prog w);have L1:=looks_findIn (M:=model prog w) X c.ga;have L2':=looks_findIn (M:=model prog w) X c.gn;have L3:=looks_find (M:=model prog w) X I hfo;have L4:Looks (model prog w) hp (isInstance (.ref x) (.type "BaseException")) true:=I.type.andThen (looks_mroIn X (c.sub (by decide+kernel)));unfold getAttr? getAttrBy? getAttrBy;refine am (wpAny_mkText (am (wpAny_attempt (be (am (L0.at (am (L1.at ?_))))))));have e1:(Value.builtin "BaseException.__getattribute__" ==Value.builtin "object.__getattribute__")=false:=by decide+kernel
 dsimp only;rw[e1,Bool.and_false];show wpAny _ _ (getAttrByItsOwn _ _ _ _ _ _) _ _ _;unfold getAttrByItsOwn hookBefore;refine am (L2'.at ?_);refine am (wpAny_attempt (be ?_));unfold callGetattribute;show wpAny _ _ (boundAndCalled _ _ _) _ _ _;unfold boundAndCalled;rw[PySem.F.attr_ValueError.ga.bind];refine am (ap (wpAny_call (codeAny_call_builtin PySem.F.attr_ValueError.ga.plain PySem.F.entry_bexc_ga ?_)));refine @check_slot (model prog w) _ _ _ "BaseException.__getattribute__" "BaseException" "__getattribute__" (.ref x) [.str "__class__" t] [] _ jE ir L4 (PySem.F.args_bexc_ga (.ref x) (.str "__class__" t)) ?_;unfold Builtin.«object.__getattribute__»;refine am (ap (am (ap (am (L0.at (am (L3.at ?_)))))));show wpAny _ _ (holding [_] (call _ [_,.ref x,.ref C]) >>= ret) _ _ _;refine am (be (wpAny_call (class_get (s:=⟨hp,g,d,t+1,os⟩) (ox:=ox) (od:=odo) X I (c.sub (by decide+kernel)) ?_)));refine ap ?_;show wpAny _ _ (handedOut (.ref C)) _ _ _;exact handed_on rfl (ap h)
def qk (c:a9 K C)(z:pf K C):W.findObj K C odo "__class__"=some (.bind (.builtin "getset_descriptor.__get__") (.builtin "object.__class__")):=by
 obtain⟨cd,hc,_⟩:=W.any_some c.hd;unfold W.findObj;rw[hc,Option.bind_some,z.ha,Option.bind_some];simp[z.hn,z.htk]
def kb (c:a9 K C)(z:pf K C):W.KitX K (.ref x) (.ref C) (λh=>W.InstAt h x ox C odo) where
 ty:=λ_ _ _ I=>I.type
 it:=λ_ _ X _=>by
  obtain⟨cdD,hcD,_⟩:=W.any_some c.hd;unfold W.clsIn at hcD
  split at hcD
  .rename_i c' d' cd' sl' ho;intro A' Q' E' s' k q;unfold isType loadHead;exact am (wpAny_loadPart (k _ _ (X _ _ ho)) (ap q))
  .cases hcD
 ne:=λh tp dd its n sl X htp=>by
  obtain⟨cdD,hcD,_⟩:=W.any_some c.hd;refine Bool.eq_false_iff.mpr λq=>?_
  have e:C=tp:=Value.ref.inj (beq_iff_eq.mp q);subst e;unfold W.clsIn at hcD
  split at hcD
  .rename_i c' d' cd' sl' ho;have z:=(X _ _ ho).symm.trans htp;cases z
  .cases hcD
 ca:=λX I k=>uu X I c z (qk c z) k
end
section
variable {X:Cx}{Y:CP}{U:St}{H:Hp}{s:Shared}{a C:Addr}{dx:Option Addr}{fs:List (Str×V)}{fr:Bool}
def jR (I:Inv X Y U H s)(e:H a=some (.exc C dx fs fr)):∃ ox odo,W.InstAt s.heap a ox C odo:=by
 obtain⟨⟨vs,ho,_⟩,z⟩:=id (I.hok a _ e);rcases z with⟨rfl,_⟩|⟨d,rfl,_,_,_,mA,⟨od,es,ep,hod,_⟩,_⟩
 .exact⟨_,none,ho,rfl,rfl,True.intro⟩
 .exact⟨_,some od,ho,rfl,rfl,hod⟩
def pk {E:CO}{Q:CO}{cv:Value}{b:Bool}(I:Inv X Y U H s)(e:H a=some (.exc C dx fs fr))(c:a9 X.K C)(z:pf X.K C)(k:W.kitOne X.K (.ref C) cv=some b)
  (h:∀ tk,Q (.bool b) { s with toks:=tk }):wpAny (model X.prog X.w) A (call (.builtin "isinstance") [.ref a,cv]) Q E s:=by
 obtain⟨ox,odo,J⟩:=jR I e;exact W.kia_one (kb (ox:=ox) (odo:=odo) c z) I.aR J k (λz=>nomatch z) h
end
end L2
namespace L2
open PySem PySem.Spec PySem.W PyProof.Rows
variable {dx:Option Addr}
section
variable {X:Cx}{f:Str}{o value ex:Expr}{ta tv te:TE}{pos pos':Pos}{E:St->XK}
def lI {h:Heap}{a:Addr}{C:Addr}{vs:Array Value}{M:Model}(ho:h.get? a=some { cls:=.ref C,dict:=dx,data:=.fields vs }):W.Looks M h (isType (.ref a)) false:=by
 intro A Q E s k q;unfold isType loadHead;exact am (wpAny_loadPart (k _ _ ho) (ap q))
abbrev yb (K:W.Frag)(E:St->XK)(te:TE):TS:=λD U H=>te U H λv H1=>∃ a C dx fs,v=.ref a/\H1 a=some (.exc C dx fs true)/\a9 K C/\E U a (upd H1 a (.exc C dx fs false))
def pG (hx:wu X E)(hc:X.calm=true)(he:PE X ex te):PS X (.Raise (some ex) none pos) (yb X.K E te):=by
 intro Y s U H D I h;rw[arm_exec_Raise];simp only[evalOpt,Option.map];refine am (wpAny_standAt ?_);unfold raiseStmt;refine am (am (ao (he Y s U H _ I h) λu s1 ⟨y,H1,I1,ry,a,C,dx,fs,ey,ea,c,q⟩=>am (wpAny_standAt (ap ?_))));subst ey;obtain rfl:u=Value.ref a:=ry;obtain⟨⟨vs,ho,hsz,h1⟩,z⟩:=id (I1.hok a _ ea);have h1':=h1 rfl;have hq:X.xe (.ref a) s1:=by
  have J:Inv X [] U (upd H1 a (.exc C dx fs false)) s1:=by
   have J1:=I1.kU.write (x:=a) (e:=a) (o:=.exc C dx fs false) (t':=s1.toks) (h':=s1.heap) (by rw[ea];exact True.intro) (.inl rfl) (λ_ _ _ q=>q) ⟨_,ho⟩ ?_
   .exact J1
   .refine⟨⟨vs,ho,hsz,λy=>by cases y⟩,?_⟩;rcases z with z|⟨d,ed,d1,z1,ne,r⟩
    .exact .inl z
    .exact .inr ⟨d,ed,by rw[ae ne];exact d1,z1,ne,r⟩
  exact hx U _ s1 a C dx fs J (.inl ⟨_,vs,ho,rfl,h1'⟩) ah q
 obtain⟨hp,g,d,tk,os⟩:=s1;have L0:Looks (model X.prog X.w) hp (typeOf (.ref a)) (.ref C):=(Looks.ld ho).andThen .now;have L1:Looks (model X.prog X.w) hp (isType (.ref a)) false:=lI ho;have L2':Looks (model X.prog X.w) hp (isInstance (.ref a) (.type "BaseException")) true:=L0.andThen (looks_mroIn I1.aR (c.sub (by decide+kernel)));have L5:Looks (model X.prog X.w) hp (typeOf (.ref C)) (.type "type"):=looks_typeIn I1.aR c.mt;have tt:(Value.type "type" ==Value.type "type")=true:=by decide
 repeat(first|simp only[Bool.false_eq_true,if_false,if_true,tt]|lk)
 rw[h1'];refine ap ?_;rw[if_neg (by decide)];exact ap (wpAny_raiseNew_none (I1.ok.hd hc) hq)
end
@[reducible]def Cx.aF (X:Cx) (e:Value):Cx:={ X with A:=X.A.mark (some e),calm:=false,xe:=λ_ _=>False }
variable {xe:CO}{ps:CP}{D:Ends}
section
variable {X:Cx}{Y:CP}{U:St}{H:Hp}{s:Shared}
def Cx.Ok.aF (ok:X.Ok)(e:Value):(X.aF e).Ok:=
 ⟨ok.mod,ok.kind,ok.glob,ok.blt,ok.above,ok.inj,ok.has,ok.cab,(λz=>by cases z),ok.frames,ok.stk,ok.exf,ok.bs,ok.bsz,ok.noex,ok.exfs,ok.eJ,ok.frf⟩
def Inv.aF (I:Inv X Y U H s)(e:Value):Inv (X.aF e) Y U H s:=⟨I.ok.aF e,I.os,I.bare,I.base,I.loc,I.cell,I.free,I.freeC,I.pin,I.hok,I.len⟩
def Inv.fE {e:Value}(ok:X.Ok)(I:Inv (X.aF e) Y U H s):Inv X Y U H s:=⟨ok,I.os,I.bare,I.base,I.loc,I.cell,I.free,I.freeC,I.pin,I.hok,I.len⟩
def cK {M:Model}{A:Around}{E:CO}{Q:CN}{i:Nat}{n:Str}{pos:Pos}(I:Inv X Y U H s)(hN:X.N.Nodup)(hi:X.N[i]? =some n)(hn:X.env.scope.names.lookup n=some .local)
  (h:∀ s',Inv X Y (U.set i none) H s'->Q () s'):wpAny M A (do bindName X.env n .none;unbindBehindTheSuite X.env n pos) Q E s:=by
 have hcls:(X.env.scope.kind ==.class||(X.env.scope.kind ==.module&&X.env.locals != X.env.globals))=false:=by rw[I.ok.kind];rfl
 refine am (wpAny_bindName (dM I hN hi (.inl hn) (v:=.non) rfl (λs1 I1=>?_) (.inr hn)));obtain⟨m,hm,hl⟩:=I1.loc;unfold unbindBehindTheSuite;refine wpAny_onRaise ?_;unfold unbindName;refine am (wpAny_point (am ?_));unfold deleteName;have hk:X.env.kindOf n=some .local:=hn;have hiσ:i<U.length:=by rw[I.len];exact(sn.mp hi).1
 have hmn:(m n).isSome=true:=by
  obtain⟨u,_,l⟩:=hl i n .non hi (by rw[getElem?_set_self hiσ]) (.inl hn);rcases l with⟨_,q⟩|⟨q,_⟩
  .rw[q];rfl
  .rcases q with q|q<;>(rw[hk]at q;cases q)
 simp only[hk,hcls];rw[if_neg (by decide)];refine am (wpAny_nsDel_keeps hm λh2 v hn2 hs2=>?_);rw[hmn];simp only[if_true,Bool.not_true,Bool.false_eq_true,if_false];refine ap (wpAny_point (h { s1 with heap:=h2 } ?_));obtain⟨oL,esL,epL,hoL,_⟩:=id hm;have rQ:=I1.rQ;refine⟨I1.ok,I1.os,I1.bare,⟨λb o e n hb hx=>?_,λb o e n hb hx=>?_,I1.base.free,λb o e hx=>?_,I1.base.tups,I1.base.frzs,I1.base.tbls⟩,⟨_,hn2,λj y v' e1 e2 e3=>?_⟩,λy c e=>?_,I1.free,I1.freeC,λp hp=>?_,λa u ha=>?_,by rw[length_set];exact I.len⟩
 .exact(hs2.2 b (nl (mo (sw e) I1.ok.above))).trans (I1.base.keep b o e n hb hx)
 .obtain⟨sl,q⟩:=I1.base.slot b o e n hb hx;exact⟨sl,(hs2.2 b (nl (mo (sw e) I1.ok.above))).trans q⟩
 .obtain⟨o',q⟩:=I1.base.there b o e hx;exact⟨o',(hs2.2 b (nl (mo (sw e) I1.ok.above))).trans q⟩
 .have hj:j≠i:=λz=>by rw[z,getElem?_set_self hiσ]at e2;cases e2
  rw[getElem?_set_ne (Ne.symm hj)]at e2;obtain⟨u,r,q⟩:=hl j y v' e1 (by rw[getElem?_set_ne (Ne.symm hj)];exact e2) e3;refine⟨u,r,?_⟩;rcases q with⟨k,e⟩|⟨k,c,e,z⟩
  .refine .inl ⟨k,?_⟩;have ny:y≠n:=λz=>hj (gz hN e1 (z▸hi))
   show(if y=n then v else m y)=some u;rw[if_neg ny];exact e
  .exact .inr ⟨k,c,e,z.sameBut hs2 (rQ y c e)⟩
 .obtain⟨w',z⟩:=I1.cell y c e;exact⟨w',z.sameBut hs2 (rQ y c e)⟩
 .obtain⟨e,n,ne,nf,d⟩:=I1.pin p hp;exact⟨(hs2.2 p.1 ne).trans e,n,ne,nf,d⟩
 .refine(I1.hok a u ha).cW (λb o hb hq=>(hs2.2 b ?_).trans hq) (λ_ q=>q) λ_ _ q=>q
  rintro rfl;rcases hb with hb|hb
  .rw[<-hb,I1.free]at ha;cases ha
  .rw[I1.free]at hb;cases hb
@[reducible]def Cx.dg (X:Cx) (Y:CP) (xe:CO):Cx:={ X with pn:=X.pn++Y,xe:=xe }
def Cx.Ok.dg (ok:X.Ok)(Y:CP)(xe:CO):(X.dg Y xe).Ok:=
 ⟨ok.mod,ok.kind,ok.glob,ok.blt,ok.above,ok.inj,ok.has,ok.cab,ok.hd,ok.frames,ok.stk,ok.exf,ok.bs,ok.bsz,ok.noex,ok.exfs,ok.eJ,ok.frf⟩
def Inv.dg (I:Inv X Y U H s)(xe:CO):Inv (X.dg Y xe) [] U H s:=
 ⟨I.ok.dg Y xe,I.os,I.bare,I.base,I.loc,I.cell,I.free,I.freeC,λp hp=>I.pin p (by simpa using hp),I.hok,I.len⟩
def Inv.c6 (ok:X.Ok)(I:Inv (X.dg Y xe) ps U H s):Inv X Y U H s:=
 ⟨ok,I.os,I.bare,I.base,I.loc,I.cell,I.free,I.freeC,λp hp=>I.pin p (mem_append_left _ hp),I.hok,I.len⟩
def SP.c6 {f:Flow}(ok:X.Ok)(h:SP (X.dg Y xe) ps D f s):SP X Y D f s:=by
 cases f with
 |next=>obtain⟨σ',H',I,q⟩:=h;exact⟨σ',H',I.c6 ok,q⟩
 |brk=>obtain⟨σ',H',I,q⟩:=h;exact⟨σ',H',I.c6 ok,q⟩
 |cont=>obtain⟨σ',H',I,q⟩:=h;exact⟨σ',H',I.c6 ok,q⟩
 |ret u=>obtain⟨v,σ',H',I,r,q⟩:=h;exact⟨v,σ',H',I.c6 ok,r,q⟩
def wm {body:List Stmt}{h0:ExceptHandler}{hs:List ExceptHandler}{pos:Pos}{E':St->XK}(I:Inv X Y U H s)(hstk:X.stack=X.env::X.outer)(hfr:X.env.frame=some X.env.locals)
  (hb:∀ xe,wu (X.dg Y xe) E'->PassesOwn (model X.prog X.w) X.A X.env xe->wpAny (model X.prog X.w) X.A (execs body X.env) (SP (X.dg Y xe) [] D) xe s)
  (hh:∀ (U:St) (H:Hp) (s:Shared) (e C:Addr) (dx:Option Addr) (fs:List (Str×V)) (T:Addr),Inv X Y U H s->H e=some (.exc C dx fs false)->X.s₀.heap.objs.size<=T->H T=none->(∀ p ∈ X.pn++Y,p.1≠T)->nW s.heap e T .none->E' U e H->
   wpAny (model X.prog X.w) X.A (handleBy (.ref e) X.env (h0::hs)) (SP X Y D) X.xe s):
  wpAny (model X.prog X.w) X.A (exec (.Try body (h0::hs) [] [] pos) X.env) (SP X Y D) X.xe s:=by
 refine wpAny_Try_except (wpAny_mono (hb (λu s1=>wpAny (model X.prog X.w) X.A (noteFrame u X.env) (λ_ s2=>wpAny (model X.prog X.w) X.A (setFlight u none) (λ_ s3=>wpAny (model X.prog X.w) X.A (handleBy u X.env (h0::hs)) (SP X Y D) X.xe s3) X.xe s2) X.xe s1) ?_ PassesOwn.looking) (λf s1 h1=>?_) λ_ _ z=>z)
 .intro σ' H' s' e C dx fs J sf he q;exact gZ (X:=X.dg Y _) J hstk hfr sf he λs2 T J2 _ hT hH hp st=>hh σ' H' s2 e C dx fs T (J2.c6 I.ok) he hT hH hp st q
 .have h2:=SP.c6 I.ok h1;cases f with
  |next=>exact wpAny_execs_nil h2
  |brk=>exact h2
  |cont=>exact h2
  |ret u=>exact h2
def jI {n x:Str}{np hpos:Pos}{b0:Stmt}{aF:List Stmt}{rest:List ExceptHandler}{i:Nat}{e C Ch T:Addr}{fs:List (Str×V)}{b:Bool}(I:Inv X Y U H s)(he:H e=some (.exc C dx fs false))
  (hT:X.s₀.heap.objs.size<=T) (hH:H T=none) (hp:∀ p ∈ X.pn++Y,p.1≠T) (st:nW s.heap e T .none) (c:a9 X.K C) (ch:a9 X.K Ch) (hsub:W.mroIn X.K C (.ref Ch)=some b) (hg:Gl X x) (hm:X.mg x=some (.ref Ch))
  (hN:X.N.Nodup) (hi:X.N[i]? =some n) (hn:X.env.scope.names.lookup n=some .local) (hdb:(x ==("__debug__":Str))=false)
  (yes:b=true->∀ s2,Inv (X.aF (.ref e)) Y (U.set i (some (.ref e))) H s2->wpAny (model X.prog X.w) (X.A.mark (some (.ref e))) (execs (b0::aF) X.env)
   (SP (X.aF (.ref e)) Y { nx:=λσ' H'=>D.nx (σ'.set i none) H',rt:=D.rt,bk:=λσ' H'=>D.bk (σ'.set i none) H',ct:=λσ' H'=>D.ct (σ'.set i none) H' }) (λ_ _=>False) s2)
  (no:b=false->wpAny (model X.prog X.w) X.A (handleBy (.ref e) X.env rest) (SP X Y D) X.xe s):
  wpAny (model X.prog X.w) X.A (handleBy (.ref e) X.env (.ExceptHandler (some (.Name x np)) (some n) (b0::aF) hpos::rest)) (SP X Y D) X.xe s:=by
 have I':=I.aF (.ref e);refine wpAny_handleBy_cons (codeAny_handlers_test (aQ (X:=X.aF (.ref e)) I' hg hm ?_ hdb)) (by intro q;cases q);obtain⟨⟨vs,ho,hsz,h1⟩,z⟩:=id (I.hok e _ he);have L0:Looks (model X.prog X.w) s.heap (typeOf (.ref e)) (.ref C):=(Looks.ld ho).andThen .now;have L1:Looks (model X.prog X.w) s.heap (typeOf (.ref Ch)) (.type "type"):=looks_typeIn I.aR ch.mt;have L2':Looks (model X.prog X.w) s.heap (isInstance (.ref Ch) (.type "tuple")) false:=L1.andThen (Looks.of_pure tc_notTuple);have L3:Looks (model X.prog X.w) s.heap (isType (.ref Ch)) true:=by
  obtain⟨cd,rs,hcl,_⟩:=ch.mro;unfold W.clsIn at hcl
  split at hcl
  .rename_i ho';intro A' Q' E' s' k q;unfold isType loadHead;exact am (wpAny_loadPart (k _ _ (I.aR _ _ ho')) (ap q))
  .cases hcl
 have L4:Looks (model X.prog X.w) s.heap (isSubtype (.ref Ch) (.type "BaseException")) true:=looks_mroIn I.aR (ch.sub (by decide+kernel));have L5:Looks (model X.prog X.w) s.heap (isSubtype (.ref C) (.ref Ch)) b:=looks_mroIn I.aR hsub;have L6:Looks (model X.prog X.w) s.heap (isExcClass (.ref Ch)) true:=by
  unfold isExcClass;exact L3.andThen L4
 unfold excMatches;refine am (L2'.here ?_);rw[if_neg (by decide)];refine am (ap ?_);simp only[forIn_cons,forIn_nil];refine am (am (am (L6.here ?_)));rw[if_neg (by decide)];refine ap ?_;refine ap ?_;refine am (L0.here ?_);refine am (am (am (L5.here ?_)));cases b with
 |false=>
  rw[if_neg (by decide)];refine ap ?_;refine ap ?_;refine ap ?_;exact no rfl
 |true=>
  rw[if_pos rfl];refine ap ?_;refine ap ?_;refine ap ?_;refine codeAny_handlers_suite_as (mD st λh2 kK oth _ th2 _=>?_);have I2:Inv X Y U H { s with heap:=h2 }:=by
   refine Inv.turned (it:=T) (h':=h2) (t':=s.toks) I (λb o hb hq=>(oth b hb).trans hq) hH ?_ (.inr hT) (λy cc hc z=>?_) hp
   .intro z;obtain⟨m,⟨o,es,ep,ho',hd,_⟩,_⟩:=I.loc;obtain⟨_,_,oT,ts,_,_,_,_,hT2,hd2,_⟩:=st;rw[z,ho']at hT2;cases hT2;rw[hd]at hd2;cases hd2
   .obtain⟨v,o,ho',hd⟩:=I.cell y cc hc;obtain⟨_,_,oT,ts,_,_,_,_,hT2,hd2,_⟩:=st;rw[<-z,ho']at hT2;cases hT2;rw[hd]at hd2;cases hd2
  refine dM (X:=X.aF (.ref e)) (I2.aF (.ref e)) hN hi (.inl hn) (v:=.ref e) rfl (λs3 I3=>?_) (.inr hn);refine wpAny_mono (yes rfl s3 I3) (λf s4 h4=>?_) λ_ _ z=>z.elim
  cases f with
  |next=>
   obtain⟨σ',H',J,q⟩:=h4;exact cK (J.fE I.ok) hN hi hn λs5 J5=>⟨_,H',J5,q⟩
  |brk=>
   obtain⟨σ',H',J,q⟩:=h4;exact cK (J.fE I.ok) hN hi hn λs5 J5=>⟨_,H',J5,q⟩
  |cont=>
   obtain⟨σ',H',J,q⟩:=h4;exact cK (J.fE I.ok) hN hi hn λs5 J5=>⟨_,H',J5,q⟩
  |ret u=>
   obtain⟨v,σ',H',J,r,q⟩:=h4;exact cK (J.fE I.ok) hN hi hn λs5 J5=>⟨v,_,H',J5,r,q⟩
end
end L2
namespace L2
open PySem PySem.Spec PyProof.Rows
def qc:bootBuiltins "isinstance"=some (.builtin "isinstance"):=by decide+kernel
section
variable {X:Cx}
abbrev Ah (K:W.Frag):V->V->Hp->VK->Prop:=λx y H Q=>∃ p xs i v,x=.ref p/\y=.int i/\aA K H p xs/\0<=i/\xs[i.toNat]? =some v/\Q v H
def pD:yy X (Ah X.K):=by
 intro Y s U H o i ov iv Q I ro ri h;obtain⟨p,xs,k,z,rfl,rfl,hq,h0,he,q⟩:=h;cases ro;obtain⟨t,rfl⟩:=ri;obtain⟨its,r,pl,hz⟩:=I.list hq;obtain⟨w,ew,rw'⟩:=r.get he;have hl:k.toNat<xs.length:=(sn.mp he).1;have hn:=di;exact wpAny_getItem_list pl.isList h0 nofun (by simpa using ew) ⟨z,H,I,rw',q⟩
def fO {xs:List V}{us:List Value}(r:Vals xs us){j:Nat}(h:j<us.toArray.size):∃ x,xs[j]? =some x/\RelV x (us.toArray[j]):=by
 have hl:=r.length;have hj:j<us.length:=by simpa using h
 have e:xs[j]? =some xs[j]:=jp nofun;obtain⟨u,h1,h2⟩:=r.get e;refine⟨_,e,?_⟩;rw[jp hj]at h1;cases h1;simpa using h2
end
section
variable {U:St}{H:Hp}{Q:VK}{D:Ends}{K:W.Frag}
abbrev o6 (x:V)(H:Hp)(R:Bool->Hp->Prop):Prop:=∃ k,x=.bl k/\R k H
def dB {α:Type}{xs:List α}{i:Int}(h0:0<=i)(h1:i<xs.length):∃ v,fg xs i=some v/\v ∈ xs:=by
 obtain⟨n,rfl⟩:=re h0;have hn:n<xs.length:=by omega
 exact⟨xs[n],bb (jp hn),List.getElem_mem hn⟩
end
section
variable {K:W.Frag}{g:TG}{tb:TS}{D:Ends}{U:St}{H:Hp}{tl:TE}{ta:TA}
end
def fits {n:Nat}(h:n<=1000):n<=bn:=Nat.le_of_lt (cL h)
section
variable {X:Cx}{H:Hp}{Q:VK}
end
section
variable {K:W.Frag}
end
section
variable {H H':Hp}{h c p:Addr}{m n:Int}{o:HO}
end
def Av (ns:List Int)(h:ns.length<=63):cX (ns.map V.int) none (some 63)=ns.map V.int:=by
 have e1:HT.bB (ns.map V.int).length 0 none=0:=rfl;have e2:HT.bB (ns.map V.int).length (ns.map V.int).length (some 63)=(ns.map V.int).length:=by
  show(if(63:Int)<0 then((63:Int)+((ns.map V.int).length:Int)).toNat else min (63:Int).toNat (ns.map V.int).length)=(ns.map V.int).length;rw[if_neg (by decide),ce];show min 63 ns.length=ns.length
  omega
 unfold cX;rw[e1,e2,drop_zero,Nat.sub_zero,List.take_length]
variable {ns:List Int}
def kM {i:Nat}{x:V}(h:(ns.map V.int)[i]? =some x):∃ z,x=V.int z:=by
 rw[ii]at h;cases e:ns[i]? with
 |none=>rw[e]at h;cases h
 |some z=>rw[e]at h;exact⟨z,(Option.some.inj h).symm⟩
def pw {i:Int}(h0:0<=i)(h1:i<ns.length):∃ z,fg (ns.map V.int) i=some (.int z):=by
 obtain⟨v,a,m⟩:=dB (xs:=ns.map V.int) h0 (by rw[ce];exact h1);obtain⟨z,_,rfl⟩:=List.mem_map.mp m;exact⟨z,a⟩
section
variable {H:Hp}{Q:VK}
end
section
variable {X:Cx}
end
abbrev wN (X:Cx)(scope:Scope)(cl:List (Str×Addr))(N:List Str)(s:Shared)(H:Hp)(fp:List Addr)(xe:CO):Cx:=
 { X with N:=N,s₀:=s,H₀:=H,env:=compEnvC scope cl s.heap.objs.size X.env,outer:=X.stack,stack:=X.stack,ex:=fp,fn:=λ_=>false,xe:=xe }
abbrev CC (X:Cx)(E:XK)(u:Value)(s':Shared):Prop:=∃ (σ':St) (H':Hp) (e C:Addr) (dx:Option Addr) (fs:List (Str×V)),u=.ref e/\Inv X [] σ' H' s'/\qL X.s₀.heap.objs.size X.pn H' s'.heap e/\H' e=some (.exc C dx fs false)/\E e H'
abbrev de (X:Cx)(scope:Scope)(cl:List (Str×Addr))(N:List Str)(s:Shared)(H:Hp)(fp:List Addr)(E:XK):Cx:=wN X scope cl N s H fp (CC (wN X scope cl N s H fp λ_ _=>False) E)
variable {X:Cx}{scope:Scope}{cl:List (Str×Addr)}{s:Shared}{H:Hp}{fp:List Addr}{E:XK}
def vt {N:List Str}:wu (de X scope cl N s H fp E) (λ_=>E):=λσ' H' s' e C dx fs I sf he q=>
 ⟨σ',H',e,C,dx,fs,rfl,⟨⟨I.ok.mod,I.ok.kind,I.ok.glob,I.ok.blt,I.ok.above,I.ok.inj,I.ok.has,I.ok.cab,I.ok.hd,I.ok.frames,I.ok.stk,I.ok.exf,I.ok.bs,I.ok.bsz,I.ok.noex,I.ok.exfs,I.ok.eJ,I.ok.frf⟩,I.os,I.bare,I.base,I.loc,I.cell,I.free,I.freeC,I.pin,I.hok,I.len⟩,sf,he,q⟩
structure aC (X:Cx) (scope:Scope) (cl:List (Str×Addr)) (xs:List Str) (fr:List Str) (sel:List Nat):Prop where
 clos:closureFor scope X.env=pure cl
 sub:∀ y c,cl.lookup y=some c->X.env.cells.lookup y=some c
 has:∀ y,((relabel scope X.env).names.lookup y=some .cell\/(relabel scope X.env).names.lookup y=some .free)->∃ c,cl.lookup y=some c
 kind:scope.kind=.function
 nocell:∀ y ∈ scope.names,y.2≠.cell
 names:∀ y ∈ scope.names,y.2=.local->scope.names.lookup y.1=some .local
 own:∀ x ∈ xs,scope.names.lookup x=some .local
 len:sel.length=fr.length
 out:∀ (j:Nat) (y:Str),fr[j]? =some y->∃ i,sel[j]? =some i/\X.N[i]? =some y/\X.env.scope.names.lookup y=some .cell/\(relabel scope X.env).names.lookup y=some .cell
 nd:(xs++fr).Nodup
abbrev fh (U:St)(sel:List Nat):St:=sel.map λi=>U.getD i none
abbrev LC (te:TE)(J:It)(σ₀:St)(H1:Hp)(Q:VK):Prop:=∀ D,H1 D=none->∃ W:Nat->Nat->St->Hp->Prop,(∃ m,W 0 m σ₀ (upd H1 D (.lst [])))/\∀ i m σ' H',W i m σ' H'->
 (J.stop i H'/\Q (.ref D) H')\/(J.go i H'/\∃ N:St->Hp->Prop,(∀ σ2 H2,N σ2 H2->∃ m',m'<m/\W (i+1) m' σ2 H2)/\
  ∀ x H'',J.yld i H' x H''->te (σ'.set 0 (some x)) H'' λv H3=>∃ zs,H3 D=some (.lst zs)/\zs.length<bn/\N (σ'.set 0 (some x)) (upd H3 D (.lst (zs++[v]))))
abbrev gate (env:Env):List Expr->Sem Bool
 | []=>pure true
 |c::_=>isTrue c env (eval c env)
variable {ifs:List Expr}{pos:Pos}
def mK {M:Model}{A:Around}{elt target iter:Expr}{it acc:Value}{env:Env}{Q:PySem.Fin->Shared->Prop}{E:CO}(hi:ifs.length<=1)
  (h:wpAny M A (pyNext it) (λr s1=>match r with
   |none=>Q (.done .next) s1
   |some v=>wpAny M A (letOwnedTupleGo target it v) (λ_ s2=>wpAny M A (assign target env v) (λ_ s3=>wpAny M A (gate env ifs) (λok s4=>
    (ok=true->wpAny M A (eval elt env) (λx s5=>wpAny M A (call (.builtin "list.append") [acc,x]) (λ_ s6=>wpAny M A (again (.compLoop (.ListComp elt [⟨target,iter,ifs,0⟩] scope pos) 0 it acc env)) Q E s6) E s5) E s4)/\
    (ok=false->wpAny M A (again (.compLoop (.ListComp elt [⟨target,iter,ifs,0⟩] scope pos) 0 it acc env)) Q E s4)) E s3) E s2) E s1) E s):
  wpAny M A (compTurn (.ListComp elt [⟨target,iter,ifs,0⟩] scope pos) 0 it acc env) Q E s:=by
 have key:∀ {g:Sem Bool}{K:Sem PySem.Fin}{s:Shared},wpAny M A g (λok s4=>
    (ok=true->wpAny M A (eval elt env) (λx s5=>wpAny M A (call (.builtin "list.append") [acc,x]) (λ_ s6=>wpAny M A K Q E s6) E s5) E s4)/\
    (ok=false->wpAny M A K Q E s4)) E s->wpAny M A (g >>= λok=>if ok=true then(eval elt env >>= λx=>call (.builtin "list.append") [acc,x] >>= λ_=>pure ()) >>= λ_=>K else K) Q E s:=λ{g K s} h=>by
  refine am (wpAny_mono h (λok s4 h4=>?_) λ_ _ e=>e);cases ok with
  |false=>exact h4.2 rfl
  |true=>exact am (am (wpAny_mono (h4.1 rfl) (λx s5 h5=>am (wpAny_mono h5 (λ_ s6 h6=>ap h6) λ_ _ e=>e)) λ_ _ e=>e))
 match ifs,hi with
 | [],_=>
  rw[compTurn_list1];refine am (wpAny_standAt (am (wpAny_mono h (λr s1 h1=>?_) λ_ _ e=>e)));cases r with
  |none=>exact ap h1
  |some v=>
   refine am (wpAny_mono h1 (λ_ s2 h2=>am (wpAny_mono h2 (λ_ s3 h3=>?_) λ_ _ e=>e)) λ_ _ e=>e);exact key (g:=pure true) h3
 | [c],_=>
  unfold compTurn;simp only[List.getElem?_cons_zero,List.getElem?_cons_succ,List.getElem?_nil];dsimp only[forIn,List.forIn',List.forIn'.loop,forIn'];rw[if_neg (by decide),if_neg (by decide)];refine am (wpAny_standAt (am (wpAny_mono h (λr s1 h1=>?_) λ_ _ e=>e)));cases r with
  |none=>exact ap h1
  |some v=>
   refine am (wpAny_mono h1 (λ_ s2 h2=>am (wpAny_mono h2 (λ_ s3 h3=>?_) λ_ _ e=>e)) λ_ _ e=>e);refine key ?_;rw[if_pos rfl];refine am (am (wpAny_mono h3 (λok s4 h4=>ap ?_) λ_ _ e=>e));exact ap h4
abbrev LCg (tg:TG)(tc:TT)(te:TE)(J:It)(σ₀:St)(H1:Hp)(Q:VK):Prop:=∀ D,H1 D=none->∃ W:Nat->Nat->St->Hp->Prop,(∃ m,W 0 m σ₀ (upd H1 D (.lst [])))/\∀ i m σ' H',W i m σ' H'->
 (J.stop i H'/\Q (.ref D) H')\/(J.go i H'/\∃ N:St->Hp->Prop,(∀ σ2 H2,N σ2 H2->∃ m',m'<m/\W (i+1) m' σ2 H2)/\
  ∀ x H'',J.yld i H' x H''->tg x σ' H'' λσ2 H2=>tc σ2 H2 λb H3=>(b=true->te σ2 H3 λv H4=>∃ zs,H4 D=some (.lst zs)/\zs.length<bn/\N σ2 (upd H4 D (.lst (zs++[v]))))/\(b=false->N σ2 H3))
abbrev yes:TT:=λ_ H Q=>Q true H
variable {te:TE}
def LC.g {J:It}{σ₀:St}{H1:Hp}{Q:VK}(h:LC te J σ₀ H1 Q):LCg (dA 0) yes te J σ₀ H1 Q:=λD hD=>by
 obtain⟨W,w0,turn⟩:=h D hD;refine⟨W,w0,λi m σ' H' w=>?_⟩;rcases turn i m σ' H' w with z|⟨go,N,hN,step⟩
 .exact .inl z
 .exact .inr ⟨go,N,hN,λx H'' y=>⟨λ_=>step x H'' y,λe=>nomatch e⟩⟩
abbrev AE (X:Cx)(ifs:List Expr)(tc:TT):Prop:=ifs.length<=1/\∀ (Y:CP) (s:Shared) (U:St) (H:Hp) (Q:Bool->Hp->Prop),Inv X Y U H s->tc U H Q->wpAny (model X.prog X.w) X.A (gate X.env ifs) (TP X Y U Q) X.xe s
def jd:AE X [] yes:=⟨Nat.zero_le _,λY s U H Q I q=>ap ⟨H,I,q⟩⟩
def sq {c:Expr}{tc:TT}(h:PT X c tc):AE X [c] tc:=⟨pc _,h⟩
abbrev kc (xs:List Str):St:=xs.map λ_=>none
abbrev Cf (wi:TI)(te:TE)(sel:List Nat):TE:=λU H Q=>wi U H λJ H1=>LC te J (none::fh U sel) H1 Q
abbrev An (wi:TI)(tg:TG)(tc:TT)(te:TE)(xs:List Str)(sel:List Nat):TE:=λU H Q=>wi U H λJ H1=>LCg tg tc te J (kc xs++fh U sel) H1 Q
variable {xs fr:List Str}{sel:List Nat}{Y:CP}{U:St}
section
variable {X:Cx}
def Un.sameBut {fs ex:List Addr}{H':Hp}{h h1 h2:Heap}{C:Addr}(u:Un fs ex H H' h h1)(hs:Heap.SameBut C h1 h2)(hC:h.objs.size<=C):Un fs ex H H' h h2:=by
 have ne:∀ b o,h.get? b=some o->b≠C:=λb o e=>nl (mo (sw e) hC)
 refine⟨λb o e n hb hx=>(hs.2 b (ne b o e)).trans (u.keep b o e n hb hx),λb o e n hb hx=>?_,u.free,λb o e hx=>?_,u.tups,u.frzs,u.tbls⟩
 .obtain⟨sl,q⟩:=u.slot b o e n hb hx;exact⟨sl,(hs.2 b (ne b o e)).trans q⟩
 .obtain⟨o',q⟩:=u.there b o e hx;exact⟨o',(hs.2 b (ne b o e)).trans q⟩
def ki {h':Heap}{tk:Nat}{m':CQ}
  (S:aC X scope cl xs fr sel) (I:Inv X Y U H s) (f2:∀ b ∈ fp,fz X Y H b) (fo:∀ b ∈ fp,b<s.heap.objs.size) (hns:h'.Ns s.heap.objs.size m') (keep:∀ b o,s.heap.get? b=some o->h'.get? b=some o):
  Inv (de X scope cl (xs++fr) s H fp E) Y (kc xs++fh U sel) H { s with heap:=h',toks:=tk }:=by
 have stk:∀ b,b≠X.env.locals->b ∉ X.fs->b ∉ iH X.stack:=λb h1 h2 hb=>(lf.mp (I.d5 b hb)).elim h1 h2
 refine⟨⟨I.ok.mod,S.kind,I.ok.glob,I.ok.blt,pc _,λy z c h1 h2=>I.ok.inj y z c (S.sub y c h1) (S.sub z c h2),λy hy=>S.has y hy,(λy c h=>nomatch h),I.ok.hd,I.ok.frames,.inl rfl,λb hb=>⟨nl (fo b hb),λy c h=>(f2 b hb).2.2.2.2.1 y c (S.sub y c h)⟩,I.bs,
  Nat.le_trans I.ok.bsz I.sz,λb o e hb=>?_,λb hb=>stk b (f2 b hb).2.1 (f2 b hb).2.2.1,I.stack,I.iX⟩,
  rfl,I.bare,Un.kept keep,⟨m',hns,λi y v e1 e2 e3=>?_⟩,λy c h=>?_,I.hok.fresh (pc _),λy c h=>I.freeC y c (S.sub y c h),λp hp=>?_,I.hok.kept keep,?_⟩
 .rcases(f2 b hb).2.2.2.1 with z|z
  .exact I.ok.noex b o e z
  .exact absurd (mo (mo (sw e) I.ok.bsz) z) (Nat.lt_irrefl _)
 .have hln:(kc xs).length=xs.length:=ce ..
  by_cases hlt:i<xs.length
  .rw[List.getElem?_append_left (by rw[hln];exact hlt)]at e2;unfold kc at e2;rw[ii,jp hlt]at e2;cases e2
  .obtain⟨j,rfl⟩:∃ j,i=xs.length+j:=⟨i-xs.length,by omega⟩;have e1':fr[j]? =some y:=by
    have e1:(xs++fr)[xs.length+j]? =some y:=e1;rw[List.getElem?_append_right nofun,show xs.length+j-xs.length=j by omega]at e1;exact e1
   obtain⟨i,hi,hN,k1,k2⟩:=S.out j y e1';have e2':(fh U sel)[j]? =some (some v):=by
    rw[List.getElem?_append_right (by rw[hln];omega),hln,show xs.length+j-xs.length=j by omega]at e2;exact e2
   have e4:U[i]? =some (some v):=by
    unfold fh at e2';rw[ii,hi]at e2';have e5:U.getD i none=some v:=Option.some.inj e2';rw[List.getD_eq_getElem?_getD]at e5;cases e6:U[i]? with
    |none=>rw[e6]at e5;cases e5
    |some z=>rw[e6]at e5;exact congrArg some e5
   obtain⟨m,hn,hl⟩:=I.loc;obtain⟨u,r,l⟩:=hl i y v hN e4 (.inr (.inl k1));refine⟨u,r,.inr ⟨.inl k2,?_⟩⟩;rcases l with⟨hk,_⟩|⟨_,c,hc,o,ho,hd⟩
   .have hk':X.env.scope.names.lookup y=some .local:=hk;rw[k1]at hk';cases hk'
   .obtain⟨c',hc'⟩:=S.has y (.inl k2);have:=(S.sub y c' hc').symm.trans hc;cases this;exact⟨c,hc',o,keep c o ho,hd⟩
 .obtain⟨v,o,ho,hd⟩:=I.cell y c (S.sub y c h);exact⟨v,o,keep c o ho,hd⟩
 .obtain⟨e,n,ne,nf,d⟩:=I.pin p hp;exact⟨keep p.1 p.2 e,n,nl (sw e),stk p.1 ne nf,d⟩
 .show(kc xs++fh U sel).length=(xs++fr).length;unfold fh kc;simp[S.len]
structure g8 (X:Cx) (U:St) (E:XK):Prop where
 xok:∀ (H:Hp) (s:Shared) (e C:Addr) (dx:Option Addr) (fs:List (Str×V)),Inv X [] U H s->qL X.s₀.heap.objs.size X.pn H s.heap e->H e=some (.exc C dx fs false)->E e H->X.xe (.ref e) s
 stk:∃ e0 o0 L,X.stack=e0::o0/\e0.frame=some L/\X.env.frame=some L
abbrev BP (X:Cx)(U:St)(e:Expr)(t:TE):Prop:=∀ (Y:CP) (s:Shared) (H:Hp) (Q:VK),Inv X Y U H s->t U H Q->wpAny (model X.prog X.w) X.A (eval e X.env) (EP X Y U Q) X.xe s
def lZ {s3:Shared}{H3:Hp}{D:Addr}{use:Option (Value->Sem Unit)}{P:CO}(hx:g8 X U E)
  (I3:Inv X Y U H3 s3) (f3:∀ b ∈ fp,fz X Y H3 b) (u:Value) (s':Shared) (h:(de X scope cl (xs++fr) s3 H3 fp E).xe u s'):
  notedBy (model X.prog X.w) X.A (compEnvC scope cl s3.heap.objs.size X.env) (λx s2=>compPost (model X.prog X.w) X.A X.xe use P (.ref D) s3.heap.objs.size (.error x) s2) u s':=by
 obtain⟨σ',H',e,C,dx,fs,rfl,I,sf,he,q⟩:=h;obtain⟨e0,o0,L,hs,hf0,hf⟩:=hx.stk;refine kB (X:=wN X scope cl (xs++fr) s3 H3 fp λ_ _=>False) (env:=compEnvC scope cl s3.heap.objs.size X.env) I hs hf0 hf sf he λh1 T I1 hT hH hp st=>?_
 obtain⟨m,hn,_⟩:=I1.loc;refine⟨m,hn,λh2 hs2 cenv _=>?_⟩;have fC:H' s3.heap.objs.size=none:=I1.free;have J:Inv X [] U H' { s' with heap:=h2 }:=by
  refine I3.kU.mr (ch:=fp) I1.os (I1.base.sameBut hs2 (pc _)) (λb ob eb=>?_) I1.bare λb hb=>⟨(f3 b hb).2.2.2.1,(f3 b hb).2.1,(f3 b hb).2.2.2.2.1,λp hp=>(f3 b hb).2.2.2.2.2 p (by simpa using .inl (by simpa using hp))⟩
  refine(I1.hok b ob eb).cW (λc w' hc' q'=>(hs2.2 c ?_).trans q') (λ_ q'=>q') λ_ _ q'=>q'
  intro z;rcases hc' with z2|z2
  .rw[z2]at z;rw[z,fC]at eb;cases eb
  .rw[z,fC]at z2;cases z2
 obtain⟨oe,vs,oT,ts,he1,hd1,h11,hTe,hoT,hdT,h3⟩:=id st;obtain⟨n1,n2⟩:=I1.pX hoT hdT;have neC:e≠s3.heap.objs.size:=λz=>by rw[z,fC]at he;cases he
 have e2:=(hs2.2 e neC).trans he1;have t2:=(hs2.2 T n1).trans hoT;have hz:3<ts.size:=(Array.getElem?_eq_some_iff.mp h3).1;unfold PySem.passOn;refine am (bd e2 hd1 h11 ?_);rw[if_neg (show ¬ ((Value.ref T ==Value.none)=true) from by simp)];have fly:wpAny (model X.prog X.w) X.A (setFlight (.ref e) cenv.frame) (λ_ s3=>wpAny (model X.prog X.w) X.A (throw (Value.ref e):Sem Value) (λ_ _=>False) X.xe s3) X.xe { s' with heap:=h2 }:=by
  unfold setFlight;refine am (bd e2 hd1 h11 ?_);rw[if_pos (show(Value.ref T != Value.none)=true from by simp)];refine wpAny_setField t2 hdT hz (wpAny_throw ?_);have other:∀ b,b≠T->(h2.update T (Obj.mapFields (·.setIfInBounds 3 (cenv.frame.elim Value.none λf=>rawInt f)))).get? b=h2.get? b:=λb hb=>Heap.get?_update_other _ _ (Ne.symm hb)
  have self':=Heap.get?_update_self (Obj.mapFields (·.setIfInBounds 3 (cenv.frame.elim Value.none λf=>rawInt f))) t2 (Obj.isFreed_of_fields (Obj.data_mapFields hdT _));obtain⟨k1,k2⟩:=J.pX t2 hdT;have hT':X.s₀.heap.objs.size<=T:=Nat.le_trans I3.sz hT;refine hx.xok H' _ e C dx fs (J.turned (it:=T) (t':=s'.toks) (λb o hb hq=>(other b hb).trans hq) hH k1 (.inr hT') k2 λp hpp=>hp p (show p ∈ X.pn by simpa using hpp)) (.inr ⟨T,hT',hH,hp,_,⟨oe,vs,_,_,(other e (Ne.symm hTe)).trans e2,hd1,h11,hTe,self',Obj.data_mapFields hdT _,by simp[hz];rfl⟩⟩) he q
 first
  |exact am fly
  |exact am (ap (am fly))
def oM {elt iter tgt:Expr}{wi:TI}{tg:TG}{tc:TT}(hc:X.calm=true)(hx:g8 X U E)(S:aC X scope cl xs fr sel)(hi:PI X tgt iter wi)
  (hg:∀ (s:Shared) (H:Hp) (fp:List Addr),PG (de X scope cl (xs++fr) s H fp E) tgt tg) (ht:∀ (s:Shared) (H:Hp) (fp:List Addr),AE (de X scope cl (xs++fr) s H fp E) ifs tc)
  (he:∀ (s:Shared) (H:Hp) (fp:List Addr),PE (de X scope cl (xs++fr) s H fp E) elt te) (hs:∀ x,foldedSetIterable iter X.env x=pure x):BP X U (.ListComp elt [⟨tgt,iter,ifs,0⟩] scope pos) (An wi tg tc te xs sel):=by
 intro Y s H Q I h;rw[eval_ListComp];refine wpAny_comprehension_free (use:=none) rfl hs S.clos S.kind S.names ?_;refine ao (hi Y s U H _ I h) λv s1 h1=>ao h1 λitv s2 h2=>?_
 obtain⟨it,fp,tn,J,H2,e,I2,T,kK,f2,h2⟩:=h2;subst e;refine wpAny_newObj_type ?_;have hD:H2 s2.heap.objs.size=none:=I2.hok.fresh (pc _);have I3:Inv X Y U (upd H2 s2.heap.objs.size (.lst [])) { s2 with heap:=s2.heap.push { cls:=.type "list",dict:=none,data:=.seq ([]:List Value).toArray } }:=
  I2.laid (t':=s2.toks) (λb u e=>ss _ e) (pc _) ⟨Nat.zero_le _,[],0,.nil,sK _ rfl⟩
 have fo2:∀ b ∈ fp,b<s2.heap.objs.size:=λb hb=>by
  obtain⟨o,ho,_⟩:=T.obj _ _ kK b hb;exact sw ho
 have f3:∀ b ∈ fp,fz X Y (upd H2 s2.heap.objs.size (.lst [])) b:=λb hb=>⟨by rw[ae (nl (fo2 b hb))];exact(f2 b hb).1,(f2 b hb).2⟩
 have st3:tn 0 (s2.heap.push { cls:=.type "list",dict:=none,data:=.seq ([]:List Value).toArray }):=T.keep _ _ _ kK λb hb o e=>ss _ e
 have fo3:∀ b ∈ fp,b<(s2.heap.push { cls:=.type "list",dict:=none,data:=.seq ([]:List Value).toArray }).objs.size:=λb hb=>by
  rw[Heap.size_push];exact Nat.lt_succ_of_lt (fo2 b hb)
 obtain⟨W,⟨m0,w0⟩,turn⟩:=h2 _ hD;generalize s2.heap.objs.size=D at*;generalize hs3:({ s2 with heap:=s2.heap.push { cls:=.type "list",dict:=none,data:=.seq ([]:List Value).toArray } }:Shared)=s3 at*;have st3':tn 0 s3.heap:=by rw[<-hs3];exact st3
 have fo3':∀ b ∈ fp,b<s3.heap.objs.size:=by rw[<-hs3];exact fo3
 refine wpAny_newFunctionEnv S.nocell (by intro y hy;simp at hy) (λh' hns hsb=>?_) S.kind;have keep:∀ b o,s3.heap.get? b=some o->h'.get? b=some o:=λb o e=>(hsb.2 b (nl (sw e))).trans (ss _ e)
 have I4:=ki (E:=E) (tk:=s3.toks+([]:List (Str×Value)).length) S I3 f3 fo3' hns keep;have st4:tn 0 h':=T.keep _ _ _ st3' λb hb o e=>keep b o e
 have stat:∀ {H':Hp},(∀ b ∈ fp,H' b=none)->∀ b ∈ fp,fz (de X scope cl (xs++fr) s3 (upd H2 D (.lst [])) fp E) Y H' b:=λ{H'} hn b hb=>
  ⟨hn b hb,nl (fo3' b hb),λz=>(lf.mp (I3.d5 b z)).elim (f3 b hb).2.1 (f3 b hb).2.2.1,.inl hb,λy c hy=>(f3 b hb).2.2.2.2.1 y c (S.sub y c hy),λp hp=>(f3 b hb).2.2.2.2.2 p hp⟩
 have loop:codeAny (model X.prog X.w) X.A (.compLoop (.ListComp elt [⟨tgt,iter,ifs,0⟩] scope pos) 0 (.ref it) (.ref D) (compEnvC scope cl s3.heap.objs.size X.env))
   (compPost (model X.prog X.w) X.A X.xe none (EP X Y U Q) (.ref D) s3.heap.objs.size) { s3 with heap:=h',toks:=s3.toks+([]:List (Str×Value)).length }:=by
  refine codeAny_loop rfl (λn s'=>∃ i σ' H',Inv (de X scope cl (xs++fr) s3 (upd H2 D (.lst [])) fp E) Y σ' H' s'/\tn i s'.heap/\(∀ b ∈ fp,H' b=none)/\W i n σ' H') (λn s5 hI=>?_) m0 ⟨0,_,_,I4,st4,λb hb=>(f3 b hb).1,w0⟩;show wpAny _ _ ((compTurn (.ListComp elt [⟨tgt,iter,ifs,0⟩] scope pos) 0 (.ref it) (.ref D) (compEnvC scope cl s3.heap.objs.size X.env)).onRaise (λx=>do noteFrame x (compEnvC scope cl s3.heap.objs.size X.env);theTreesLotGoes x)) _ _ s5;refine wpAny_noted ?_;refine mK (ht s3 (upd H2 D (.lst [])) fp).1 ?_;have bad:=lZ (scope:=scope) (cl:=cl) (xs:=xs) (fr:=fr) (P:=EP X Y U Q) (use:=none) (D:=D) hx I3 f3;obtain⟨i,σ5,H5,I5,st5,fr5,w5⟩:=hI;rcases turn i n σ5 H5 w5 with⟨stop,q⟩|⟨go,Nn,hN,step⟩
  .refine ao (T.done (de X scope cl (xs++fr) s3 (upd H2 D (.lst [])) fp E) rfl rfl rfl hc i _ s5 σ5 H5 _ I5 (stat fr5) st5 stop) λr s6 ⟨hr,I6⟩=>?_
   subst hr;obtain⟨m,hn,_⟩:=I6.loc;refine⟨m,hn,λh'' hs''=>⟨.ref D,H5,I3.mr (ch:=fp) I6.os (I6.base.sameBut hs'' (pc _)) (λb ob e=>?_) I6.bare λb hb=>⟨(f3 b hb).2.2.2.1,(f3 b hb).2.1,(f3 b hb).2.2.2.2.1,(f3 b hb).2.2.2.2.2⟩,rfl,q⟩⟩;refine(I6.hok b ob e).cW (λc w' hc' q'=>(hs''.2 c ?_).trans q') (λ_ q'=>q') λ_ _ q'=>q'
   have fC:H5 s3.heap.objs.size=none:=I6.free;intro z;rcases hc' with z2|z2
   .rw[z2]at z;rw[z,fC]at e;cases e
   .rw[z,fC]at z2;cases z2
  .have fin:∀ {σ8:St}{H10:Hp}{s10:Shared},Inv (de X scope cl (xs++fr) s3 (upd H2 D (.lst [])) fp E) Y σ8 H10 s10/\tn (i+1) s10.heap/\(∀ b ∈ fp,H10 b=none)->Nn σ8 H10->∃ m',m'<n/\∃ i σ' H',Inv (de X scope cl (xs++fr) s3 (upd H2 D (.lst [])) fp E) Y σ' H' s10/\tn i s10.heap/\(∀ b ∈ fp,H' b=none)/\W i m' σ' H':=λ⟨I,t,f⟩ nn=>by
    obtain⟨m',hm,w10⟩:=hN _ _ nn;exact⟨m',hm,i+1,_,_,I,t,f,w10⟩
   refine ao (T.item (de X scope cl (xs++fr) s3 (upd H2 D (.lst [])) fp E) rfl rfl rfl hc i _ s5 σ5 H5 _ I5 (stat fr5) st5 go) λr s6 ⟨u,hr,h6⟩=>?_
   subst hr;refine ao h6 λ_ s7 ⟨xv,H7,I7,r7,y7,st7,fr7⟩=>?_
   have I7':=I7.pinned (stat fr7) (T.obj _ _ st7);refine wpAny_mono (hg s3 _ fp _ s7 σ5 H7 xv u _ I7' r7 (step xv _ y7)) (λ_ s8 ⟨σ8,H8,I8,q8⟩=>?_) bad;refine wpAny_mono ((ht s3 _ fp).2 _ s8 σ8 H8 _ I8 q8) (λok s9 ⟨H9,I9,q9⟩=>?_) bad;have back:∀ {H10:Hp}{s10:Shared},Inv (de X scope cl (xs++fr) s3 (upd H2 D (.lst [])) fp E) _ σ8 H10 s10->Inv (de X scope cl (xs++fr) s3 (upd H2 D (.lst [])) fp E) Y σ8 H10 s10/\tn (i+1) s10.heap/\(∀ b ∈ fp,H10 b=none):=λ{H10 s10} I10=>⟨I10.cn,T.keep _ _ _ st7 λb hb o e=>(I10.pin (b,o) (gt _ (gt _ (aO hb e)))).1,λb hb=>by
    obtain⟨o,e,d⟩:=T.obj _ _ st7 b hb;exact(I10.pin (b,o) (gt _ (gt _ (aO hb e)))).2.1⟩
   refine⟨λek=>?_,λek=>ap ⟨rfl,fin (back I9) (q9.2 ek)⟩⟩;refine wpAny_mono (he s3 _ fp _ s9 _ _ _ I9 (q9.1 ek)) (λuv s10 ⟨vv,H10,I10,r10,zs,hz,hzl,n10⟩=>?_) bad;refine wpAny_mono (eA (X:=de X scope cl (xs++fr) s3 (upd H2 D (.lst [])) fp E) _ s10 _ H10 (.ref D) [vv] (.ref D) [uv] (λ_ H'=>H'=upd H10 D (.lst (zs++[vv]))) I10 rfl (.cons r10 .nil) ⟨D,zs,vv,rfl,rfl,hz,hzl,rfl⟩) (λ_ s11 ⟨_,H11,I11,_,e11⟩=>?_) bad;subst e11;exact ap ⟨rfl,fin (back I11) n10⟩
 exact codeAny_compStart_list loop (T.self _ 0 _ _ _ st4 loop)
def lC {x:Str}{px:Pos}(S:aC X scope cl [x] fr sel):PG (de X scope cl ([x]++fr) s H fp E) (.Name x px) (dA 0):=dS S.nd rfl (.inl (lookup_relabel_local (S.own x (le ..)))) (.inr (lookup_relabel_local (S.own x (le ..))))
abbrev Ci (wi:TI):TI:=λU H R=>∃ R0:It->Hp->Prop,wi U H R0/\∀ J H,R0 J H->R J H
def PI.up {tg iter:Expr}{wi:TI}(h:PI X tg iter wi):PI X tg iter (Ci wi):=λY s U H R I ⟨R0,q,m⟩=>
 ao (h Y s U H R0 I q) λv s1 h1=>wpAny_mono h1 (λitv s2 ⟨it,fp,tn,J,H',e,I,T,t0,f,r⟩=>⟨it,fp,tn,J,H',e,I,T,t0,f,m _ _ r⟩) λ_ _ e=>e
def pe {elt iter:Expr}{x:Str}{px:Pos}{wi:TI}(hc:X.calm=true)(hx:g8 X U E)(S:aC X scope cl [x] fr sel)(hi:PI X (.Name x px) iter wi)
  (he:∀ (s:Shared) (H:Hp) (fp:List Addr),PE (de X scope cl (x::fr) s H fp E) elt te) (hs:∀ x,foldedSetIterable iter X.env x=pure x):BP X U (.ListComp elt [⟨.Name x px,iter,[],0⟩] scope pos) (Cf wi te sel):=λY s H Q I h=>
 oM (tg:=dA 0) hc hx S hi.up (λs H fp=>lC S) (λ_ _ _=>jd) he hs Y s H Q I ⟨_,h,λ_ _ q=>q.g⟩
end
section
variable {U:St}{H:Hp}{Q:VK}{te tl:TE}{ta:TA}{sel:List Nat}{σ₀ rest:St}{K:W.Frag}
end
def bS {env:Env}:∀ {names:List (Str×NameKind)}{y:Str}{k':NameKind},(names.map λ(n,k)=>if(k ==NameKind.free&&env.scope.kind ==.function&&env.kindOf n ==some .cell) then(n,NameKind.cell) else(n,k)).lookup y=some k'->∃ k,(y,k) ∈ names/\(k'=k\/(k=.free/\k'=.cell))
 | [],_,_,h=>by simp at h
 |(n,k)::r,y,k',h=>by
  rw[map_cons,lookup_cons]at h
  by_cases hc:(k ==NameKind.free&&env.scope.kind ==.function&&env.kindOf n ==some .cell)=true
  .simp only[hc,if_true]at h
   by_cases e:y=n
   .subst e;simp at h;simp at hc;exact⟨k,le,.inr ⟨hc.1.1,h.symm⟩⟩
   .rw[show(y ==n)=false from beq_eq_false_iff_ne.mpr e]at h;obtain⟨k2,m,q⟩:=bS (env:=env) h;exact⟨k2,dl _ m,q⟩
  .rw[Bool.not_eq_true]at hc;simp only[hc,Bool.false_eq_true,if_false]at h
   by_cases e:y=n
   .subst e;simp at h;exact⟨k,le,.inl h.symm⟩
   .simp only[show(y ==n)=false from beq_eq_false_iff_ne.mpr e]at h;obtain⟨k2,m,q⟩:=bS (env:=env) h;exact⟨k2,dl _ m,q⟩
section
variable {K:W.Frag}
end
section
variable {K:W.Frag}{H:Hp}
end
section
variable {U:St}{H:Hp}{Q:VK}
end
abbrev notStar:Expr->Bool
 | .Starred ..=>false
 |_=>true
variable {es:List Expr}
def aa {e:Expr}{env:Env}(h:notStar e=true):bm (e::es) env=(false,eval e env)::bm es env:=by
 cases e<;>first|rfl|cases h
def gQ {e:Expr}{t:TA}(ha:PE X e te)(hr:PA X es t)(h:notStar e=true:=by rfl):PA X (e::es) (vG te t):=ux ha hr (aa h)
section
variable {X:Cx}{Y:CP}{U:St}{H:Hp}{s:Shared}{h':Heap}
end
section
variable {g:TG}{tb:TS}{D:Ends}{U:St}{H:Hp}{ta:TA}
end
section
variable {X:Cx}
end
section
variable {K:W.Frag}{r:V->List V->Hp->VK->Prop}{to:TE}{t:TA}{U:St}{H:Hp}{Q:VK}
end
section
variable {H H1 H2:Hp}{p h c:Addr}{o:HO}{m:Int}
end
section
variable {H H':Hp}{xs ys:List V}{f:Nat->Int×Int}
end
section
variable {X:Cx}{a b c d:Expr}{ta tb tc td:TE}{pos:Pos}
end
section
variable {K:W.Frag}{U:St}{H:Hp}{Q:VK}{ta tb tc td tv:TE}{t:TA}{f m:Str}{D:Ends}{C:Addr}{sp:Sp}{dvs:List V}{E:XK}
end
section
variable {g:TG}{tb:TS}{D:Ends}{U:St}{H:Hp}{ta:TA}
end
section
variable {C:Addr}{H H':Hp}{S D h c:Addr}{rs:List Rec}{r:Rec}
end
section
variable {X:Cx}
end
end L2
namespace L2
end L2
namespace L2
open PySem PySem.Spec PyProof.Rows
section
variable {C:Addr}{H HF:Hp}{S D h c:Addr}{rs:List Rec}{r':Rec}
end
section
variable {X:Cx}
end
structure Bq (K:W.Frag) (C:Addr):Prop where
 ha:W.findIn K (.ref C) "__class__"=some (some (.builtin "object.__class__"))
 hn:W.specialIn K (.builtin "object.__class__") "__get__"=some (some (.builtin "getset_descriptor.__get__"))
 htk:W.takesIn K (.builtin "object.__class__")=some true
 hm:W.mroIn K C (.type "object")=some true
end L2
namespace L2
open PySem PySem.Spec PySem.W PyProof.Rows
abbrev aL (tp:Bool)(h:Heap)(j b:Addr)(k:Nat):Prop:=match tp with
 |true=>h.IsTupleIter j b k
 |false=>h.IsListIter j b k
abbrev bp (tp:Bool)(h:Heap)(b:Addr)(xs:Array Value):Prop:=match tp with
 |true=>h.IsTuple b xs
 |false=>h.IsList b xs
variable {tp:Bool}{h:Heap}{b:Addr}{k:Nat}
def aL.to {h':Heap}{j:Addr}(g:aL tp h j b k)(e:∀ o,h.get? j=some o->h'.get? j=some o):aL tp h' j b k:=by
 cases tp
 .obtain⟨o,e1,r⟩:=(show h.IsListIter j b k from g);exact⟨o,e o e1,r⟩
 .obtain⟨o,e1,r⟩:=(show h.IsTupleIter j b k from g);exact⟨o,e o e1,r⟩
variable {xs:Array Value}
def bp.to {h':Heap}(g:bp tp h b xs)(e:∀ o,h.get? b=some o->h'.get? b=some o):bp tp h' b xs:=by
 cases tp
 .obtain⟨o,e1,r⟩:=(show h.IsList b xs from g);exact⟨o,e o e1,r⟩
 .obtain⟨o,e1,r⟩:=(show h.IsTuple b xs from g);exact⟨o,e o e1,r⟩
def aL.lt {j:Addr}(g:aL tp h j b k):j<h.objs.size:=by
 cases tp
 .obtain⟨o,e1,r⟩:=(show h.IsListIter j b k from g);exact sw e1
 .obtain⟨o,e1,r⟩:=(show h.IsTupleIter j b k from g);exact sw e1
def bp.lt (g:bp tp h b xs):b<h.objs.size:=by
 cases tp
 .obtain⟨o,e1,r⟩:=(show h.IsList b xs from g);exact sw e1
 .obtain⟨o,e1,r⟩:=(show h.IsTuple b xs from g);exact sw e1
variable {Q:Option Value->Shared->Prop}{T:Int}{fb:Bool}{oT:Obj}
section
variable {prog:Program}{w:World}{A:Around}{E:CO}{s:Shared}
def xE {j:Addr}{x:Value}{Q:CO}(g:s.heap.IsTupleIter j b k)(t:s.heap.IsTuple b xs)(hx:xs[k]? =some x)
  (q:∀ h',h'.IsTupleIter j b (k+1)->Heap.SameBut j s.heap h'->Q x { s with heap:=h' }):wpAny (model prog w) A (Builtin.SmallTypes.nextOf (.ref j)) Q E s:=by
 obtain⟨o1,e1,c1,d1⟩:=id g;obtain⟨o2,e2,_,n2,d2⟩:=t;unfold Builtin.SmallTypes.nextOf;refine am (wpAny_callSpecial?_slot (name:=Str.ofString "__next__") g.typeIs F.slot_tuple_iterator_next (wpAny_call_entry F.slot_tuple_iterator_next g.typeIs F.entry_tuple_iterator_next ?_ (F.args_tuple_iterator_next_1 _)));show wpAny _ _ (field (.ref j) 0 >>= _) _ _ s;refine am (bd e1 d1 (x:=.ref b) rfl ?_);show wpAny _ _ (if(Value.ref b ==Value.none)=true then _ else _) _ _ s;rw[if_neg (show ¬ ((Value.ref b ==Value.none)=true) from Bool.false_ne_true)];show wpAny _ _ (field (.ref j) 1 >>= _) _ _ s;refine am (bd e1 d1 (x:=.int k 0) rfl ?_);show wpAny _ _ (seqItems? (.ref b) >>= _) _ _ s;refine am (wpAny_seqItems e2 d2 ?_);simp only[pi,hx];refine am (wpAny_setField e1 d1 (by simp) (ap ⟨x,rfl,ap (q _ ?_ (Heap.SameBut.update ..))⟩));refine⟨_,Heap.get?_update_self _ e1 (Obj.isFreed_of_fields (Obj.data_mapFields d1 _)),(Obj.cls_mapFields ..).trans c1,?_⟩;rw[Obj.data_mapFields d1];simp[rawInt]
def uq {j:Addr}{Q:CO}(hh:A.handled=none)(g:s.heap.IsTupleIter j b k)(t:s.heap.IsTuple b xs)(hx:xs[k]? =none)
  (q:∀ h' e,Heap.ExtBut j s.heap h'->(∃ o,h'.get? e=some o/\o.cls=.type "StopIteration")->E (.ref e) { s with heap:=h' }):wpAny (model prog w) A (Builtin.SmallTypes.nextOf (.ref j)) Q E s:=by
 obtain⟨o1,e1,c1,d1⟩:=id g;obtain⟨o2,e2,_,n2,d2⟩:=t;unfold Builtin.SmallTypes.nextOf;refine am (wpAny_callSpecial?_slot (name:=Str.ofString "__next__") g.typeIs F.slot_tuple_iterator_next (wpAny_call_entry F.slot_tuple_iterator_next g.typeIs F.entry_tuple_iterator_next ?_ (F.args_tuple_iterator_next_1 _)));show wpAny _ _ (field (.ref j) 0 >>= _) _ _ s;refine am (bd e1 d1 (x:=.ref b) rfl ?_);show wpAny _ _ (if(Value.ref b ==Value.none)=true then _ else _) _ _ s;rw[if_neg (show ¬ ((Value.ref b ==Value.none)=true) from Bool.false_ne_true)];show wpAny _ _ (field (.ref j) 1 >>= _) _ _ s;refine am (bd e1 d1 (x:=.int k 0) rfl ?_);show wpAny _ _ (seqItems? (.ref b) >>= _) _ _ s;refine am (wpAny_seqItems e2 d2 ?_);simp only[pi,hx];refine am (wpAny_rule (am (wpAny_setField e1 d1 (by simp) ?_)));show wpAny _ _ (newExc (.type "StopIteration") [] >>= _) _ _ _;refine am ?_;simp only[newExc,newTuple];refine am (wpAny_newObj_type ?_ (by size_fits));refine am (m:=firstArgMember _ _) (wpAny_of_eq (a:=Value.none) (by first|rfl|(simp only[firstArgMember];rfl)) ?_);refine wpAny_newObj_type ?_ (by size_fits);simp only[raiseNew];refine am (wpAny_handled ?_);first|rw[show A.in1.handled=none from hh]|rw[hh]
 refine am (ap (wpAny_throw ?_));exact q _ _ (((Heap.SameBut.update ..).extBut.push _).push _) ⟨_,sK _ rfl,rfl⟩
def cG {j:Addr}{x:Value}{Q:CO}(g:aL tp s.heap j b k)(t:bp tp s.heap b xs)(hx:xs[k]? =some x)
  (q:∀ h',aL tp h' j b (k+1)->Heap.SameBut j s.heap h'->Q x { s with heap:=h' }):wpAny (model prog w) A (Builtin.SmallTypes.nextOf (.ref j)) Q E s:=by
 cases tp
 .exact wpAny_nextOf_list_item g t hx q
 .exact xE g t hx q
def iB {j:Addr}{Q:CO}(hh:A.handled=none)(g:aL tp s.heap j b k)(t:bp tp s.heap b xs)(hx:xs[k]? =none)
  (q:∀ h' e,Heap.ExtBut j s.heap h'->(∃ o,h'.get? e=some o/\o.cls=.type "StopIteration")->E (.ref e) { s with heap:=h' }):wpAny (model prog w) A (Builtin.SmallTypes.nextOf (.ref j)) Q E s:=by
 cases tp
 .exact wpAny_nextOf_list_end hh g t hx q
 .exact uq hh g t hx q
@[reducible]def bw (h:Heap) (z TI TO:Addr) (f0 f1:Value):Prop:=h.get? z=some { cls:=.type "zip",dict:=none,data:=.fields #[f0,f1,.bool false,.ref TI,.ref TO],slots:=#[] }
variable {z TI TO i1 i2 l1 l2:Addr}{k1 k2:Nat}{tp1 tp2:Bool}{xs ys:Array Value}{x y a b f1:Value}
def uf (D:ZipApart z TI TO i1 i2 l1 l2)(hz:bw s.heap z TI TO .none f1)(hI:IsPair s.heap TI (.ref i1) (.ref i2))(hO:IsPair s.heap TO a b)
  (g1:aL tp1 s.heap i1 l1 k1) (g2:aL tp2 s.heap i2 l2 k2) (t1:bp tp1 s.heap l1 xs) (t2:bp tp2 s.heap l2 ys) (hx:xs[k1]? =some x) (hy:ys[k2]? =some y)
  (q:∀ h',bw h' z TI TO (rawInt s.heap.objs.size) (.bool false)->IsPair h' TO x y->aL tp1 h' i1 l1 (k1+1)->aL tp2 h' i2 l2 (k2+1)->IsPair h' s.heap.objs.size x y->h'.objs.size=s.heap.objs.size+1->
   (∀ c o,c≠z->c≠TO->c≠i1->c≠i2->s.heap.get? c=some o->h'.get? c=some o)->Q (some (.ref s.heap.objs.size)) { s with heap:=h' }):wpAny (model prog w) A (pyNext (.ref z)) Q E s:=by
 have hZ:s.TypeIs (.ref z) "zip":=⟨_,hz,rfl⟩;unfold pyNext;refine am (wpAny_attempt (wpAny_callSpecial?_slot (name:=Str.ofString "__next__") hZ F.slot_zip_next (wpAny_call_entry F.slot_zip_next hZ F.entry_zip_next ?_ (F.args_zip_next_1 _))));show wpAny _ _ (field (.ref z) 2 >>= _) _ _ _;refine am (bd (x:=.bool false) hz rfl rfl ?_);show wpAny _ _ (field (.ref z) 3 >>= _) _ _ _;refine am (bd (x:=.ref TI) hz rfl rfl ?_);refine am (wpAny_seqItems hI rfl ?_);show wpAny _ _ (Builtin.SmallTypes.ownedTupleIsFree (.ref z) >>= _) _ _ _;refine am ?_;unfold Builtin.SmallTypes.ownedTupleIsFree;refine am (bd (x:=.none) hz rfl rfl (ap ?_));simp only[if_true];refine am (wpAny_rule ?_);refine am (bd (x:=.ref TO) hz rfl rfl ?_);refine am (wpAny_setField_rec hz (by simp) λp1 z1 b1=>?_)
 replace z1:bw p1 z TI TO .ellipsis f1:=z1
 refine am ?_;simp only[List.zipIdx_cons,List.zipIdx_nil,forIn_cons,forIn_nil];refine am (am (wpAny_onRaise ?_));show wpAny _ _ (Builtin.SmallTypes.nextOf (.ref i1) >>= _) _ _ _;refine am (cG (g1.to λo e=>b1.extBut _ o D.i1z e) (t1.to λo e=>b1.extBut _ o D.l1z e) hx λp2 g1b b2=>ap ?_);have hO2:IsPair p2 TO a b:=b2.extBut _ _ D.TOi1 (b1.extBut _ _ D.TOz hO);refine am (wpAny_seqItems hO2 rfl ?_);refine am (wpAny_updateSeq_pair hO2 λp3 hO3 b3=>?_)
 replace hO3:IsPair p3 TO x b:=hO3
 refine am (wpAny_letGo (ap ?_));refine am (am (wpAny_onRaise ?_));show wpAny _ _ (Builtin.SmallTypes.nextOf (.ref i2) >>= _) _ _ _;refine am (cG (g2.to λo e=>b3.extBut _ o D.TOi2.symm (b2.extBut _ o D.i12.symm (b1.extBut _ o D.i2z e))) (t2.to λo e=>b3.extBut _ o D.l2TO (b2.extBut _ o D.l2i1 (b1.extBut _ o D.l2z e))) hy λp4 g2b b4=>ap ?_);have hO4:IsPair p4 TO x b:=b4.extBut _ _ D.TOi2 hO3;refine am (wpAny_seqItems hO4 rfl ?_);refine am (wpAny_updateSeq_pair hO4 λp5 hO5 b5=>?_)
 replace hO5:IsPair p5 TO x y:=hO5
 refine am (wpAny_letGo (ap (ap ?_)));refine am (wpAny_seqItems hO5 rfl ?_);refine am (wpAny_newTuple ?_);have hsz:p5.objs.size=s.heap.objs.size:=by rw[b5.1,b4.1,b3.1,b2.1,b1.1]
 have z5:bw p5 z TI TO .ellipsis f1:=b5.extBut _ _ D.TOz.symm (b4.extBut _ _ D.i2z.symm (b3.extBut _ _ D.TOz.symm (b2.extBut _ _ D.i1z.symm z1)));have k5:∀ c o,c≠z->c≠TO->c≠i1->c≠i2->s.heap.get? c=some o->p5.get? c=some o:=λc o n1 n2 n3 n4 e=>b5.extBut _ _ n2 (b4.extBut _ _ n4 (b3.extBut _ _ n2 (b2.extBut _ _ n3 (b1.extBut _ _ n1 e))))
 have g15:aL tp1 p5 i1 l1 (k1+1):=g1b.to λo e=>b5.extBut _ o D.TOi1.symm (b4.extBut _ o D.i12 (b3.extBut _ o D.TOi1.symm e))
 have g25:aL tp2 p5 i2 l2 (k2+1):=g2b.to λo e=>b5.extBut _ o D.TOi2.symm e
 have zlt:z<p5.objs.size:=sw z5;show wpAny _ _ (Builtin.SmallTypes.ownedTupleHandOut (.ref z) (.ref p5.objs.size) >>= _) _ _ _;refine am ?_;unfold Builtin.SmallTypes.ownedTupleHandOut;have z6:bw (p5.push { cls:=.type "tuple",data:=.seq #[x,y] }) z TI TO .ellipsis f1:=ss _ z5;refine am (wpAny_setField_rec z6 (by simp) λp7 z7 b7=>?_)
 replace z7:bw p7 z TI TO (rawInt p5.objs.size) f1:=z7
 refine wpAny_setField_rec z7 (by simp) λp8 z8 b8=>?_
 replace z8:bw p8 z TI TO (rawInt p5.objs.size) (.bool false):=z8
 have up:∀ c o,c≠z->p5.get? c=some o->p8.get? c=some o:=λc o n1 e=>b8.extBut _ _ n1 (b7.extBut _ _ n1 (ss _ e))
 have hT:IsPair p8 p5.objs.size x y:=b8.extBut _ _ (Nat.ne_of_gt zlt) (b7.extBut _ _ (Nat.ne_of_gt zlt) (sK _ rfl));have h8:p8.objs.size=p5.objs.size+1:=by rw[b8.1,b7.1,Heap.size_push]
 rw[hsz]at z8 hT h8;refine ap ⟨_,rfl,?_⟩;rw[hsz];exact ap (q p8 z8 (up _ _ D.TOz hO5) (g15.to λo e=>up _ o D.i1z e) (g25.to λo e=>up _ o D.i2z e) hT h8 λc o n1 n2 n3 n4 e=>up c o n1 (k5 c o n1 n2 n3 n4 e))
def v7 {Q:Fin->Shared->Prop}(hh:A.handled=none)(D:ZipApart z TI TO i1 i2 l1 l2)(hz:bw s.heap z TI TO .none f1)(hI:IsPair s.heap TI (.ref i1) (.ref i2))(hO:IsPair s.heap TO a b)
  (g1:aL tp1 s.heap i1 l1 k1) (g2:aL tp2 s.heap i2 l2 k2) (t1:bp tp1 s.heap l1 xs) (t2:bp tp2 s.heap l2 ys) (hx:xs[k1]? =none\/ys[k2]? =none)
  (q:∀ h' e,(∀ c o,c≠z->c≠TO->c≠i1->c≠i2->s.heap.get? c=some o->h'.get? c=some o)->(∃ o,h'.get? e=some o/\o.cls=.type "StopIteration")->E (.ref e) { s with heap:=h' }):
  wpAny (model prog w) A (Builtin.«zip.__next__» ⟨[.ref z],[]⟩) Q E s:=by
 show wpAny _ _ (field (.ref z) 2 >>= _) _ _ _;refine am (bd (x:=.bool false) hz rfl rfl ?_);show wpAny _ _ (field (.ref z) 3 >>= _) _ _ _;refine am (bd (x:=.ref TI) hz rfl rfl ?_);refine am (wpAny_seqItems hI rfl ?_);show wpAny _ _ (Builtin.SmallTypes.ownedTupleIsFree (.ref z) >>= _) _ _ _;refine am ?_;unfold Builtin.SmallTypes.ownedTupleIsFree;refine am (bd (x:=.none) hz rfl rfl (ap ?_));simp only[if_true];refine am (wpAny_rule ?_);refine am (bd (x:=.ref TO) hz rfl rfl ?_);refine am (wpAny_setField_rec hz (by simp) λp1 z1 b1=>?_)
 replace z1:bw p1 z TI TO .ellipsis f1:=z1
 refine am ?_;simp only[List.zipIdx_cons,List.zipIdx_nil,forIn_cons,forIn_nil];refine am (am (wpAny_onRaise ?_));show wpAny _ _ (Builtin.SmallTypes.nextOf (.ref i1) >>= _) _ _ _;cases e1:xs[k1]? with
 |none=>
  refine am (iB hh (g1.to λo e=>b1.extBut _ o D.i1z e) (t1.to λo e=>b1.extBut _ o D.l1z e) e1 λp2 e b2 he=>?_);obtain⟨oe,ho,hc⟩:=he;have z2:bw p2 z TI TO .ellipsis f1:=b2 _ _ D.i1z.symm z1;have ne:e≠z:=λn=>by subst n;rw[z2]at ho;cases ho;simp at hc
  exact wpAny_setField_rec z2 (by simp) λp3 _ b3=>q p3 e (λc o n1 _ n3 _ v=>b3.extBut _ _ n1 (b2 _ _ n3 (b1.extBut _ _ n1 v))) ⟨oe,b3.extBut _ _ ne ho,hc⟩
 |some x=>
  have e2:ys[k2]? =none:=by rcases hx with h|h;(rw[e1]at h;cases h);exact h
  refine am (cG (g1.to λo e=>b1.extBut _ o D.i1z e) (t1.to λo e=>b1.extBut _ o D.l1z e) e1 λp2 g1b b2=>ap ?_);have hO2:IsPair p2 TO a b:=b2.extBut _ _ D.TOi1 (b1.extBut _ _ D.TOz hO);refine am (wpAny_seqItems hO2 rfl ?_);refine am (wpAny_updateSeq_pair hO2 λp3 hO3 b3=>?_);refine am (wpAny_letGo (ap ?_));refine am (am (wpAny_onRaise ?_));show wpAny _ _ (Builtin.SmallTypes.nextOf (.ref i2) >>= _) _ _ _;refine am (iB hh (g2.to λo e=>b3.extBut _ o D.TOi2.symm (b2.extBut _ o D.i12.symm (b1.extBut _ o D.i2z e))) (t2.to λo e=>b3.extBut _ o D.l2TO (b2.extBut _ o D.l2i1 (b1.extBut _ o D.l2z e))) e2 λp4 e b4 he=>?_);obtain⟨oe,ho,hc⟩:=he;have z4:bw p4 z TI TO .ellipsis f1:=b4 _ _ D.i2z.symm (b3.extBut _ _ D.TOz.symm (b2.extBut _ _ D.i1z.symm z1));have ne:e≠z:=λn=>by subst n;rw[z4]at ho;cases ho;simp at hc
  exact wpAny_setField_rec z4 (by simp) λp5 _ b5=>q p5 e (λc o n1 n2 n3 n4 v=>b5.extBut _ _ n1 (b4 _ _ n4 (b3.extBut _ _ n2 (b2.extBut _ _ n3 (b1.extBut _ _ n1 v))))) ⟨oe,b5.extBut _ _ ne ho,hc⟩
def jS {c:Addr}{Q:Option Obj->Shared->Prop}(h:Q (s.heap.get? c) s):wpAny (model prog w) A (loadIfAlive c) Q E s:=λ_ _ _=>h
variable {t:Tok}
def jM {Q:Bool->Shared->Prop}(hz:bw s.heap z TI TO (.int T t) (.bool fb))(hT:s.heap.get? T.toNat=some oT)(q:∀ h',bw h' z TI TO (.int T t) (.bool true)->Heap.SameBut z s.heap h'->Q false { s with heap:=h' }):
  wpAny (model prog w) A (Builtin.SmallTypes.ownedTupleIsFree (.ref z)) Q E s:=by
 unfold Builtin.SmallTypes.ownedTupleIsFree;refine am (bd (x:=.int T t) hz rfl rfl ?_);refine am (jS ?_);rw[hT];refine am (bd (x:=.bool fb) hz rfl rfl ?_);cases fb
 .refine am (wpAny_setField_rec hz (by simp) λp1 z1 b1=>ap ?_);exact q p1 z1 b1
 .exact am (ap (ap (q s.heap hz (Heap.SameBut.refl ..))))
def tD (D:ZipApart z TI TO i1 i2 l1 l2)(hz:bw s.heap z TI TO (.int T t) (.bool fb))(hT:s.heap.get? T.toNat=some oT)(hI:IsPair s.heap TI (.ref i1) (.ref i2))
  (g1:aL tp1 s.heap i1 l1 k1) (g2:aL tp2 s.heap i2 l2 k2) (t1:bp tp1 s.heap l1 xs) (t2:bp tp2 s.heap l2 ys) (hx:xs[k1]? =some x) (hy:ys[k2]? =some y)
  (q:∀ h',bw h' z TI TO (.int T t) (.bool true)->aL tp1 h' i1 l1 (k1+1)->aL tp2 h' i2 l2 (k2+1)->IsPair h' s.heap.objs.size x y->h'.objs.size=s.heap.objs.size+1->
   (∀ c o,c≠z->c≠i1->c≠i2->s.heap.get? c=some o->h'.get? c=some o)->Q (some (.ref s.heap.objs.size)) { s with heap:=h' }):wpAny (model prog w) A (pyNext (.ref z)) Q E s:=by
 have hZ:s.TypeIs (.ref z) "zip":=⟨_,hz,rfl⟩;unfold pyNext;refine am (wpAny_attempt (wpAny_callSpecial?_slot (name:=Str.ofString "__next__") hZ F.slot_zip_next (wpAny_call_entry F.slot_zip_next hZ F.entry_zip_next ?_ (F.args_zip_next_1 _))));show wpAny _ _ (field (.ref z) 2 >>= _) _ _ _;refine am (bd (x:=.bool false) hz rfl rfl ?_);show wpAny _ _ (field (.ref z) 3 >>= _) _ _ _;refine am (bd (x:=.ref TI) hz rfl rfl ?_);refine am (wpAny_seqItems hI rfl ?_);show wpAny _ _ (Builtin.SmallTypes.ownedTupleIsFree (.ref z) >>= _) _ _ _;refine am (jM hz hT λp1 z1 b1=>?_);simp only[Bool.false_eq_true,if_false];simp only[List.forIn_toArray,forIn_cons,forIn_nil];refine am (am (am (be ?_)));show wpAny _ _ (Builtin.SmallTypes.nextOf (.ref i1) >>= _) _ _ _;refine am (cG (g1.to λo e=>b1.extBut _ o D.i1z e) (t1.to λo e=>b1.extBut _ o D.l1z e) hx λp2 g1b b2=>ap (ap ?_));dsimp only;refine am (am (be ?_));show wpAny _ _ (Builtin.SmallTypes.nextOf (.ref i2) >>= _) _ _ _;refine am (cG (g2.to λo e=>b2.extBut _ o D.i12.symm (b1.extBut _ o D.i2z e)) (t2.to λo e=>b2.extBut _ o D.l2i1 (b1.extBut _ o D.l2z e)) hy λp3 g2b b3=>ap (ap (ap ?_)));dsimp only;refine am (wpAny_newTuple ?_ (hsz:=fits (nb rfl)));have hsz:p3.objs.size=s.heap.objs.size:=by rw[b3.1,b2.1,b1.1]
 refine ap ⟨_,rfl,?_⟩;have z3:bw p3 z TI TO (.int T t) (.bool true):=b3.extBut _ _ D.i2z.symm (b2.extBut _ _ D.i1z.symm z1);rw[hsz];refine ap (q _ (ss _ z3) (g1b.to λo e=>ss _ (b3.extBut _ o D.i12 e)) (g2b.to λo e=>ss _ e) (by rw[<-hsz];exact sK _ rfl) (by rw[Heap.size_push,hsz]) λc o n1 n2 n3 e=>?_);exact ss _ (b3.extBut _ _ n3 (b2.extBut _ _ n2 (b1.extBut _ _ n1 e)))
def pj {Q:Fin->Shared->Prop}(hh:A.handled=none)(D:ZipApart z TI TO i1 i2 l1 l2)(hz:bw s.heap z TI TO (.int T t) (.bool fb))(hT:s.heap.get? T.toNat=some oT)(hI:IsPair s.heap TI (.ref i1) (.ref i2))
  (g1:aL tp1 s.heap i1 l1 k1) (g2:aL tp2 s.heap i2 l2 k2) (t1:bp tp1 s.heap l1 xs) (t2:bp tp2 s.heap l2 ys) (hx:xs[k1]? =none\/ys[k2]? =none)
  (q:∀ h' e,(∀ c o,c≠z->c≠i1->c≠i2->s.heap.get? c=some o->h'.get? c=some o)->(∃ o,h'.get? e=some o/\o.cls=.type "StopIteration")->E (.ref e) { s with heap:=h' }):
  wpAny (model prog w) A (Builtin.«zip.__next__» ⟨[.ref z],[]⟩) Q E s:=by
 show wpAny _ _ (field (.ref z) 2 >>= _) _ _ _;refine am (bd (x:=.bool false) hz rfl rfl ?_);show wpAny _ _ (field (.ref z) 3 >>= _) _ _ _;refine am (bd (x:=.ref TI) hz rfl rfl ?_);refine am (wpAny_seqItems hI rfl ?_);show wpAny _ _ (Builtin.SmallTypes.ownedTupleIsFree (.ref z) >>= _) _ _ _;refine am (jM hz hT λp1 z1 b1=>?_);simp only[Bool.false_eq_true,if_false];simp only[List.forIn_toArray,forIn_cons,forIn_nil];refine am (am (am (be ?_)));show wpAny _ _ (Builtin.SmallTypes.nextOf (.ref i1) >>= _) _ _ _;cases e1:xs[k1]? with
 |none=>exact am (iB hh (g1.to λo e=>b1.extBut _ o D.i1z e) (t1.to λo e=>b1.extBut _ o D.l1z e) e1 λp2 e b2 he=>q p2 e (λc o n1 n2 n3 v=>b2 _ _ n2 (b1.extBut _ _ n1 v)) he)
 |some x=>
  have e2:ys[k2]? =none:=by rcases hx with h|h;(rw[e1]at h;cases h);exact h
  refine am (cG (g1.to λo e=>b1.extBut _ o D.i1z e) (t1.to λo e=>b1.extBut _ o D.l1z e) e1 λp2 g1b b2=>ap (ap ?_));dsimp only;refine am (am (be ?_));show wpAny _ _ (Builtin.SmallTypes.nextOf (.ref i2) >>= _) _ _ _;exact am (iB hh (g2.to λo e=>b2.extBut _ o D.i12.symm (b1.extBut _ o D.i2z e)) (t2.to λo e=>b2.extBut _ o D.l2i1 (b1.extBut _ o D.l2z e)) e2 λp4 e b4 he=>q p4 e (λc o n1 n2 n3 v=>b4 _ _ n3 (b2.extBut _ _ n2 (b1.extBut _ _ n1 v))) he)
def yh (hh:A.handled=none)(D:ZipApart z TI TO i1 i2 l1 l2)(hz:bw s.heap z TI TO .none f1)(hI:IsPair s.heap TI (.ref i1) (.ref i2))(hO:IsPair s.heap TO a b)
  (g1:aL tp1 s.heap i1 l1 k1) (g2:aL tp2 s.heap i2 l2 k2) (t1:bp tp1 s.heap l1 xs) (t2:bp tp2 s.heap l2 ys) (hx:xs[k1]? =none\/ys[k2]? =none)
  (q:∀ h',(∀ c o,c≠z->c≠TO->c≠i1->c≠i2->s.heap.get? c=some o->h'.get? c=some o)->Q none { s with heap:=h' }):wpAny (model prog w) A (pyNext (.ref z)) Q E s:=by
 have hT:s.TypeIs (.ref z) "zip":=⟨_,hz,rfl⟩;unfold pyNext;refine am (wpAny_attempt (wpAny_callSpecial?_slot (name:=Str.ofString "__next__") hT F.slot_zip_next (wpAny_call_entry F.slot_zip_next hT F.entry_zip_next (v7 hh D hz hI hO g1 g2 t1 t2 hx λh' e k ⟨o,ho,hc⟩=>?_) (F.args_zip_next_1 _))));exact am (wpAny_isInstance (T:="StopIteration") (b:=true) ⟨o,ho,hc⟩ isSubtype_stop (ap (q _ k)))
def pJ (hh:A.handled=none)(D:ZipApart z TI TO i1 i2 l1 l2)(hz:bw s.heap z TI TO (.int T t) (.bool fb))(hT:s.heap.get? T.toNat=some oT)(hI:IsPair s.heap TI (.ref i1) (.ref i2))
  (g1:aL tp1 s.heap i1 l1 k1) (g2:aL tp2 s.heap i2 l2 k2) (t1:bp tp1 s.heap l1 xs) (t2:bp tp2 s.heap l2 ys) (hx:xs[k1]? =none\/ys[k2]? =none)
  (q:∀ h',(∀ c o,c≠z->c≠i1->c≠i2->s.heap.get? c=some o->h'.get? c=some o)->Q none { s with heap:=h' }):wpAny (model prog w) A (pyNext (.ref z)) Q E s:=by
 have hT':s.TypeIs (.ref z) "zip":=⟨_,hz,rfl⟩;unfold pyNext;refine am (wpAny_attempt (wpAny_callSpecial?_slot (name:=Str.ofString "__next__") hT' F.slot_zip_next (wpAny_call_entry F.slot_zip_next hT' F.entry_zip_next (pj hh D hz hT hI g1 g2 t1 t2 hx λh' e k ⟨o,ho,hc⟩=>?_) (F.args_zip_next_1 _))));exact am (wpAny_isInstance (T:="StopIteration") (b:=true) ⟨o,ho,hc⟩ isSubtype_stop (ap (q _ k)))
end
section
variable {prog:Program}{w:World}{A:Around}{E:CO}{s:Shared}{a:Addr}{vs:Array Value}
end
structure Zs (h:Heap) (tp1 tp2:Bool) (z TI TO i1 i2 l1 l2:Addr) (i:Nat) (xs ys:Array Value):Prop where
 zo:(∃ f1,bw h z TI TO .none f1)\/∃ (T:Int) (fb:Bool) (o:Obj),bw h z TI TO (rawInt T) (.bool fb)/\h.get? T.toNat=some o/\T.toNat≠z/\T.toNat≠TO/\T.toNat≠i1/\T.toNat≠i2
 hI:IsPair h TI (.ref i1) (.ref i2)
 hO:∃ a b,IsPair h TO a b
 g1:aL tp1 h i1 l1 i
 g2:aL tp2 h i2 l2 i
 t1:bp tp1 h l1 xs
 t2:bp tp2 h l2 ys
variable {d:Addr}
section
variable {prog:Program}{w:World}{A:Around}{E:CO}{s:Shared}{tp1 tp2:Bool}{z TI TO i1 i2 l1 l2:Addr}{i:Nat}{xs ys:Array Value}{x y:Value}
def Zs.next (D:ZipApart z TI TO i1 i2 l1 l2)(Z:Zs s.heap tp1 tp2 z TI TO i1 i2 l1 l2 i xs ys)(hx:xs[i]? =some x)(hy:ys[i]? =some y)
  (q:∀ h',Zs h' tp1 tp2 z TI TO i1 i2 l1 l2 (i+1) xs ys->IsPair h' s.heap.objs.size x y->h'.objs.size=s.heap.objs.size+1->(∀ c o,c≠z->c≠TO->c≠i1->c≠i2->s.heap.get? c=some o->h'.get? c=some o)->Q (some (.ref s.heap.objs.size)) { s with heap:=h' }):
  wpAny (model prog w) A (pyNext (.ref z)) Q E s:=by
 obtain⟨zo,hI,⟨a,b,hO⟩,g1,g2,t1,t2⟩:=Z;have n0:∀ {c o},s.heap.get? c=some o->s.heap.objs.size≠c:=λe=>Nat.ne_of_gt (sw e)
 rcases zo with⟨f1,hz⟩|⟨T,fb,o,hz,hT,n1,n2,n3,n4⟩
 .refine uf D hz hI hO g1 g2 t1 t2 hx hy λh' z1 o1 j1 j2 p1 sz k=>?_
  refine q h' ⟨.inr ⟨s.heap.objs.size,false,_,z1,p1,n0 hz,n0 hO,Nat.ne_of_gt g1.lt,Nat.ne_of_gt g2.lt⟩,k _ _ D.TIz D.TITO D.TIi1 D.TIi2 hI,⟨_,_,o1⟩,j1,j2,t1.to λo e=>k _ o D.l1z D.l1TO D.l1i1 D.l1i2 e,t2.to λo e=>k _ o D.l2z D.l2TO D.l2i1 D.l2i2 e⟩ p1 sz k
 .refine tD D hz hT hI g1 g2 t1 t2 hx hy λh' z1 j1 j2 p1 sz k=>?_
  exact q h' ⟨.inr ⟨T,true,o,z1,k _ _ n1 n3 n4 hT,n1,n2,n3,n4⟩,k _ _ D.TIz D.TIi1 D.TIi2 hI,⟨a,b,k _ _ D.TOz D.TOi1 D.TOi2 hO⟩,j1,j2,t1.to λo e=>k _ o D.l1z D.l1i1 D.l1i2 e,t2.to λo e=>k _ o D.l2z D.l2i1 D.l2i2 e⟩ p1 sz λc o m1 _ m3 m4 e=>k c o m1 m3 m4 e
def Zs.stop (hh:A.handled=none)(D:ZipApart z TI TO i1 i2 l1 l2)(Z:Zs s.heap tp1 tp2 z TI TO i1 i2 l1 l2 i xs ys)(hx:xs[i]? =none\/ys[i]? =none)
  (q:∀ h',(∀ c o,c≠z->c≠TO->c≠i1->c≠i2->s.heap.get? c=some o->h'.get? c=some o)->Q none { s with heap:=h' }):wpAny (model prog w) A (pyNext (.ref z)) Q E s:=by
 obtain⟨zo,hI,⟨a,b,hO⟩,g1,g2,t1,t2⟩:=Z;rcases zo with⟨f1,hz⟩|⟨T,fb,o,hz,hT,_⟩
 .exact yh hh D hz hI hO g1 g2 t1 t2 hx q
 .exact pJ hh D hz hT hI g1 g2 t1 t2 hx λh' k=>q h' λc o m1 _ m3 m4 e=>k c o m1 m3 m4 e
def Zs.keep {h':Heap}(Z:Zs h tp1 tp2 z TI TO i1 i2 l1 l2 i xs ys)(k:∀ c o,h.get? c=some o->c≠d->h'.get? c=some o) (n:d≠z/\d≠TI/\d≠TO/\d≠i1/\d≠i2/\d≠l1/\d≠l2) (hd:∃ o,h'.get? d=some o):Zs h' tp1 tp2 z TI TO i1 i2 l1 l2 i xs ys:=by
 obtain⟨zo,hI,⟨a,b,hO⟩,g1,g2,t1,t2⟩:=Z;obtain⟨m1,m2,m3,m4,m5,m6,m7⟩:=n;refine⟨?_,k _ _ hI m2.symm,⟨a,b,k _ _ hO m3.symm⟩,g1.to λo e=>k _ o e m4.symm,g2.to λo e=>k _ o e m5.symm,t1.to λo e=>k _ o e m6.symm,t2.to λo e=>k _ o e m7.symm⟩;rcases zo with⟨f1,hz⟩|⟨T,fb,o,hz,hT,r⟩
 .exact .inl ⟨f1,k _ _ hz m1.symm⟩
 .by_cases e:T.toNat=d
  .obtain⟨o',ho⟩:=hd;exact .inr ⟨T,fb,o',k _ _ hz m1.symm,by rw[e];exact ho,r⟩
  .exact .inr ⟨T,fb,o,k _ _ hz m1.symm,k _ _ hT e,r⟩
end
section
variable {prog:Program}{w:World}{A:Around}{tp1 tp2:Bool}{z TI TO i1 i2 l1 l2 d:Addr}{xs ys:Array Value}{Ky:Type} [DecidableEq Ky] {knd:KeyKind prog w Ky}
end
section
variable {X:Cx}{Y:CP}{U:St}{H:Hp}{s:Shared}{a:Addr}{kvs:List (Key×V)}{A:Around}{E:CO}
end
variable {A:Around}
section
variable {X:Cx}{Y:CP}{U:St}{H:Hp}{s:Shared}
def ku {x:V}{u t:Value}(I:Inv X Y U H s)(rx:RelV x u)(ty:dC X.K H x t):∃ P:Heap->Prop,KitX X.K u t P/\P s.heap/\u≠.builtin "__main__.__loader__#opaque":=by
 cases ty with
 |non=>cases(show u=Value.none from rx);exact⟨_,kitx_none,True.intro,λz=>nomatch z⟩
 |bl y=>cases(show u=Value.bool y from rx);exact⟨_,kitx_bool,True.intro,λz=>nomatch z⟩
 |int i=>obtain⟨t,q⟩:=(show ∃ t,u=Value.int i t from rx);cases q;exact⟨_,kitx_int,True.intro,λz=>nomatch z⟩
 |str y=>obtain⟨t,q⟩:=(show ∃ t,u=Value.str y t from rx);cases q;exact⟨_,kitx_str,True.intro,λz=>nomatch z⟩
 |flt y=>obtain⟨t,q⟩:=(show ∃ t,u=Value.float y t from rx);cases q;exact⟨_,kitx_float,True.intro,λz=>nomatch z⟩
 | @lst a xs ea=>
  cases(show u=Value.ref a from rx);obtain⟨_,_,n,_,h1⟩:=(show ai X.prog X.w H s.heap a (.lst xs) from I.hok a _ ea);exact⟨_,kitx_list,⟨_,h1,rfl⟩,λz=>nomatch z⟩
 | @fL a ob xs ea=>
  cases(show u=Value.ref a from rx);obtain⟨_,_,_,n,_,h1⟩:=(show ai X.prog X.w H s.heap a (.fL ob (.lst xs)) from I.hok a _ ea);exact⟨_,kitx_list,⟨_,h1,rfl⟩,λz=>nomatch z⟩
 | @tup a xs ea=>
  cases(show u=Value.ref a from rx);obtain⟨_,_,_,p⟩:=(show ai X.prog X.w H s.heap a (.tup xs) from I.hok a _ ea);obtain⟨o,h1,h2,_⟩:=p;exact⟨_,kitx_tuple,⟨o,h1,h2⟩,λz=>nomatch z⟩
 | @dK a kvs ea=>
  cases(show u=Value.ref a from rx);obtain⟨_,_,vs,_,p⟩:=(show ai X.prog X.w H s.heap a (.dK kvs) from ea.ok I.hok);obtain⟨o,es,ep,h1,h2,_⟩:=p;exact⟨_,kitx_dict,⟨o,h1,h2.1⟩,λz=>nomatch z⟩
 | @dT a kvs ea=>
  cases(show u=Value.ref a from rx);obtain⟨_,_,xs,_,o,es,ep,h1,h2,_⟩:=(show ai X.prog X.w H s.heap a (.dT kvs) from I.hok a _ ea);exact⟨_,kitx_dict,⟨o,h1,h2.1⟩,λz=>nomatch z⟩
 | @ins a C dx fs ea cl ha hn htk hm=>
  cases(show u=Value.ref a from rx);obtain⟨mA,O,_⟩:=cJ I.hok ea;obtain⟨od,J,_⟩:=O.look;exact⟨_,kitx_own (cl.get _) cl.hd ha hn htk hm,J,λz=>nomatch z⟩
def i9 {E:CO}{Q:CO}{u t:Value}{p:Addr}{cs:List Addr}{b:Bool}{P:Heap->Prop}(I:Inv X Y U H s)(Z:KitX X.K u t P)(hp:P s.heap)(hx:u≠.builtin "__main__.__loader__#opaque")
  (ep:H p=some (.tup (cs.map V.ref))) (e:kitAny X.K t (cs.map Value.ref)=some b) (h:∀ tk,Q (.bool b) { s with toks:=tk }):wpAny (model X.prog X.w) A (call (.builtin "isinstance") [u,.ref p]) Q E s:=by
 obtain⟨its,r,pl,_⟩:=I.tuple (bY.of ep);have er:∀ {cs:List Addr}{us:List Value},Vals (cs.map V.ref) us->us=cs.map Value.ref:=by
  intro cs
  induction cs with
  |nil=>intro us h;cases h;rfl
  |cons c cs ih=>
   intro us h;cases h with
   |cons r1 r2=>
    rw[ih r2,show _=Value.ref c from r1]
    rfl
 obtain rfl:=er r;obtain⟨⟨c,d,da,sl⟩,h1,h2,n,h3⟩:=(show s.heap.IsTuple p (cs.map Value.ref).toArray from pl);subst h2;obtain rfl:=h3;exact kia_tup Z I.aR hp h1 e hx h
end
def Ae (d:Addr)(hd:(d ==sysModules)=false)(dd:Option Addr)(ep:Nat)(sl:Array (Option Value)):Meets (Builtin.«dict.__eq__» ⟨[.ref d,.ref d],[]⟩) (λ_ R s=>s.heap.get? d=some ⟨.type "dict",dd,.dict #[] ep,sl⟩/\R (.ok (.ret (.bool true))) s):=by
 intro prog w A R s hs;obtain⟨h,g,dp,tt,os⟩:=s;obtain⟨ho,q⟩:=hs;have hT:(⟨h,g,dp,tt,os⟩:Shared).TypeIs (.ref d) "dict":=⟨_,ho,rfl⟩;unfold Builtin.«dict.__eq__»
 k_delta "equality"
 unfold Builtin.Dict.dictSlotArgs;refine am (am (wpAny_notOrdered_dict hT ?_));show wpAny _ _ (pure (Value.ref d,[Value.ref d]) >>= _) _ _ _;refine am (ap (ap ?_));have hi:=PySem.F.kt_sub_dict;show wpAny _ _ (isInstance (.ref d) (.type "dict") >>= _) _ _ _;unfold Builtin.Dict.samePairs;simp only[Std.Legacy.Range.forIn_eq_forIn_range']
 repeat(any_goals first|assumption|wp_step)
variable {s:Shared}{dd:Option Addr}{sl:Array (Option Value)}
def zI (hd:(d ==sysModules)=false){ep:Nat}(ho:s.heap.get? d=some ⟨.type "dict",dd,.dict #[] ep,sl⟩) (hu:A.units<cLine):SeqAt.RcAt A s (.ref d) (.ref d) true:=λprog w E Q h=>
 richCompare_meets_room (op:=.Eq) ⟨_,ho,rfl⟩ ⟨_,ho,rfl⟩ PySem.F.slot_dict_eq PySem.F.entry_dict_eq (PySem.F.args_dict_eq_2 _ _) (Ae d hd dd ep sl) ⟨ho,show Value.bool true≠Value.notImplemented/\Q (.bool true) s from⟨(λx=>nomatch x),h⟩⟩ hu
abbrev rB (K:W.Frag)(H:Hp)(a:Addr):Prop:=(∃ xs,aA K H a xs)\/(∃ xs,bY K H a xs)\/H a=some (.dK [])
variable {X:Cx}{Y:CP}
def sL {U:St}{H:Hp}{a:Addr}(I:Inv X Y U H s)(h:rB X.K H a)(hu:A.units+2<cLine):SeqAt.RcAt A s (.ref a) (.ref a) true:=by
 rcases h with⟨xs,h⟩|⟨xs,h⟩|h
 .obtain⟨ia,ra,pa,_⟩:=I.list h;have rc:=SeqAt.RcAt.lists (A:=A) (e:=λ_=>true) pa.isList pa.isList rfl nofun λj h1 h2=>SeqAt.EqAt.same _
  have e:(List.range ia.toArray.size).all (λ_=>true)=true:=by simp
  rwa [e]at rc
 .obtain⟨ia,ra,pa,_⟩:=I.tuple h;have rc:=SeqAt.RcAt.tuples (A:=A) (e:=λ_=>true) (show s.heap.IsTuple a ia.toArray from pa) (show s.heap.IsTuple a ia.toArray from pa) nofun λj h1 h2=>SeqAt.EqAt.same _
  have e:((List.range (min ia.toArray.size ia.toArray.size)).all (λ_=>true)&&ia.toArray.size ==ia.toArray.size)=true:=by simp
  rwa [e]at rc
 .obtain⟨z,hd,vs,rel,dd⟩:=iy I.hok (.inl h);cases rel;obtain⟨⟨c,d,da,sl⟩,es,ep,ho,hx,he,_,hp,_⟩:=dd;have e0:es=#[]:=by
   cases hp':es.toList with
   |nil=>exact Array.toList_eq_nil_iff.mp hp'
   |cons a b=>rw[hp']at hp;cases hp
  subst e0;obtain rfl:da=.dict #[] ep:=he;obtain⟨rfl,_⟩:=hx;exact zI hd ho nofun
section
variable {prog:Program}{w:World}{A:Around}{E:CO}{s:Shared}{T:String}{r d:Addr}{n:Nat}{P:Nat->Value->Prop}{OK:Heap->Prop}
end
abbrev qH (tp:Bool):String:=match tp with
 |true=>"tuple"
 |false=>"list"
abbrev pM (K:W.Frag)(C:Addr):Bool:=findIn K (.ref C) "__eq__" ==some (some (.builtin "object.__eq__"))&&subIn K (.ref C) (.type "str") ==some false&&subIn K (.ref C) (.type "object") ==some true
structure Cj (K:Frag) (C:Addr):Prop where
 makes:makesIn K C=true
 init:findIn K (.ref C) "__init__"=some (some (.builtin "object.__init__"))
 kp:keepIn K (.ref C)=true
@[reducible]def VV:List (V×V)->List (Value×Value)->Prop:=Paired λp q=>RelV p.1 q.1/\RelV p.2 q.2
abbrev PQ (X:Cx)(pos:Pos)(keys:List (Option Expr))(values:List Expr)(t:St->Hp->(List (V×V)->Hp->Prop)->Prop):Prop:=
 ∀ (Y:CP) (s:Shared) (U:St) (H:Hp) (Q:List (V×V)->Hp->Prop),Inv X Y U H s->t U H Q->
  wpAny (model X.prog X.w) X.A (evalPairs (pairTrees keys values X.env pos)) (λvs s'=>∃ ps H',Inv X Y U H' s'/\VV ps vs/\Q ps H') X.xe s
variable {pos:Pos}
def xY:PQ X pos [] [] (λ_ H Q=>Q [] H):=λY s U H Q I h=>pairTrees_nil_walk ⟨[],H,I,.nil,h⟩
variable {t:St->Hp->(List (V×V)->Hp->Prop)->Prop}
def uP {k v:Expr}{ks:List (Option Expr)}{vs:List Expr}{tk tv:TE}(hk:PE X k tk)(hv:PE X v tv)(hr:PQ X pos ks vs t):
  PQ X pos (some k::ks) (v::vs) (λU H Q=>tk U H λx H1=>tv U H1 λy H2=>t U H2 λps H3=>Q ((x,y)::ps) H3):=λY s U H Q I h=>
 pairTrees_cons_walk (ao (hk Y s U H _ I h) λu s1 ⟨x,H1,I1,rx,q1⟩=>ao (hv Y s1 U H1 _ I1 q1) λw2 s2 ⟨y,H2,I2,ry,q2⟩=>
  ao (hr Y s2 U H2 _ I2 q2) λws s3 ⟨ps,H3,I3,rel,q3⟩=>⟨(x,y)::ps,H3,I3,.cons ⟨rx,ry⟩ rel,q3⟩)
abbrev dh (kvs more:List (Key×V)):List (Key×V):=more.foldl (λacc kv=>putK acc kv.1 kv.2) kvs
def KV.merge:∀ {more:List (Key×V)}{rs:List (Key×Value)}{kvs:List (Key×V)}{vs:List (Key×Value)},KV more rs->KV kvs vs->KV (dh kvs more) (merged vs rs):=by
 intro more rs kvs vs r;unfold KV at r
 induction r generalizing kvs vs with
 |nil=>intro q;exact q
 | @cons p q ps qs h t ih=>
  intro r0;have e:KV (putK kvs p.1 p.2) (stored vs q.1 q.2):=by
   have:=r0.put p.1 h.2;rw[<-h.1];exact this
  exact ih e
def cT:∀ (more kvs:List (Key×V)),(dh kvs more).length<=kvs.length+more.length
 | [],kvs=>by show kvs.length<=kvs.length+0;omega
 |p::r,kvs=>by
  have h1:=cT r (putK kvs p.1 p.2);have h2:=cf kvs p.1 p.2;show(dh (putK kvs p.1 p.2) r).length<=_;rw[length_cons];omega
def gu {P:Program}{w:World}:∀ {kvs:List (Key×V)}{ws:List (Value×Value)},VV (kvs.map λkv=>(kV kv.1,kv.2)) ws->∃ rs,Carries (aq P w) ws rs/\KV kvs rs
 | [],_,r=>by rw[List.map_nil]at r;cases r;exact⟨[],True.intro,.nil⟩
 |p::kvs,_,r=>by
  rw[map_cons]at r;cases r with
  | @cons a b as bs h t=>
   obtain⟨rs,c,q⟩:=gu (P:=P) (w:=w) t;obtain⟨b1,b2⟩:=b;exact⟨(p.1,b2)::rs,⟨m8 h.1,rfl,c⟩,.cons ⟨rfl,h.2⟩ q⟩
abbrev zB (t:St->Hp->(List (V×V)->Hp->Prop)->Prop):TE:=λU H Q=>∀ p,H p=none->t U (upd H p (.dK [])) λps H2=>H2 p=some (.dK [])/\∃ kvs:List (Key×V),ps=kvs.map (λkv=>(kV kv.1,kv.2))/\kvs.length<=15/\Q (.ref p) (upd H2 p (.dK (dh [] kvs)))
def sP {keys:List (Option Expr)}{values:List Expr}(h:PQ X pos keys values t)(hall:keys.all (·.isSome)=true)(hl:keys.length=values.length)(h0:keys≠[])
  (h15:keys.length<=15):PE X (.Dict keys values pos) (zB t):=by
 intro Y s U H Q I q;have hn:=I.hok.fresh (pc s.heap.objs.size);have I1:=I.laid (a:=s.heap.objs.size) (o:=.dK []) (h':=s.heap.push { cls:=.type "dict",data:=.dict #[] }) (t':=s.toks) (λ_ _ q=>ss _ q) (pc _) (kl s.heap I.big);refine wpAny_Dict_walk (knd:=aq X.prog X.w) hall hl h0 h15 (ao (h Y _ U _ _ I1 (q _ hn)) λws s2 ⟨ps,H2,I2,rel,e,kvs,ep,lk,q2⟩=>?_);subst ep;obtain⟨rs,c,rk⟩:=gu (P:=X.prog) (w:=X.w) rel;obtain⟨z,hd,vs0,r0,dd⟩:=vd I2.hok e;cases r0;refine⟨rs,c,dd,λh' dd' hs=>⟨.ref s.heap.objs.size,_,?_,rfl,q2⟩⟩;have hz:(dh [] kvs).length<=bn:=by
  have h1:=cT kvs [];rw[length_nil]at h1;rw[sizeLine_eq];omega
 have he:∃ q,h'.get? s.heap.objs.size=some q:=let⟨q,_,_,hq,_⟩:=dd';⟨q,hq⟩;exact iM I2 (by rw[e];exact True.intro) hs he (pz hz hd (rk.merge .nil) dd')
abbrev lJ (K:W.Frag)(C:Addr):Bool:=findIn K (.ref C) "__ne__" ==some (some (.builtin "object.__ne__"))&&pM K C
section
variable {A:Around}{s:Shared}{l C dx:Addr}{od:Option Obj}{K:W.Frag}{prog:Program}{w:World}{E:CO}
def yI (X:K.In s.heap)(I:InstAt s.heap l (instObj C dx) C od)(h1:findIn K (.ref C) "__eq__"=some (some (.builtin "object.__eq__"))) (h3:subIn K (.ref C) (.type "object")=some true) (h:Q (some (.bool true)) s):wpAny (model prog w) A (callSpecialIfBound? (.ref l) "__eq__" [.ref l]) Q E s:=by
 simp only[callSpecialIfBound?,bindSpecialIfBound?];refine be (am (am (am (I.type.here ((looks_findIn X h1).here ?_)))));simp only[PySem.F.cmp_object.eq.bind];have fin:wpAny (model prog w) A (call (.builtin "object.__eq__") ([.ref l]++[.ref l]) >>= λv=>pure (some v)) Q E s:=by
  refine am (wpAny_call (codeAny_call_builtin PySem.F.cmp_object.eq.plain PySem.F.cmpEntry_eq ?_));simp only[checkBuiltinCall,PySem.F.cmpKind_eq,PySem.F.cmpSplit_eq];refine am (am (I.type.here ((looks_subIn X h3).here ?_)));rw[if_neg (by simp)];have ha:=PySem.F.cmpArgs_eq (.ref l) (.ref l);have h0:(match Manifest.signature? "object.__eq__" with|some sig=>Bind.checkArgs "object.__eq__" sig { pos:=[Value.ref l]++[Value.ref l] }|x=>pure ())=pure ():=ha;refine wpAny_of_eq h0 ?_;exact objEq_entry_same (ap h)
 refine am (wpAny_askSetting (wpAny_ite ?_))
 split
 .exact am (ap (ap fin))
 .exact wpAny_tryCatch (am (ap (ap fin)))
def Am (X:K.In s.heap)(I:InstAt s.heap l (instObj C dx) C od)(h1:findIn K (.ref C) "__eq__"=some (some (.builtin "object.__eq__"))) (h2:findIn K (.ref C) "__ne__"=some (some (.builtin "object.__ne__"))) (h3:subIn K (.ref C) (.type "object")=some true) (hu:A.units+2<cLine) (h:Q (some (.bool false)) s):wpAny (model prog w) A (callSpecialIfBound? (.ref l) "__ne__" [.ref l]) Q E s:=by
 simp only[callSpecialIfBound?,bindSpecialIfBound?];refine be (am (am (am (I.type.here ((looks_findIn X h2).here ?_)))));simp only[PySem.F.cmp_object.ne.bind];have fin:wpAny (model prog w) A (call (.builtin "object.__ne__") ([.ref l]++[.ref l]) >>= λv=>pure (some v)) Q E s:=by
  refine am (wpAny_call (codeAny_call_builtin PySem.F.cmp_object.ne.plain PySem.F.cmpEntry_ne ?_));simp only[checkBuiltinCall,PySem.F.cmpKind_ne,PySem.F.cmpSplit_ne];refine am (am (I.type.here ((looks_subIn X h3).here ?_)));rw[if_neg (by simp)];have ha:=PySem.F.cmpArgs_ne (.ref l) (.ref l);have h0:(match Manifest.signature? "object.__ne__" with|some sig=>Bind.checkArgs "object.__ne__" sig { pos:=[Value.ref l]++[Value.ref l] }|x=>pure ())=pure ():=ha;refine wpAny_of_eq h0 ?_;unfold Builtin.«object.__ne__»;show wpAny _ _ (pure (Value.ref l,[Value.ref l]) >>= _) _ _ _;refine am (ap ?_);refine am (wpAny_cRoomFor (show A.units+1<cLine by omega) ?_);refine am (yI X I h1 h3 ?_);refine am (bi ?_);exact ap (ap h)
 refine am (wpAny_askSetting (wpAny_ite ?_))
 split
 .exact am (ap (ap fin))
 .exact wpAny_tryCatch (am (ap (ap fin)))
def n8 (X:K.In s.heap)(I:InstAt s.heap l (instObj C dx) C od)(hC:lJ K C=true)(hu:A.units+3<cLine):SeqAt.RcNeAt A s (.ref l) (.ref l) false:=λprog w E Q h=>by
 unfold lJ pM at hC;simp only[li,beq_iff_eq]at hC;obtain⟨h0,⟨h1,h2⟩,h3⟩:=hC;simp only[richCompare,PySem.cmpInfo_NotEq]
 try with_reducible refine be ?_
 refine am (wpAny_cRoomFor nofun ?_);show wpAny _ _ (typeOf (Value.ref l) >>= _) _ _ _;refine am (I.type.here (am (I.type.here ?_)));rw[if_neg (by simp)];refine am (ap ?_);rw[if_neg (by simp)];refine am ?_;simp only[tryCompare];refine am (Am X I h1 h0 h3 nofun ?_);exact ap (ap h)
def yR (d:Addr)(hd:(d ==sysModules)=false)(dd:Option Addr)(ep:Nat)(sl:Array (Option Value)):Meets (Builtin.«dict.__ne__» ⟨[.ref d,.ref d],[]⟩) (λ_ R s=>s.heap.get? d=some ⟨.type "dict",dd,.dict #[] ep,sl⟩/\R (.ok (.ret (.bool false))) s):=by
 intro prog w A R s hs;obtain⟨h,g,dp,tt,os⟩:=s;obtain⟨ho,q⟩:=hs;have hT:(⟨h,g,dp,tt,os⟩:Shared).TypeIs (.ref d) "dict":=⟨_,ho,rfl⟩;unfold Builtin.«dict.__ne__»
 k_delta "equality"
 unfold Builtin.Dict.dictSlotArgs;refine am (am (wpAny_notOrdered_dict hT ?_));show wpAny _ _ (pure (Value.ref d,[Value.ref d]) >>= _) _ _ _;refine am (ap (ap ?_));have hi:=PySem.F.kt_sub_dict;show wpAny _ _ (isInstance (.ref d) (.type "dict") >>= _) _ _ _;unfold Builtin.Dict.samePairs;simp only[Std.Legacy.Range.forIn_eq_forIn_range']
 repeat(any_goals first|assumption|wp_step)
def um (hd:(d ==sysModules)=false){ep:Nat}(ho:s.heap.get? d=some ⟨.type "dict",dd,.dict #[] ep,sl⟩) (hu:A.units<cLine):SeqAt.RcNeAt A s (.ref d) (.ref d) false:=λprog w E Q h=>
 richCompare_meets_room (op:=.NotEq) ⟨_,ho,rfl⟩ ⟨_,ho,rfl⟩ PySem.F.slot_dict_ne PySem.F.entry_dict_ne (PySem.F.args_dict_ne_2 _ _) (yR d hd dd ep sl) ⟨ho,show Value.bool false≠Value.notImplemented/\Q (.bool false) s from⟨(λx=>nomatch x),h⟩⟩ hu
abbrev qx (K:W.Frag)(H:Hp)(a:Addr):Prop:=(∃ xs,bY K H a xs)\/H a=some (.dK [])\/(∃ C dx fs,H a=some (.ins C dx fs)/\lJ K C=true)\/∃ xs,aA K H a xs
def so {U:St}{H:Hp}{a:Addr}(I:Inv X Y U H s)(h:qx X.K H a)(hu:A.units+3<cLine):SeqAt.RcNeAt A s (.ref a) (.ref a) false:=by
 rcases h with⟨xs,h⟩|h|⟨C,dx,fs,h,hn⟩|⟨xs,h⟩
 .obtain⟨ia,ra,pa,_⟩:=I.tuple h;have rc:=SeqAt.RcNeAt.tuples (A:=A) (e:=λ_=>true) (show s.heap.IsTuple a ia.toArray from pa) (show s.heap.IsTuple a ia.toArray from pa) nofun λj h1 h2=>SeqAt.EqAt.same _
  have e:((List.range (min ia.toArray.size ia.toArray.size)).all (λ_=>true)&&ia.toArray.size ==ia.toArray.size)=true:=by simp
  rw[e]at rc;exact rc
 .obtain⟨z,hd,vs,rel,dd⟩:=iy I.hok (.inl h);cases rel;obtain⟨⟨c,d,da,sl⟩,es,ep,ho,hx,he,_,hp,_⟩:=dd;have e0:es=#[]:=by
   cases hp':es.toList with
   |nil=>exact Array.toList_eq_nil_iff.mp hp'
   |cons a b=>rw[hp']at hp;cases hp
  subst e0;obtain rfl:da=.dict #[] ep:=he;obtain⟨rfl,_⟩:=hx;exact um hd ho nofun
 .obtain⟨mA,o,_⟩:=cJ I.hok h;obtain⟨od,i,_⟩:=o.look;exact n8 I.aR i hn hu
 .obtain⟨ia,ra,pa,_⟩:=I.list h;have rc:=SeqAt.RcNeAt.lists (A:=A) (e:=λ_=>true) pa.isList pa.isList rfl nofun λj h1 h2=>SeqAt.EqAt.same _
  have e:(List.range ia.toArray.size).all (λ_=>true)=true:=by simp
  rw[e]at rc;exact rc
end
end L2
namespace L2
open PySem PySem.Spec PyProof.Rows
section
variable {X:Cx}{tg:Expr}
end
end L2
namespace L2
open PySem PySem.Spec PySem.W PyProof.Rows
open PySem.AutoSeq1 (wpAny_loadPart')
section
variable {prog:Program}{w:World}{A:Around}{E:CO}{s:Shared}
end
section
variable {X:Cx}{Y:CP}{U:St}{H:Hp}{s:Shared}
end
section
variable {prog:Program}{w:World}{A:Around}{E:CO}{s:Shared}
variable {z TI TO i1 i2 i3 l1 l2 l3:Addr}{k1 k2 k3:Nat}{tp1 tp2 tp3:Bool}{xs ys zs:Array Value}{x y v a b c f1:Value}
end
variable {X:Cx}{e es:Expr}{te:TE}{ts:TO}{p2 pos:Pos}
def mL:∀ {xs:List V}{us:List Value},xs.length=us.length->(∀ (j:Nat) (x:V) (u:Value),xs[j]? =some x->us[j]? =some u->RelV x u)->Vals xs us
 | [],[],_,_=>.nil
 |x::xs,u::us,e,h=>.cons (h 0 x u rfl rfl) (mL (Nat.succ.inj e) λj a b e1 e2=>h (j+1) a b e1 e2)
def mw:∀ {kvs:List (Key×V)}{vs:List (Key×Value)},KV kvs vs->kvs.map (·.1)=vs.map (·.1)
 |_,_,.nil=>rfl
 |_,_,.cons r rs=>by rw[map_cons,map_cons,r.1,mw rs]
def lH {Y:CP}{U:St}{H:Hp}{s:Shared}{Q:VK}{d:Addr}{kvs:List (Key×V)}(hc:X.calm=true)(I:Inv X Y U H s)(e:Rd H d (.dK kvs))(q:∀ p,H p=none->Q (.ref p) (upd H p (.lst (kvs.map (λkv=>kV kv.1))))):
  wpAny (model X.prog X.w) X.A (call (.type "list") [.ref d]) (EP X Y U Q) X.xe s:=by
 obtain⟨hz,hd,vs,rel,dd⟩:=iy I.hok e;obtain⟨o,es,ep,ho,hx,he,hk,hp,hn⟩:=dd;have hA:s.heap.DictAt (aq X.prog X.w) d vs ep:=⟨o,es,ho,hx,he,hk,hp,hn⟩;have hl:vs.length<=bn:=by rw[<-rel.length];exact hz
 refine kdl_call (kdl_dict hd) (I.ok.hd hc) hA hl λh' tk acc c' hk' hD hi=>?_
 have r:Vals (kvs.map (λkv=>kV kv.1)) acc.toList:=mL ((ce ..).trans (rel.length.trans (hi.1.symm.trans Array.length_toList.symm))) λj x u e1 e2=>by
  rw[ii]at e1;obtain⟨⟨k,y⟩,ek,rfl⟩:=lw.mp e1;obtain⟨k',y',ek',hs⟩:=hi.2 j u (by rw[<-Array.getElem?_toList];exact e2);have ekk:k=k':=by
   have h2:(kvs.map (·.1))[j]? =(vs.map (·.1))[j]? :=by rw[mw rel]
   rw[ii,ii,ek,ek']at h2;exact Option.some.inj h2
  subst ekk;rcases ak hs with⟨i,t,rfl,rfl⟩|⟨z,t,rfl,rfl⟩
  .exact⟨t,rfl⟩
  .exact⟨t,rfl⟩
 exact⟨.ref _,_,I.laid (t':=tk) hk' (pc _) (show ai X.prog X.w _ h' _ (.lst (kvs.map (λkv=>kV kv.1))) from⟨by rw[ce];exact hz,acc.toList,c',r,by rw[Array.toArray_toList];exact hD⟩),rfl,q _ (I.hok.fresh (pc _))⟩
end L2
namespace L2
open PySem PySem.Spec PyProof.Rows
abbrev wM (z:Str):It:=⟨λi _=>i<z.cps.size,λi H x H'=>H'=H/\∃ c,z.cps[i]? =some c/\x=.str ⟨#[c]⟩,λi _=>z.cps.size<=i⟩
def qb {P:Program}{w:World}{K:W.Frag}{tg:Expr}(it:Addr)(z:Str)(t:Tok):Turn P w K tg (wM z) [it] it (λi h=>h.IsStrIter it (strIterType z) z t i) where
 mem:=by simp
 obj:=λi h st b hb=>by
  have e:b=it:=by simpa using hb
  subst e;obtain⟨o,e,c,d⟩:=st;exact⟨o,e,λv z=>by rw[d]at z;cases z⟩
 keep:=λi h h' st k=>let⟨o,ho,r⟩:=st;⟨o,k it (by simp) o ho,r⟩
 item:=by
  intro X hP hw hK hc i Y s U H E I hf st hg;subst hP hw hK;obtain⟨f0,f1,f2,f3,f4,f5⟩:=hf it (by simp);have go:∀ T,(T="str_ascii_iterator"\/T="str_iterator")->strIterType z=T->wpAny (model X.prog X.w) X.A (pyNext (.ref it)) (λr s1=>∃ u,r=some u/\
   wpAny (model X.prog X.w) X.A (letOwnedTupleGo tg (.ref it) u) (λ_ s2=>∃ x H',Inv X Y U H' s2/\RelV x u/\(wM z).yld i H x H'/\s2.heap.IsStrIter it (strIterType z) z t (i+1)/\∀ b ∈ [it],H' b=none) E s1) E s:=by
   intro T hT eT;rw[eT]at st⊢;have fin:∀ v h' tk,SignAt z i v->h'.IsStrIter it T z t (i+1)->(∀ b o,b ∉ [it]->s.heap.get? b=some o->h'.get? b=some o)->∃ u,some v=some u/\
    wpAny (model X.prog X.w) X.A (letOwnedTupleGo tg (.ref it) u) (λ_ s2=>∃ x H',Inv X Y U H' s2/\RelV x u/\(wM z).yld i H x H'/\s2.heap.IsStrIter it T z t (i+1)/\∀ b ∈ [it],H' b=none) E { s with heap:=h',toks:=tk }:=by
    intro v h' tk hv st' kk;obtain⟨c,u,hc',rfl⟩:=hv;have I1:Inv X Y U H { s with heap:=h',toks:=tk }:=I.turned (λb o hb e=>kk b o (by simpa using hb) e) f0 f1 f3 f4 f5;obtain⟨o,e,cc,d⟩:=id st';exact⟨_,rfl,mG (s:={ s with heap:=h',toks:=tk }) e cc d (by rcases hT with rfl|rfl<;>decide) ⟨.str ⟨#[c]⟩,H,I1,⟨u,rfl⟩,⟨rfl,c,hc',rfl⟩,st',λb hb=>(hf b hb).1⟩⟩
   rcases hT with rfl|rfl
   .exact(Walks.strAscii (prog:=X.prog) (w:=X.w) (I.ok.hd hc) it z t).item i s _ _ hg st fin
   .exact(Walks.strWide (prog:=X.prog) (w:=X.w) (I.ok.hd hc) it z t).item i s _ _ hg st fin
  have hz:strIterType z="str_ascii_iterator"\/strIterType z="str_iterator":=by unfold strIterType;split<;>simp
  exact go _ hz rfl
 done:=by
  intro X hP hw hK hc i Y s U H E I hf st hg;subst hP hw hK;obtain⟨f0,f1,f2,f3,f4,f5⟩:=hf it (by simp);have hx:z.cps[i]? =none:=Array.getElem?_eq_none hg;have fin:∀ h',Heap.ExtBut it s.heap h'->(none:Option Value)=none/\Inv X Y U H { s with heap:=h' }:=λh' eb=>⟨rfl,I.turned (t':=s.toks) (λb o hb e=>eb b o hb e) f0 f1 f3 f4 f5⟩
  unfold strIterType at st
  split at st
  .exact wpAny_pyNext_ascii_end (I.ok.hd hc) st hx fin
  .exact wpAny_pyNext_wide_end (I.ok.hd hc) st hx fin
 self:=λ_ _ _ _ _ st h=>by
  unfold strIterType at st
  split at st
  .exact wpAny_pyIter_striter_ascii st h
  .exact wpAny_pyIter_striter_wide st h
def rM {X:Cx}{tg:Expr}{Y:CP}{U:L2.St}{H1:Hp}{s1:Shared}{R:It->Hp->Prop}{z:Str}{v:Value}(I1:Inv X Y U H1 s1)(r:RelV (.str z) v)(q:R (wM z) H1):
  wpAny (model X.prog X.w) X.A (pyIter v) (yL X Y U tg R) X.xe s1:=by
 obtain⟨t,rfl⟩:=r;refine wpAny_pyIter_strU ?_;refine⟨s1.heap.objs.size,[s1.heap.objs.size],_,_,H1,rfl,I1.kept (t':=s1.toks) λb o e=>ss _ e,qb _ z t,⟨_,sK _ rfl,rfl,rfl⟩,λb hb=>?_,q⟩;have e:b=s1.heap.objs.size:=by simpa using hb
 subst e;exact I1.uG (pc _) (I1.hok.fresh (pc _))
def Inv.fL {X:Cx}{Y:CP}{U:L2.St}{H:Hp}{s:Shared}{d:Addr}{kvs:List (Key×V)}(I:Inv X Y U H s)(e:H d=some (.dK kvs)):∃ o,Inv X Y U (upd H d (.fL o (.dK kvs))) s:=by
 obtain⟨_,_,vs,rel,o,es,ep,ho,r⟩:=id (show ai X.prog X.w H s.heap d (.dK kvs) from I.hok d _ e);have ne:∀ b u,H b=some u->u≠.dK kvs->b≠d:=λb u hb hn z=>by subst z;rw[e]at hb;cases hb;exact hn rfl
 refine⟨o,I.step (h':=s.heap) (t':=s.toks) (g':=s.gens) (d':=s.drawn) (ch:=[]) (λ_ z=>nomatch z) (λb o _ _ _ e _=>e) (λb o _ _ _ e _=>⟨o.slots,e⟩) (λb o _ _ n=>by rw[ae (λz=>by subst z;rw[e]at n;cases n)];exact n) (λb o _ e=>⟨o,e⟩)
  (λb xs h=>by rw[ae (ne b _ h (λz=>by cases z))];exact h) (λb o u h=>by rw[ae (ne b _ h (λz=>by cases z))];exact h) (λb ps h=>⟨#[],by rw[ae (ne b _ h (λz=>by cases z)),h];simp⟩) (λm hm=>hm) (λb u hb=>?_) I.bare⟩
 have cW:∀ b u,H b=some u->ai X.prog X.w (upd H d (.fL o (.dK kvs))) s.heap b u:=λb u hb=>(I.hok b u hb).cW (λ_ _ _ e=>e) (λc hc=>by rw[ae (ne c _ hc (λz=>by cases z))];exact hc) (λc xs hc=>by rw[ae (ne c _ hc (λz=>by cases z))];exact hc)
 by_cases z:b=d
 .subst z;rw[ah]at hb;cases hb;exact⟨ho,cW _ _ e⟩
 .rw[ae z]at hb;exact cW b u hb
section
variable {X:Cx}
def ip:∀ {us:List Value}{ys:List Str},Vals (ys.map V.str) us->StrsAre us ys
 |_,[],.nil=>.nil
 |_,y::ys,.cons r h=>by
  obtain⟨t,rfl⟩:=r;exact .cons y t (ip h)
def ig:∀ l:List (Str×Tok),Vals ((l.map (·.1)).map V.str) (strValues l)
 | []=>.nil
 |(y,t)::l=>.cons ⟨t,rfl⟩ (ig l)
abbrev rJoin (K:W.Frag):V->List V->Hp->VK->Prop:=λx vs H Q=>∃ z p,∃ ys:List Str,x=.str z/\vs=[.ref p]/\aA K H p (ys.map V.str)/\(ys.map (·.length)).sum+ys.length<=1000000/\z.length<=16/\Q (.str (Txt.join z ys)) H
def ui:vD X "str.join" (rJoin X.K):=by
 intro Y s U H x vs v us Q I rx rv h;obtain⟨z,p,ys,rfl,rfl,hp,hw,hz,q⟩:=h;obtain⟨t,rfl⟩:=rx;cases rv with
 |cons r rv=>
  cases rv;cases r;obtain⟨its,rl,pl,_⟩:=I.list hp;exact join_listW pl.isList (by rw[List.toList_toArray];exact ip rl) hz nofun λt' k=>⟨.str _,H,I.tok _,⟨t',rfl⟩,q⟩
abbrev i7:V->List V->Hp->VK->Prop:=λx vs H Q=>∃ z y,x=.str z/\vs=[.str y]/\Q (.bl (Txt.startswith z y)) H
def nO:vD X "str.startswith" i7:=by
 intro Y s U H x vs v us Q I rx rv h;obtain⟨z,y,rfl,rfl,q⟩:=h;obtain⟨t,rfl⟩:=rx;cases rv with
 |cons r rv=>
  cases rv;obtain⟨t',rfl⟩:=r;exact PySem.SC.startswith ⟨.bl _,H,I,rfl,q⟩
abbrev k6:V->List V->Hp->VK->Prop:=λx vs H Q=>∃ z y:Str,x=.str z/\vs=[.str y]/\(y.length ==0)=false/\z.length<=100000/\∀ p,H p=none->Q (.ref p) (upd H p (.lst ((Txt.split z y).map V.str)))
def rN:vD X "str.split" k6:=by
 intro Y s U H x vs v us Q I rx rv h;obtain⟨z,y,rfl,rfl,hy,hz,q⟩:=h;obtain⟨t,rfl⟩:=rx;cases rv with
 |cons r rv=>
  cases rv;obtain⟨u,rfl⟩:=r;have hsp:(Txt.split z y).length<=200000:=Nat.le_trans (fact_split z y).2 nofun;have fin:∀ (l:List (Str×Tok)) (k:Nat),l.map (·.1)=Txt.split z y->EP X Y U Q (.ref s.heap.objs.size) { s with toks:=k,heap:=s.heap.push { cls:=.type "list",data:=.seq (strValues l).toArray } }:=λl k e=>by
   refine⟨.ref s.heap.objs.size,_,I.laid (t':=k) (λb o e=>ss _ e) (pc _) (o:=.lst ((Txt.split z y).map V.str)) ⟨?_,strValues l,0,by rw[<-e];exact ig l,sK _ rfl⟩,rfl,q _ (I.hok.fresh (pc _))⟩;rw[ce,sizeLine_eq]
   omega
  have hsz:z.length<=bn:=by rw[sizeLine_eq];omega
  open PySem.Builtin.Str in
  cases h1:(decide (z.length<y.length)||decide (strKind z<strKind y))
  .cases hf:(occurrences z y 0 z.length (z.length+1)).isEmpty
   .have e:Txt.split z y=_:=(if_neg (ne_true_of_eq_false h1)).trans (if_neg (ne_true_of_eq_false hf));refine call_meets F.slot_str_split (typeIs_str _ _ _) F.entry_str_split (F.args_str_split_2 _ _) (meets_str_split_sep z y t u h1 hy hf hsz ?_) ?_
    .have e2:=congrArg List.length e;rw[sizeLine_eq,<-e2]
     omega
    .show wants _ _ _ { s with toks:=_,heap:=s.heap.push { cls:=.type "list",data:=.seq (strsFrom s.toks (partsBetween z (occurrences z y 0 z.length (z.length+1)) y.length)).toArray } };rw[strsFrom_eq];exact fin (numbered s.toks _) _ ((numbered_texts _ _).trans e.symm)
   .exact call_meets F.slot_str_split (typeIs_str _ _ _) F.entry_str_split (F.args_str_split_2 _ _) (meets_str_split_not_found z y t u h1 hy hf)
     (fin [(z,t)] s.toks ((if_neg (ne_true_of_eq_false h1)).trans (if_pos hf)).symm)
  .exact call_meets F.slot_str_split (typeIs_str _ _ _) F.entry_str_split (F.args_str_split_2 _ _) (meets_str_split_cannot_occur z y t u h1)
    (fin [(z,t)] s.toks (if_pos h1).symm)
end
end L2
namespace L2
open PySem PySem.Spec PySem.W PyProof.Rows SeqAt
open AutoSeq1 (wpAny_loadPart')
open MeetsSeq MeetsSeq2 MeetsSeq3 SeqRoads2
section
variable {prog:Program}{w:World}
end
end L2
namespace L2
open PySem PySem.Spec PySem.W PyProof.Rows PySem.Calls PyProof.V
abbrev ug (K:W.Frag)(a:Addr)(D:List (Str×Str)):Prop:=KTD.tabLook KTD.flatLooks (λb=>K.lookup b) a (D.map λp=>(p.1,PyData.str p.2))=true
abbrev Bn (D:List (Str×Str)):List (Str×KTD.Dat):=(D.map λp=>(p.1,PyData.str p.2)).map λp=>(p.1,KTD.Dat.flat p.2)
variable {Q:CO}
section
variable {X:Cx}{Y:CP}{U:St}{H:Hp}{s:Shared}{a:Addr}{D:List (Str×Str)}{k w:Str}{t:Tok}{A:Around}{E:CO}
def jm (I:Inv X Y U H s)(g:ug X.K a D):KTD.Here s.heap s.heap a (Bn D):=
 ⟨(KTD.tab_of_look (R:=λd v=>Flat v d) (λ_ _ h=>KTD.flat_of_looks h) (λb o q=>I.aR b o q) g).text,λ_ _ h=>h⟩
def nc (k:Str):∀ D:List (Str×Str),KTD.datumAt k (Bn D)=(D.lookup k).map λz=>KTD.Dat.flat (.str z)
 | []=>rfl
 |(x,y)::D=>by
  have ih:=nc k D;show(if decide (k=x)=true then some (KTD.Dat.flat (.str y)) else KTD.datumAt k (Bn D))=_;rw[lookup_cons]
  by_cases h:k=x
  .subst h;simp
  .rw[show(k ==x)=false by simpa using h,if_neg (by simpa using h),ih]
def yo (I:Inv X Y U H s)(g:ug X.K a D)(hw:D.lookup k=some w)(h:∀ t' s',Inv X Y U H s'->Q (.str w t') s'):wpAny (model X.prog X.w) A (getItem (.ref a) (.str k t)) Q E s:=by
 have T:=jm I g;unfold getItem
 try with_reducible refine be ?_
 refine am (wpAny_sequenceKey T.typeIs (by decide) ?_);refine am (wpAny_callSpecial?_slot (name:=Str.ofString "__getitem__") T.typeIs slot_dict_getitem
  (wpAny_call_entry slot_dict_getitem T.typeIs entry_dict_getitem ?_ (args_dict_getitem _ _)))
 show wpAny _ _ (dictGet a (.str k t) >>= _) _ _ s;refine am (KTD.dictGet_text T (λd v ha hv=>?_) λhn=>?_)
 .rw[nc,hw]at ha;cases ha;obtain⟨t',rfl⟩:∃ t',v=.str w t':=by
   have r:=(show Flat v (.str w) from hv) s.heap;cases r;exact⟨_,rfl⟩
  exact ap ⟨_,rfl,ap (h _ _ (I.tok _))⟩
 .rw[nc,hw]at hn;cases hn
def zL (I:Inv X Y U H s)(g:ug X.K a D)(h:∀ s',Inv X Y U H s'->Q (.bool (D.lookup k).isSome) s'):wpAny (model X.prog X.w) A (compareOp .In (.str k t) (.ref a)) Q E s:=by
 have T:=jm I g;refine KTD.in_text T ?_;rw[<-KTD.isSome_datumAt,nc,Option.isSome_map];exact h _ (I.tok _)
def oB {x:Str}{n:Int}(hn:PySem.intText? x=some n)(hl:x.length<=640)(h:Q (.int n s.toks) { s with toks:=s.toks+1 }):wpAny (model X.prog X.w) A (call (.type "int") [.str x t]) Q E s:=KIN.call_text hn hl h
end
abbrev dk (z:Str)(lo hi:Option Int):Str:=⟨((z.cps.toList.drop (HT.bB z.length 0 lo)).take (HT.bB z.length z.length hi-HT.bB z.length 0 lo)).toArray⟩
def dR (z:Str)(lo hi:Option Int):(dk z lo hi).length<=z.length:=by
 show(List.toArray _).size<=z.cps.size;rw[ge,db,im,Array.length_toList]
 omega
def ml (lo hi:Option Int)(n:Nat):Builtin.Str.strSliceIndices lo hi 1 n=(List.range (HT.bB n n hi-HT.bB n 0 lo)).map (HT.bB n 0 lo+·):=by
 rw[<-sliceRange_one];have e:∀ (o:Option Int) (d:Nat),(match o with|none=>(d:Int)|some i=>max 0 (min (if i<0 then i+(n:Int) else i) (n:Int)))=((HT.bB n d o:Nat):Int):=λo d=>by
  cases o with
  |none=>rfl
  |some i=>
   simp only[HT.bB]
   by_cases h:i<0
   .simp only[h,if_true]<;>omega
   .simp only[h,if_false]<;>omega
 rw[<-e lo 0,<-e hi n]
 rfl
def pF (z:Str)(l u:Option (Int×Tok)):(⟨((slicePicked z l u none).filterMap (z.cps[·]?)).toArray⟩:Str)=dk z (l.map (·.1)) (u.map (·.1)):=by
 unfold slicePicked dk;simp only[Option.map_none,Option.getD_none];rw[ml,pick_run]
def nU (z:Str)(l u:Option (Int×Tok))(h:(slicePicked z l u none).length=z.length):z=dk z (l.map (·.1)) (u.map (·.1)):=by
 unfold slicePicked at h;simp only[Option.map_none,Option.getD_none]at h;rw[ml,ce,length_range]at h;have h1:=HT.xl z.length z.length (pc _) (u.map (·.1));have h2:HT.bB z.length 0 (l.map (·.1))=0\/z.length=0:=by omega
 unfold dk;apply Str.ext';apply Array.toList_inj.mp;rcases h2 with h2|h2
 .rw[h,h2,drop_zero];exact(take_of_length_le (by simp[Str.length])).symm
 .have e:z.cps.toList=[]:=length_eq_zero_iff.mp (by simpa[Str.length] using h2);simp[e]
end L2
namespace L2
open PySem PySem.Spec PyProof.Rows
inductive dU (K:W.Frag) (H:Hp):Nat->V->V->Bool->Prop where
 |flat {n:Nat}{x y:V}(fx:av x=true) (fy:av y=true):dU K H n x y (gR x y)
 |same {n:Nat}(a:Addr):dU K H (n+1) (.ref a) (.ref a) true
 |ll {n:Nat}{a b:Addr}{xs ys:List V}{e:Nat->Bool}(ha:aA K H a xs) (hb:aA K H b ys) (hl:xs.length=ys.length) (h:∀ j x y,xs[j]? =some x->ys[j]? =some y->dU K H (n+1) x y (e j)):dU K H (n+2) (.ref a) (.ref b) ((List.range xs.length).all e)
 |tt {n:Nat}{a b:Addr}{xs ys:List V}{e:Nat->Bool}(ha:bY K H a xs) (hb:bY K H b ys) (h:∀ j x y,xs[j]? =some x->ys[j]? =some y->dU K H (n+1) x y (e j)):dU K H (n+2) (.ref a) (.ref b) ((List.range (min xs.length ys.length)).all e&&xs.length ==ys.length)
variable {A:Around}
section
variable {X:Cx}{Y:CP}{s:Shared}{U:St}{H:Hp}
def qo {y x:V}{u v:Value}(ry:RelV y u)(rx:RelV x v)(fy:av y=true)(fx:av x=true):SeqAt.RcAt A s u v (gR y x):=by
 cases y<;>first|cases fy|skip
 all_goals (cases x<;>first|cases fx|skip)
 all_goals (first|(obtain⟨t,rfl⟩:=ry)|cases ry)
 all_goals (first|(obtain⟨t',rfl⟩:=rx)|cases rx)
 .exact SeqAt.RcAt.none_none
 .exact SeqAt.RcAt.none_bool _
 .exact SeqAt.RcAt.none_int _ _
 .exact SeqAt.RcAt.none_str _ _
 .exact SeqAt.RcAt.bool_none _
 .exact SeqAt.RcAt.bool_bool _ _
 .exact SeqAt.RcAt.bool_int _ _ _
 .exact SeqAt.RcAt.bool_str _ _ _
 .exact SeqAt.RcAt.int_none _ _
 .exact SeqAt.RcAt.int_bool _ _ _
 .exact SeqAt.RcAt.int_int _ _ _ _
 .exact SeqAt.RcAt.int_str _ _ _ _
 .exact SeqAt.RcAt.str_none _ _
 .exact SeqAt.RcAt.str_bool _ _ _
 .exact SeqAt.RcAt.str_int _ _ _ _
 .exact SeqAt.RcAt.str_str _ _ _ _
def jD {y x:V}{u v:Value}(ry:RelV y u)(rx:RelV x v)(fy:av y=true)(fx:av x=true):SeqAt.RcNeAt A s u v (!gR y x):=by
 cases y<;>first|cases fy|skip
 all_goals (cases x<;>first|cases fx|skip)
 all_goals (first|(obtain⟨t,rfl⟩:=ry)|cases ry)
 all_goals (first|(obtain⟨t',rfl⟩:=rx)|cases rx)
 .exact SeqAt.RcNeAt.none_none
 .exact SeqAt.RcNeAt.none_bool _
 .exact SeqAt.RcNeAt.none_int _ _
 .exact SeqAt.RcNeAt.none_str _ _
 .exact SeqAt.RcNeAt.bool_none _
 .exact SeqAt.RcNeAt.bool_bool _ _
 .exact SeqAt.RcNeAt.bool_int _ _ _
 .exact SeqAt.RcNeAt.bool_str _ _ _
 .exact SeqAt.RcNeAt.int_none _ _
 .exact SeqAt.RcNeAt.int_bool _ _ _
 .exact SeqAt.RcNeAt.int_int _ _ _ _
 .exact SeqAt.RcNeAt.int_str _ _ _ _
 .exact SeqAt.RcNeAt.str_none _ _
 .exact SeqAt.RcNeAt.str_bool _ _ _
 .exact SeqAt.RcNeAt.str_int _ _ _ _
 .exact SeqAt.RcNeAt.str_str _ _ _ _
def eqv_refl (I:Inv X Y U H s):∀ {n:Nat}{x y:V}{b:Bool},dU X.K H n x y b->x=y->b=true:=by
 intro n x y b h
 induction h with
 | @flat n x y fx fy=>
  rintro rfl;cases x<;>first|(exact absurd fx Bool.false_ne_true)|simp[gR]
 |same a=>intro _;rfl
 | @ll n a b xs ys e ha hb hl h ih=>
  intro z;cases z;have:=I.kx ha hb;subst this;rw[all_eq_true];intro j hj;have hj':j<xs.length:=mem_range.mp hj;exact ih j _ _ (jp hj') (jp hj') rfl
 | @tt n a b xs ys e ha hb h ih=>
  intro z;cases z;have:=I.ie ha hb;subst this;rw[beq_self_eq_true,Bool.and_true,Nat.min_self,all_eq_true];intro j hj;have hj':j<xs.length:=mem_range.mp hj;exact ih j _ _ (jp hj') (jp hj') rfl
def jW (I:Inv X Y U H s):∀ {n:Nat}{x y:V}{b:Bool},dU X.K H n x y b->∀ {A:Around}{u v:Value},A.units+n<cLine->RelV x u->RelV y v->
  (SeqAt.EqAt A s u v b)/\(x=y\/SeqAt.RcAt A s u v b/\SeqAt.RcNeAt A s u v (!b)):=by
 intro n x y b h
 induction h with
 |flat fx fy=>intro A u v _ rx ry;exact⟨qz rx ry fx fy,.inr ⟨qo rx ry fx fy,jD rx ry fx fy⟩⟩
 |same a=>intro A u v _ rx ry;cases rx;cases ry;exact⟨SeqAt.EqAt.same _,.inl rfl⟩
 | @ll n a b xs ys e ha hb hl h ih=>
  intro A u v hu rx ry;have hall:=dU.ll ha hb hl h;cases rx;cases ry
  by_cases hab:a=b
  .subst hab;have z:=eqv_refl I hall rfl;rw[z];exact⟨SeqAt.EqAt.same _,.inl rfl⟩
  obtain⟨ia,ra,pa,_⟩:=I.list ha;obtain⟨ib,rb,pb,_⟩:=I.list hb;have e1:ia.toArray.size=xs.length:=by rw[ge,ra.length]
  have e2:ib.toArray.size=ys.length:=by rw[ge,rb.length]
  have he:∀ j (h1:j<ia.toArray.size) (h2:j<ib.toArray.size),SeqAt.EqAt A.in1 s ia.toArray[j] ib.toArray[j] (e j):=λj h1 h2=>by
   obtain⟨x1,f1,r1⟩:=fO ra h1;obtain⟨y1,f2,r2⟩:=fO rb h2;exact(ih j x1 y1 f1 f2 (by show A.units+1+(n+1)<cLine;omega) r1 r2).1
  have rc:=SeqAt.RcAt.lists (A:=A) pa.isList pb.isList (by rw[e1,e2,hl]) nofun he;have rn:=SeqAt.RcNeAt.lists (A:=A) pa.isList pb.isList (by rw[e1,e2,hl]) nofun he;rw[e1]at rc rn;exact⟨SeqAt.EqAt.of_refs hab rc,.inr ⟨rc,rn⟩⟩
 | @tt n a b xs ys e ha hb h ih=>
  intro A u v hu rx ry;have hall:=dU.tt ha hb h;cases rx;cases ry
  by_cases hab:a=b
  .subst hab;have z:=eqv_refl I hall rfl;rw[z];exact⟨SeqAt.EqAt.same _,.inl rfl⟩
  obtain⟨ia,ra,pa,_⟩:=I.tuple ha;obtain⟨ib,rb,pb,_⟩:=I.tuple hb;have e1:ia.toArray.size=xs.length:=by rw[ge,ra.length]
  have e2:ib.toArray.size=ys.length:=by rw[ge,rb.length]
  have he:∀ j (h1:j<ia.toArray.size) (h2:j<ib.toArray.size),SeqAt.EqAt A.in1 s ia.toArray[j] ib.toArray[j] (e j):=λj h1 h2=>by
   obtain⟨x1,f1,r1⟩:=fO ra h1;obtain⟨y1,f2,r2⟩:=fO rb h2;exact(ih j x1 y1 f1 f2 (by show A.units+1+(n+1)<cLine;omega) r1 r2).1
  have rc:=SeqAt.RcAt.tuples (A:=A) (show s.heap.IsTuple a ia.toArray from pa) (show s.heap.IsTuple b ib.toArray from pb) nofun he;have rn:=SeqAt.RcNeAt.tuples (A:=A) (show s.heap.IsTuple a ia.toArray from pa) (show s.heap.IsTuple b ib.toArray from pb) nofun he;rw[e1,e2]at rc rn;exact⟨SeqAt.EqAt.of_refs hab rc,.inr ⟨rc,rn⟩⟩
@[irreducible] noncomputable def dE (K:W.Frag) (neg:Bool):R2:=λx y H Q=>False\/∃ n b,dU K H n x y b/\n<=100/\(av x=true\/x≠y\/(neg=false/\∃ a,x=.ref a/\rB K H a)\/(neg=true/\∃ a,x=.ref a/\qx K H a))/\Q (.bl (if neg then !b else b)) H
def vM (hu:X.A.units+200<cLine):bC X (compareOp .Eq) (dE X.K false):=by
 intro Y s U H x y v u Q I rx ry h;unfold dE at h;rcases h with z|⟨n,b,e,hn,hx,q⟩
 .exact z.elim
 rcases(jW I e (A:=X.A) nofun rx ry).2 with z|⟨z,_⟩
 .subst z;rcases hx with hx|hx
  .have z:=eqv_refl I e rfl;have r:=qo (s:=s) (A:=X.A) rx ry hx hx;have z2:=eqv_refl I (dU.flat (K:=X.K) (H:=H) (n:=0) hx hx) rfl;rw[z2]at r;rw[z]at q;exact PySem.EqBoolInt.of_rc r ⟨.bl true,H,I,rfl,q⟩
  rcases hx with hx|⟨_,a,rfl,hs⟩|⟨hx,_⟩
  .exact absurd rfl hx
  .have z:=eqv_refl I e rfl;rw[z]at q;cases rx;cases ry;exact PySem.EqBoolInt.of_rc (sL (A:=X.A) I hs nofun) ⟨.bl true,H,I,rfl,q⟩
  .cases hx
 .exact PySem.EqBoolInt.of_rc z ⟨.bl b,H,I,rfl,q⟩
def wA (hu:X.A.units+200<cLine):bC X (compareOp .NotEq) (dE X.K true):=by
 intro Y s U H x y v u Q I rx ry h;unfold dE at h;rcases h with z|⟨n,b,e,hn,hx,q⟩
 .exact z.elim
 rcases(jW I e (A:=X.A) nofun rx ry).2 with z|⟨_,z⟩
 .subst z;rcases hx with hx|hx
  .have z:=eqv_refl I e rfl;have r:=jD (s:=s) (A:=X.A) rx ry hx hx;have z2:=eqv_refl I (dU.flat (K:=X.K) (H:=H) (n:=0) hx hx) rfl;rw[z2]at r;rw[z]at q;exact PySem.EqBoolInt.of_rcne r ⟨.bl false,H,I,rfl,q⟩
  rcases hx with hx|⟨hx,_⟩|⟨_,a,rfl,hs⟩
  .exact absurd rfl hx
  .cases hx
  .have z:=eqv_refl I e rfl;rw[z]at q;cases rx;cases ry;exact PySem.EqBoolInt.of_rcne (so (A:=X.A) I hs nofun) ⟨.bl false,H,I,rfl,q⟩
 .exact PySem.EqBoolInt.of_rcne z ⟨.bl (!b),H,I,rfl,q⟩
end
@[irreducible] noncomputable def se (K:W.Frag) (a b:Addr) (H:Hp) (Q:VK):Prop:=(∃ xs ys,H a=some (.lst xs)/\H b=some (.lst ys)/\xs.length+ys.length<=100000/\∀ p,H p=none->Q (.ref p) (upd H p (.lst (xs++ys))))\/False
@[irreducible] noncomputable def uU (K:W.Frag) (a:Addr) (k:Int) (H:Hp) (Q:VK):Prop:=(∃ xs,H a=some (.lst xs)/\ -1000<=k/\k<=1000/\xs.length<=1000/\∀ p,H p=none->Q (.ref p) (upd H p (.lst (s0 k.toNat xs).flatten)))\/False
abbrev wL (K:W.Frag):R2:=λx y H Q=>match x,y with
 | .int i,.int j=>Q (.int (i+j)) H
 | .str a,.str b=>a.length+b.length<=100000/\Q (.str (a++b)) H
 | .ref a,.ref b=>se K a b H Q
 |_,_=>False
abbrev xm:R2:=λx y H Q=>match x,y with
 | .int i,.int j=>Q (.int (i-j)) H
 |_,_=>False
@[irreducible] noncomputable def qS (z:Str) (k:Int) (H:Hp) (Q:VK):Prop:=((k=0\/k=1)/\Q (.str (if k=1 then z else Str.empty)) H)\/(2<=k/\k<=1000/\z.length<=1000/\z.length≠0/\Q (.str ⟨(s0 k.toNat z.cps).foldl (·++·) #[]⟩) H)
abbrev wD (K:W.Frag):R2:=λx y H Q=>match x,y with
 | .int i,.int j=>oi i j/\Q (.int (i*j)) H
 | .ref a,.int k=>uU K a k H Q
 | .str z,.int k=>qS z k H Q
 |_,_=>False
abbrev wa:R2:=λx y H Q=>match x,y with
 | .int i,.int j=>(0<j/\j<1073741824)/\Q (.int (i / j)) H
 |_,_=>False
abbrev vW:R2:=λx y H Q=>match x,y with
 | .int i,.int j=>0<j/\Q (.int (i % j)) H
 |_,_=>False
abbrev yA:R2:=λx y H Q=>match x,y with
 | .int i,.int j=>uM i j/\Q (.int (i ^ j.toNat)) H
 |_,_=>False
abbrev xI (K:W.Frag)(op:Operator):R2:=match op with
 | .Add=>wL K
 | .Sub=>xm
 | .Mult=>wD K
 | .FloorDiv=>wa
 | .Mod=>vW
 | .Pow=>yA
 |_=>λ_ _ _ _=>False
section
variable {X:Cx}
def dI {n:Nat}(h:n<=1000000):n<=bn:=by rw[sizeLine_eq];omega
def jB (a:Array Nat):∀ (n:Nat) (b:Array Nat),((s0 n a).foldl (·++·) b).size=b.size+n*a.size
 |0,b=>by simp
 |n+1,b=>by rw[replicate_succ,foldl_cons,jB a n,Array.size_append,Nat.succ_mul];omega
def sN {z:Str}{k:Int}{Y:CP}{s:Shared}{U:St}{H:Hp}{v u:Value}{Q:VK}(I:Inv X Y U H s)(rx:RelV (.str z) v)(ry:RelV (.int k) u)(h:qS z k H Q):wpAny (model X.prog X.w) X.A (binaryOp .Mult v u) (λv' s'=>∃ w H',Inv X Y U H' s'/\RelV w v'/\Q w H') X.xe s:=by
 obtain⟨t,rfl⟩:=rx;obtain⟨t',rfl⟩:=ry;unfold qS at h;rcases h with⟨rfl|rfl,q⟩|⟨h2,h3,h4,h5,q⟩
 .exact PySem.P.mul_str (by decide) (λh=>absurd (by decide) h) (λh=>absurd (by decide) h) ⟨by decide,.str Str.empty,H,I.tok _,⟨_,rfl⟩,q⟩
 .exact PySem.P.mul_str (by decide) (λ_ h=>by cases(show true=false from h)) (λ_ h=>by cases(show true=false from h)) ⟨.str z,H,I,⟨_,rfl⟩,q⟩
 .have hm:z.length*k.toNat<=1000*1000:=Nat.mul_le_mul h4 nofun;refine PySem.P.mul_str (by rw[Bool.or_eq_false_iff,decide_eq_false_iff_not,decide_eq_false_iff_not];omega) (λ_ _=>?_) (λ_ _=>?_) ?_
  .have:(1000:Int)<=(2 ^ 63-1) / k:=by rw[Int.le_ediv_iff_mul_le nofun];omega
   omega
  .exact PyProof.Rows.short24 nofun
  .rw[if_neg nofun,if_neg (by simp only[Bool.or_eq_true,beq_iff_eq];omega)];refine⟨?_,.str _,H,I.tok _,⟨_,rfl⟩,q⟩;have e:=jB z.cps k.toNat #[];show((s0 k.toNat z.cps).foldl (·++·) #[]).size<=bn;rw[e,sizeLine_eq];have:k.toNat*z.cps.size=z.length*k.toNat:=Nat.mul_comm _ _;simp only[Array.size_empty]
   omega
def xC (op:Operator):bC X (binaryOp op) (xI X.K op):=by
 intro Y s U H x y v u Q I rx ry h;cases op with
 |Add=>
  have h':wL X.K x y H Q:=h;unfold wL at h'
  split at h'
  .exact w4 Y s U H _ _ v u Q I rx ry ⟨_,_,rfl,rfl,h'⟩
  .exact lh Y s U H _ _ v u Q I rx ry ⟨_,_,rfl,rfl,dI nofun,h'.2⟩
  .unfold se at h';rcases h' with⟨xs,ys,ha,hb,hz,q⟩|h'
   .exact yf Y s U H _ _ v u Q I rx ry ⟨_,_,xs,ys,rfl,rfl,ha,hb,dI nofun,q⟩
   .exact h'.elim
  .exact h'.elim
 |Sub=>
  have h':xm x y H Q:=h;unfold xm at h'
  split at h'
  .exact xF Y s U H _ _ v u Q I rx ry ⟨_,_,rfl,rfl,h'⟩
  .exact h'.elim
 |Mult=>
  have h':wD X.K x y H Q:=h;unfold wD at h'
  split at h'
  .exact yp Y s U H _ _ v u Q I rx ry ⟨_,_,rfl,rfl,h'.1,h'.2⟩
  .rename_i k;unfold uU at h';rcases h' with⟨xs,ha,h1,h2,hz,q⟩|h'
   .refine xi Y s U H _ _ v u Q I rx ry ⟨_,k,xs,rfl,rfl,ha,by omega,by omega,dI ?_,q⟩;have:xs.length*k.toNat<=1000*1000:=Nat.mul_le_mul hz nofun
    omega
   .exact h'.elim
  .exact sN I rx ry h'
  .exact h'.elim
 |FloorDiv=>
  have h':wa x y H Q:=h;unfold wa at h'
  split at h'
  .exact si Y s U H _ _ v u Q I rx ry ⟨_,_,rfl,rfl,h'.1,h'.2⟩
  .exact h'.elim
 |Mod=>
  have h':vW x y H Q:=h;unfold vW at h'
  split at h'
  .exact x6 Y s U H _ _ v u Q I rx ry ⟨_,_,rfl,rfl,h'.1,h'.2⟩
  .exact h'.elim
 |Pow=>
  have h':yA x y H Q:=h;unfold yA at h'
  split at h'
  .exact xB Y s U H _ _ v u Q I rx ry ⟨_,_,rfl,rfl,h'.1,h'.2⟩
  .exact h'.elim
 |_=>exact(show False from h).elim
abbrev oh (f:Int->Int->Bool):R2:=λx y H Q=>match x,y with
 | .int i,.int j=>Q (.bl (f i j)) H
 |_,_=>False
@[irreducible] noncomputable def qr (K:W.Frag) (neg:Bool):R2:=λx y H Q=>match y with
 | .ref p=>(∃ xs,(aA K H p xs\/bY K H p xs)/\av x=true/\xs.all av=true/\Q (.bl (if neg then !yr x xs else yr x xs)) H)\/False\/(neg=false/\∃ D i,ug K p D/\x=.str i/\Q (.bl (D.lookup i).isSome) H)\/False
 | .str j=>∃ i,x=.str i/\Q (.bl (if neg then !(!(Builtin.Str.occurrences j i 0 j.length 1).isEmpty) else !(Builtin.Str.occurrences j i 0 j.length 1).isEmpty)) H
 |_=>False
@[irreducible] noncomputable def rX (neg:Bool):R2:=λx y H Q=>match y with
 | .non=>Q (.bl (if neg then !decide (x=.non) else decide (x=.non))) H
 | .bl b=>False
 | .ref b=>False
 |_=>False
abbrev jT (K:W.Frag)(op:CmpOp):R2:=match op with
 | .Eq=>dE K false
 | .NotEq=>dE K true
 | .Lt=>oh λi j=>decide (i<j)
 | .LtE=>oh λi j=>decide (i<=j)
 | .Gt=>oh λi j=>decide (j<i)
 | .GtE=>oh λi j=>decide (j<=i)
 | .In=>qr K false
 | .NotIn=>λ_ _ _ _=>False
 | .Is=>rX false
 | .IsNot=>rX true
def ja {f:Int->Int->Bool}{op:CmpOp}(ho:bC X (compareOp op) (tE λi j=>.bl (f i j))):bC X (compareOp op) (oh f):=by
 intro Y s U H x y v u Q I rx ry h;unfold oh at h
 split at h
 .exact ho Y s U H _ _ v u Q I rx ry ⟨_,_,rfl,rfl,h⟩
 .exact h.elim
def xZ (hu:X.A.units+200<cLine)(op:CmpOp):bC X (compareOp op) (jT X.K op):=by
 cases op with
 |Eq=>exact vM hu
 |NotEq=>exact wA hu
 |Lt=>exact ja AB
 |LtE=>exact ja zQ
 |Gt=>exact ja Ao
 |GtE=>exact ja yQ
 |In=>
  intro Y s U H x y v u Q I rx ry h;have h':qr X.K false x y H Q:=h;unfold qr at h'
  split at h'
  .rcases h' with⟨xs,hx,f1,f2,q⟩|g|⟨_,D,i,g,rfl,q⟩|z
   .exact n9 Y s U H _ _ v u Q I rx ry ⟨_,xs,rfl,hx,f1,f2,q⟩
   .exact g.elim
   .obtain⟨t,rfl⟩:=rx;cases ry;exact zL I g λs3 I3=>⟨.bl _,H,I3,rfl,q⟩
   .exact z.elim
  .obtain⟨i,rfl,q⟩:=h';exact oV Y s U H _ _ v u Q I rx ry ⟨_,_,rfl,rfl,q⟩
  .exact h'.elim
 |NotIn=>exact λ_ _ _ _ _ _ _ _ _ _ _ _ h=>(show False from h).elim
 |Is=>
  intro Y s U H x y v u Q I rx ry h;have h':rX false x y H Q:=h;unfold rX at h'
  split at h'
  .exact wR Y s U H _ _ v u Q I rx ry ⟨rfl,h'⟩
  .exact h'.elim
  .exact h'.elim
  .exact h'.elim
 |IsNot=>
  intro Y s U H x y v u Q I rx ry h;have h':rX true x y H Q:=h;unfold rX at h'
  split at h'
  .exact sh Y s U H _ _ v u Q I rx ry ⟨rfl,h'⟩
  .exact h'.elim
  .exact h'.elim
  .exact h'.elim
@[irreducible] noncomputable def j0 (K:W.Frag):R2:=λx y H Q=>match x with
 | .ref p=>(∃ xs i v,y=.int i/\(aA K H p xs\/bY K H p xs)/\fg xs i=some v/\Q v H)\/(∃ v,xA H p y (some v)/\Q v H)\/∃ D j w,ug K p D/\y=.str j/\D.lookup j=some w/\Q (.str w) H
 | .str z=>∃ i c,y=.int i/\z.length<=100000/\fg z.cps.toList i=some c/\Q (.str ⟨#[c]⟩) H
 |_=>False
def lL (hu:X.A.units+200<cLine):yF X (j0 X.K):=by
 intro value slice Y s U H x y v u Q I rx ry h hs;unfold j0 at h
 split at h
 .rcases h with⟨xs,i,w,rfl,hx,ha,q⟩|⟨w,g,q⟩|⟨D,j,w,g,rfl,hw,q⟩
  .rcases hx with hx|hx
   .exact t8 value slice Y s U H _ _ v u Q I rx ry ⟨_,xs,i,w,rfl,rfl,hx,ha,q⟩ hs
   .exact yl value slice Y s U H _ _ v u Q I rx ry ⟨_,xs,i,w,rfl,rfl,hx,ha,q⟩ hs
  .cases rx;exact tail_any (j5 I g) PySem.F.slot_dict_getitem.lookup (oj nofun I g ry λw' s3 I3 rw'=>⟨w,H,I3,rw',q⟩) hs
  .cases rx;obtain⟨t,rfl⟩:=ry;exact tail_any (jm I g).typeIs PySem.F.slot_dict_getitem.lookup (yo I g hw λt' s3 I3=>⟨.str w,H,I3,⟨_,rfl⟩,q⟩) hs
 .obtain⟨i,c,rfl,hz,ha,q⟩:=h;exact yc value slice Y s U H _ _ v u Q I rx ry ⟨_,i,c,rfl,rfl,dI nofun,ha,q⟩ hs
 .exact h.elim
@[irreducible] noncomputable def nP:ot:=λo i v H Q=>match o with
 | .ref p=>(∃ xs k j,i=.int k/\H p=some (.lst xs)/\nj xs.length k=some j/\Q (upd H p (.lst (xs.set j v))))\/∃ H4,zp H p i v H4/\Q H4
 |_=>False
def mZ (hu:X.A.units+200<cLine):sM X nP:=by
 intro Y s U H o i v ov iv u Q I ro ri rv h;unfold nP at h
 split at h
 .rcases h with⟨xs,k,j,rfl,hp,hj,q⟩|⟨H4,g,q⟩
  .exact set_list Y s U H _ _ v ov iv u Q I ro ri rv ⟨_,xs,k,j,rfl,rfl,hp,hj,q⟩
  .cases ro;exact om nofun I g ri rv λs4 I4=>⟨H4,I4,q⟩
 .exact h.elim
def mj {v:Value}{o:Option Int}(p:IsPart v o):∃ l:Option (Int×Tok),v=partValue l:=by
 cases p with
 |none=>exact⟨none,rfl⟩
 |int i t=>exact⟨some (i,t),rfl⟩
abbrev yK:V->Option Int->Option Int->Hp->VK->Prop:=λx lo hi H Q=>∃ z,x=.str z/\z.length<=100000/\Q (.str (dk z lo hi)) H
def vz {p:Option Int}{l:Option (Int×Tok)}(h:IsPart (partValue l) p):l.map (·.1)=p:=by
 cases l with
 |none=>cases h;rfl
 |some x=>obtain⟨i,t⟩:=x;cases h;rfl
def xK:zt X yK:=by
 intro Y s U H x v vl vu lo hi sl Q I rx hs pl pu h;obtain⟨z,rfl,h0,q⟩:=h;obtain⟨t,rfl⟩:=rx;obtain⟨l,rfl⟩:=mj pl;obtain⟨u,rfl⟩:=mj pu;have el:=vz pl;have eu:=vz pu;refine⟨"str",_,PySem.F.slot_str_getitem.lookup,typeIs_str _ _ _,wpAny_getItem_str_slice (l:=l) (u:=u) (st:=none) hs rfl ?_⟩;unfold sliceMade
 split
 .rename_i hw;have e:=nU z l u (by simpa using hw);rw[el,eu]at e;exact⟨.str z,H,I,⟨_,rfl⟩,by rw[<-e]at q;exact q⟩
 .rw[pF,el,eu];exact⟨dI (Nat.le_trans (dR z lo hi) (Nat.le_trans h0 (by decide))),⟨.str _,H,I.tok _,⟨_,rfl⟩,q⟩⟩
@[irreducible] noncomputable def o5 (K:W.Frag):V->Option Int->Option Int->Hp->VK->Prop:=λx lo hi H Q=>match x with
 | .ref a=>(∃ xs,aA K H a xs/\∀ p,H p=none->Q (.ref p) (upd H p (.lst (cX xs lo hi))))\/False
 | .str z=>yK (.str z) lo hi H Q
 |_=>False
def xN:zt X (o5 X.K):=by
 intro Y s U H x v vl vu lo hi sl Q I rx hs pl pu h;unfold o5 at h
 split at h
 .rcases h with⟨xs,hx,q⟩|h
  .exact tm Y s U H _ v vl vu lo hi sl Q I rx hs pl pu ⟨_,xs,rfl,hx,q⟩
  .exact h.elim
 .exact xK Y s U H _ v vl vu lo hi sl Q I rx hs pl pu h
 .exact h.elim
end
end L2
namespace L3
open PySem L2
set_option genSizeOf false
inductive Bf where
 |len|list|tuple|int|str|min|max|abs|all|any|dict|sum
 deriving DecidableEq
inductive Lm where
 |append|extend|insert|pop|clear|reverse|count
 deriving DecidableEq
inductive Sm where
 |join|split|starts
 deriving DecidableEq
inductive Cl where
 |own (c:Nat)|ty (n:String)
mutual
inductive Ex where
 |v (i:Nat)|int (i:Int)|bl (b:Bool)|non|str (x:Str)|gl (x:Str)
 |bin (op:Operator) (a b:Ex)|neg (a:Ex)|not (a:Ex)|and (a b:Ex)|or (a b:Ex)
 |cmp (op:CmpOp) (a b:Ex)|cmp2 (o1 o2:CmpOp) (a b c:Ex)|cmp3 (o1 o2 o3:CmpOp) (a b c d:Ex)
 |ife (c:Tx) (a b:Ex)|tup (es:c9)|lst (es:c9)|ix (a i:Ex)|sl (a:Ex) (lo hi:AF)
 |fld (a:Ex) (f:Str)|call (f:Nat) (es:c9)|meth (a:Ex) (m:Str) (es:c9)|lm (m:Lm) (a:Ex) (es:c9)|make (c:Nat) (es:c9)|bini (es:c9)|cini (c:Nat) (es:c9)
 |bf (b:Bf) (es:c9)|sm (m:Sm) (a b:Ex)|isi (a:Ex) (c:Cl)|lc (elt:Ex) (sel:List Nat) (it:vn)|lci (elt:Ex) (c:Tx) (sel:List Nat) (it:vn)|lct (elt:Ex) (n:Nat) (sel:List Nat) (it:vn)|lcu (elt:Ex) (c:Tx) (n:Nat) (sel:List Nat) (it:vn)|dnew|up (a:Ex)|dzip (a b:Ex)|isiT (a:Ex) (cs:List Nat)|vals (tp:Bool) (a:Ex)|mk0 (c:Nat)|disp (ks:List Str) (es:c9)|lix (a b:Ex)|rev (a b:Ex)|dget (a k d:Ex)
inductive Tx where
 |not (a:Tx)|and (a b:Tx)|or (a b:Tx)|cmp (op:CmpOp) (a b:Ex)|cmp2 (o1 o2:CmpOp) (a b c:Ex)|val (e:Ex)
inductive c9 where
 |nil|cons (e:Ex) (es:c9)
inductive AF where
 |no|yes (e:Ex)
inductive vn where
 |rng1 (a:Ex)|rng2 (a b:Ex)|rng3 (a b c:Ex)|enm (a:Ex)|enf (a:Ex)|seq (a:Ex)|zip (a b:Ex)|zip3 (a b c:Ex)
end
inductive AJ where
 |nm (i:Nat)|tp (is:List Nat)|nt (i:Nat) (is:List Nat)
mutual
inductive Sx where
 |asg (i:Nat) (e:Ex)|asgT (is:List Nat) (e:Ex)|par (is:List Nat) (es:c9)|sub (o i v:Ex)|fld (o:Ex) (f:Str) (v:Ex)
 |aug (i:Nat) (op:Operator) (e:Ex)|augS (o i:Ex) (op:Operator) (e:Ex)|augF (o:Ex) (f:Str) (op:Operator) (e:Ex)
 |ret (e:Ex)|retN|pass|brk|cont|expr (e:Ex)
 |ife (c:Tx) (a b:gT)|whl (c:Tx) (b:gT)|for (t:AJ) (it:vn) (b:gT)|rais (e:Ex)|tryx (b:gT) (hs:r8)
inductive gT where
 |nil|cons (s:Sx) (r:gT)
inductive r8 where
 |nil|cons (c:Nat) (i:Nat) (b:gT) (hs:r8)
end
structure aN where
 ps:List Str
 N:List Str
 dfl:List V
 body:gT
/-- what of the text never changes. gfn,gcl:the global names of defs and classes,by number;gbl:built-in names that are not shadowed;gbi:classes of exceptions whose __init__ is the built-in one;na:class and name that no class of it has;
  me:class,name,def;ini:class,its __init__;oc,xc:plain classes,classes of exceptions;sub,subT:isinstance -/
structure Tab where
 fns:List aN
 gfn:List (Str×Nat)
 gcl:List (Str×Nat)
 gbl:List Str
 gbi:List Str
 na:List (Nat×Str)
 me:List ((Nat×Str)×Nat)
 ini:List (Nat×Nat)
 ini0:List Nat
 inip:List Nat
 oc:List Nat
 xc:List Nat
 sub:List ((Nat×Nat)×Bool)
 subT:List ((Nat×String)×Bool)
 subB:List ((String×String)×Bool)
 subO:List ((String×Nat)×Bool)
 cin:List (Nat×Nat):=[]
structure Rt where
 K:W.Frag
 fad:Nat->Addr
 cad:Nat->Addr
 gl:Str->Option V
structure Gx where
 T:Tab
 R:Rt
 Ψ:Nat->Sp
 cm:Bool
@[irreducible] noncomputable def fm (c:Bool) (A B:Prop):Prop:=match c with
 |true=>A
 |false=>B
def cD (c:Bool)(A B:Prop):fm c A B=(if c=true then A else B):=by unfold fm;cases c<;>rfl
abbrev wU (K:W.Frag)(x:V)(H:Hp)(Q:Bool->Hp->Prop):Prop:=match x with
 | .bl k=>Q k H
 |y=>∃ k,sJ K y H k/\Q k H
abbrev tyName:V->Hp->Option String
 | .non,_=>some "NoneType"
 | .bl _,_=>some "bool"
 | .int _,_=>some "int"
 | .str _,_=>some "str"
 | .ref a,H=>match H a with
  |some (.lst _)=>some "list"
  |some (.tup _)=>some "tuple"
  |some (.dK _)=>some "dict"
  |some (.fL _ (.dK _))=>some "dict"
  |_=>none
 |_,_=>none
@[irreducible] noncomputable def gN (G:Gx) (b:Bf) (vs:List V) (H:Hp) (Q:VK):Prop:=match b with
 | .len=>∃ x n,vs=[x]/\zV G.R.K x H n/\Q (.int n) H
 | .list=>(∃ p ys,vs=[.ref p]/\(aA G.R.K H p ys\/bY G.R.K H p ys)/\∀ l,H l=none->Q (.ref l) (upd H l (.lst ys)))\/(G.cm=true/\∃ p kvs,vs=[.ref p]/\Rd H p (.dK kvs)/\∀ l,H l=none->Q (.ref l) (upd H l (.lst (kvs.map (λkv=>kV kv.1)))))
 | .tuple=>∃ p ys,vs=[.ref p]/\((aA G.R.K H p ys/\∀ l,H l=none->Q (.ref l) (upd H l (.tup ys)))\/(bY G.R.K H p ys/\Q (.ref p) H))
 | .int=>((∃ i,vs=[.int i]/\Q (.int i) H)\/∃ k,vs=[.bl k]/\Q (.int (if k then 1 else 0)) H)\/∃ z n,vs=[.str z]/\PySem.intText? z=some n/\z.length<=640/\Q (.int n) H
 | .str=>(∃ i,vs=[.int i]/\i.natAbs.log2<1920/\Q (.str (toString i)) H)\/∃ z,vs=[.str z]/\Q (.str z) H
 | .min=>G.cm=true/\((∃ i j,vs=[.int i,.int j]/\Q (.int (if j<i then j else i)) H)\/False)
 | .max=>False
 | .abs=>False
 | .all=>G.cm=true/\∃ p,∃ bs:List Bool,vs=[.ref p]/\aA G.R.K H p (bs.map V.bl)/\Q (.bl (bs.all id)) H
 | .any=>False
 | .dict=>False
 | .sum=>False
@[irreducible] noncomputable def y9 (m:Lm) (p:Addr) (xs:List V) (vs:List V) (H:Hp) (Q:VK):Prop:=match m with
 | .append=>∃ y,vs=[y]/\xs.length<=10000/\Q .non (upd H p (.lst (xs++[y])))
 | .extend=>False
 | .insert=>False
 | .pop=>False
 | .clear=>False
 | .reverse=>False
 | .count=>False
abbrev dflt (G:Gx)(f n:Nat):List V:=match G.T.fns[f]? with
 |some d=>d.dfl.drop (n+d.dfl.length-d.ps.length)
 |none=>[]
abbrev c9.len:c9->Nat
 | .nil=>0
 | .cons _ es=>es.len+1
abbrev mF (G:Gx)(H:Hp)(a:Addr)(i:Nat):Prop:=(G.T.oc.contains i=true/\∃ dx fs,H a=some (.ins (G.R.cad i) dx fs))\/(G.T.xc.contains i=true/\∃ dx fs fr,H a=some (.exc (G.R.cad i) dx fs fr))
@[irreducible] noncomputable def ft (G:Gx) (c:Cl) (x:V) (H:Hp) (Q:VK):Prop:=match c with
 | .ty n=>(∃ t b,tyName x H=some t/\G.T.subB.lookup (t,n)=some b/\Q (.bl b) H)\/∃ a i b,x=.ref a/\mF G H a i/\G.T.subT.lookup (i,n)=some b/\Q (.bl b) H
 | .own j=>(∃ t b,tyName x H=some t/\G.T.subO.lookup (t,j)=some b/\Q (.bl b) H)\/∃ a i b,x=.ref a/\mF G H a i/\G.T.sub.lookup (i,j)=some b/\Q (.bl b) H
abbrev anyS (G:Gx)(i:Nat):List Nat->Option Bool
 | []=>some false
 |c::r=>match G.T.sub.lookup (i,c) with
  |some true=>some true
  |some false=>anyS G i r
  |none=>none
abbrev tX (G:Gx)(t:String):List Nat->Option Bool
 | []=>some false
 |c::r=>match G.T.subO.lookup (t,c) with
  |some true=>some true
  |some false=>tX G t r
  |none=>none
@[irreducible] noncomputable def jV (G:Gx) (cs:List Nat) (x:V) (H:Hp) (Q:VK):Prop:=(∃ t b,tyName x H=some t/\tX G t cs=some b/\Q (.bl b) H)\/∃ a i b,x=.ref a/\mF G H a i/\anyS G i cs=some b/\Q (.bl b) H
@[irreducible] noncomputable def gU (G:Gx) (f:Str) (x:V) (H:Hp) (Q:VK):Prop:=∃ a i fs v,x=.ref a/\((G.T.oc.contains i=true/\∃ dx,H a=some (.ins (G.R.cad i) dx fs))\/(G.T.xc.contains i=true/\∃ dx fr,H a=some (.exc (G.R.cad i) (some dx) fs fr)))/\
 G.T.na.contains (i,f)=true/\fs.lookup f=some v/\Q v H
@[irreducible] noncomputable def r6 (G:Gx) (f:Str) (x y:V) (H:Hp) (Q:Hp->Prop):Prop:=∃ a i,x=.ref a/\G.T.na.contains (i,f)=true/\
 ((∃ dx fs,G.T.oc.contains i=true/\H a=some (.ins (G.R.cad i) dx fs)/\fs.length<1000/\Q (upd H a (.ins (G.R.cad i) dx (bt f y fs))))\/
  (∃ d fs fr,G.T.xc.contains i=true/\H a=some (.exc (G.R.cad i) (some d) fs fr)/\fs.length<1000/\Q (upd H a (.exc (G.R.cad i) (some d) (bt f y fs) fr)))\/
  (∃ fr,G.T.xc.contains i=true/\H a=some (.exc (G.R.cad i) none [] fr)/\∀ d,H d=none->Q (upd (upd H d (.own a)) a (.exc (G.R.cad i) (some d) [(f,y)] fr))))
abbrev zG (op:Operator)(x y:V)(H:Hp)(Q:VK):Prop:=match op,x,y with
 | .Add,.int i,.int j=>Q (.int (i+j)) H
 | .Sub,.int i,.int j=>Q (.int (i-j)) H
 |_,_,_=>False
@[irreducible] noncomputable def pA (K:W.Frag) (x y:V) (H:Hp) (Q:VK):Prop:=match x,y with
 | .ref p,.int i=>∃ xs v,aA K H p xs/\0<=i/\xs[i.toNat]? =some v/\Q v H
 |_,_=>False
abbrev sD (U:St):List Nat->List V->St
 |i::is,x::xs=>sD (U.set i (some x)) is xs
 |_,_=>U
@[irreducible] noncomputable def qv (K:W.Frag) (m:Sm) (z:Str) (y:V) (H:Hp) (Q:VK):Prop:=match m with
 | .join=>rJoin K (.str z) [y] H Q
 | .split=>k6 (.str z) [y] H Q
 | .starts=>i7 (.str z) [y] H Q
@[irreducible] noncomputable def uB (xs:List V) (H:Hp) (Q:VK):Prop:=xs.length<=10000/\∀ p,H p=none->Q (.ref p) (upd H p (.lst xs))
@[irreducible] noncomputable def lB (xs:List V) (H:Hp) (Q:VK):Prop:=xs.length<=10000/\∀ p,H p=none->Q (.ref p) (upd H p (.tup xs))
@[irreducible] noncomputable def newD (H:Hp) (Q:VK):Prop:=∀ p,H p=none->Q (.ref p) (upd H p (.dK []))
@[irreducible] noncomputable def kY (K:W.Frag) (p:Addr) (H:Hp) (R:It->Hp->Prop):Prop:=((∃ xs,aA K H p xs)/\R (yH K p) H)\/((∃ xs,bY K H p xs)/\R (zX K p) H)\/False
@[irreducible] noncomputable def nv (te:TE) (J:It) (σ₀:St) (H1:Hp) (Q:VK):Prop:=LC te J σ₀ H1 Q
def o8: @nv= @LC:=by
 funext te J U H Q
 unfold nv
 rfl
@[irreducible] noncomputable def Be (tc:TT) (te:TE) (J:It) (σ₀:St) (H1:Hp) (Q:VK):Prop:=LCg (dA 0) tc te J σ₀ H1 Q
def vY: @Be= @LCg (dA 0):=by
 funext tc te J U H Q
 unfold Be
 rfl
abbrev gl (is:List Nat):uV:=λvs U H Q=>vs.length=is.length/\Q (sD U is vs) H
@[irreducible] noncomputable def LCt (K:W.Frag) (n:Nat) (te:TE) (J:It) (σ₀:St) (H1:Hp) (Q:VK):Prop:=LCg (tK K n (gl (List.range n))) yes te J σ₀ H1 Q
def xH {K:W.Frag}{n:Nat}:LCt K n=LCg (tK K n (gl (List.range n))) yes:=by
 funext te J U H Q
 unfold LCt
 rfl
abbrev yx:List Str->List V->List (Key×V)
 |k::ks,x::xs=>(.inr k,x)::yx ks xs
 |_,_=>[]
@[irreducible] noncomputable def mM (ks:List Str) (p:Addr) (xs:List V) (H:Hp) (Q:VK):Prop:=H p=some (.dK [])/\Q (.ref p) (upd H p (.dK (dh [] (yx ks xs))))
mutual
noncomputable def wE (G:Gx):Ex->St->Hp->VK->XK->Prop
 | .v i,U,H,Q,_=>match U[i]? with
  |some (some x)=>Q x H
  |_=>False
 | .int i,_,H,Q,_=>Q (.int i) H
 | .bl b,_,H,Q,_=>Q (.bl b) H
 | .non,_,H,Q,_=>Q .non H
 | .str x,_,H,Q,_=>Q (.str x) H
 | .gl x,_,H,Q,_=>match G.R.gl x with
  |some v=>Q v H
  |none=>False
 | .bin op a b,U,H,Q,E=>wE G a U H (λx H1=>wE G b U H1 (λy H2=>xI G.R.K op x y H2 Q) E) E
 | .neg a,U,H,Q,E=>wE G a U H (λx H1=>match x with| .int i=>Q (.int (-i)) H1|_=>False) E
 | .not a,U,H,Q,E=>wE G a U H (λx H1=>match x with| .bl c=>Q (.bl (!c)) H1|_=>False) E
 | .and a b,U,H,Q,E=>wE G a U H (λx H1=>match x with| .bl c=>fm c (wE G b U H1 Q E) (Q (.bl false) H1)|_=>False) E
 | .or a b,U,H,Q,E=>wE G a U H (λx H1=>match x with| .bl c=>fm c (Q (.bl true) H1) (wE G b U H1 Q E)|_=>False) E
 | .cmp op a b,U,H,Q,E=>wE G a U H (λx H1=>wE G b U H1 (λy H2=>jT G.R.K op x y H2 Q) E) E
 | .cmp2 o1 o2 a b c,U,H,Q,E=>wE G a U H (λx H1=>wE G b U H1 (λy H2=>jT G.R.K o1 x y H2 λz H3=>match z with| .bl k=>fm k (wE G c U H3 (λw H4=>jT G.R.K o2 y w H4 Q) E) (Q (.bl false) H3)|_=>False) E) E
 | .cmp3 o1 o2 o3 a b c d,U,H,Q,E=>False
 | .ife c a b,U,H,Q,E=>wT G c U H (λk H1=>fm k (wE G a U H1 Q E) (wE G b U H1 Q E)) E
 | .tup es,U,H,Q,E=>wEs G es U H (λxs H1=>lB xs H1 Q) E
 | .lst es,U,H,Q,E=>wEs G es U H (λxs H1=>uB xs H1 Q) E
 | .ix a i,U,H,Q,E=>wE G a U H (λx H1=>wE G i U H1 (λy H2=>j0 G.R.K x y H2 Q) E) E
 | .sl a lo hi,U,H,Q,E=>wE G a U H (λx H1=>wO G lo U H1 (λl H2=>wO G hi U H2 (λu H3=>o5 G.R.K x l u H3 Q) E) E) E
 | .fld a f,U,H,Q,E=>wE G a U H (λx H1=>gU G f x H1 Q) E
 | .call f es,U,H,Q,E=>G.cm=true/\wEs G es U H (λvs H1=>G.Ψ f (vs++dflt G f es.len) H1 Q E) E
 | .meth a m es,U,H,Q,E=>G.cm=true/\wE G a U H (λx H1=>∃ p i dx fs f,x=.ref p/\H1 p=some (.ins (G.R.cad i) dx fs)/\fs.lookup m=none/\G.T.me.lookup (i,m)=some f/\
   wEs G es U H1 (λvs H2=>G.Ψ f (x::(vs++dflt G f (es.len+1))) H2 Q E) E) E
 | .lm m a es,U,H,Q,E=>wE G a U H (λx H1=>∃ p xs0,x=.ref p/\H1 p=some (.lst xs0)/\wEs G es U H1 (λvs H2=>∃ xs,H2 p=some (.lst xs)/\y9 m p xs vs H2 Q) E) E
 | .make c es,U,H,Q,E=>G.cm=true/\match G.T.ini.lookup c with
  |none=>G.T.ini0.contains c=true/\wEs G es U H (λvs H1=>vs.length=1/\∀ x,H1 x=none->Q (.ref x) (upd H1 x (.exc (G.R.cad c) none [] true))) E
  |some f=>if G.T.xc.contains c=true then wEs G es U H (λvs H1=>vs.length<=1000/\∀ x,H1 x=none->G.Ψ f (.ref x::(vs++dflt G f (es.len+1))) (upd H1 x (.exc (G.R.cad c) none [] true)) (λv H2=>v=.non/\Q (.ref x) H2) E) E
   else wEs G es U H (λvs H1=>∀ x dx,H1 x=none->H1 dx=none->dx≠x->G.Ψ f (.ref x::(vs++dflt G f (es.len+1))) (upd (upd H1 dx (.own x)) x (.ins (G.R.cad c) dx [])) (λv H2=>v=.non/\Q (.ref x) H2) E) E
 | .bini es,U,H,Q,E=>wEs G es U H (λvs H1=>∃ a i dx fs fr v,vs=[.ref a,v]/\H1 a=some (.exc (G.R.cad i) dx fs fr)/\G.T.xc.contains i=true/\Q .non H1) E
 | .cini c es,U,H,Q,E=>False
 | .bf b es,U,H,Q,E=>wEs G es U H (λvs H1=>gN G b vs H1 Q) E
 | .isi a c,U,H,Q,E=>wE G a U H (λx H1=>ft G c x H1 Q) E
 | .lc elt sel it,U,H,Q,E=>G.cm=true/\wI G it U H (λJ H1=>nv (λσ' H' Q'=>wE G elt σ' H' Q' E) J (none::fh U sel) H1 Q) E
 | .lci elt c sel it,U,H,Q,E=>False
 | .lct elt n sel it,U,H,Q,E=>False
 | .lcu elt c n sel it,U,H,Q,E=>False
 | .dnew,_,H,Q,_=>newD H Q
 | .sm m a b,U,H,Q,E=>wE G a U H (λx H1=>∃ z,x=.str z/\wE G b U H1 (λy H2=>qv G.R.K m z y H2 Q) E) E
 | .up a,U,H,Q,E=>False
 | .isiT a cs,U,H,Q,E=>wE G a U H (λx H1=>∀ p,H1 p=none->jV G cs x (upd H1 p (.tup (cs.map λc=>.ref (G.R.cad c)))) Q) E
 | .mk0 c,_,H,Q,_=>False
 | .disp ks es,U,H,Q,E=>∀ p,H p=none->wEs G es U (upd H p (.dK [])) (λxs H2=>mM ks p xs H2 Q) E
 | .dget a k d,U,H,Q,E=>False
 | .rev a b,U,H,Q,E=>False
 | .lix a b,U,H,Q,E=>False
 | .vals tp a,U,H,Q,E=>False
 | .dzip a b,U,H,Q,E=>False
noncomputable def wT (G:Gx):Tx->St->Hp->(Bool->Hp->Prop)->XK->Prop
 | .not a,U,H,Q,E=>wT G a U H (λc H1=>Q (!c) H1) E
 | .and a b,U,H,Q,E=>wT G a U H (λc H1=>fm c (wT G b U H1 Q E) (Q false H1)) E
 | .or a b,U,H,Q,E=>wT G a U H (λc H1=>fm c (Q true H1) (wT G b U H1 Q E)) E
 | .cmp op a b,U,H,Q,E=>wE G a U H (λx H1=>wE G b U H1 (λy H2=>jT G.R.K op x y H2 λz H3=>match z with| .bl k=>Q k H3|_=>False) E) E
 | .cmp2 o1 o2 a b c,U,H,Q,E=>wE G a U H (λx H1=>wE G b U H1 (λy H2=>jT G.R.K o1 x y H2 λz H3=>match z with| .bl k=>fm k (wE G c U H3 (λw H4=>jT G.R.K o2 y w H4 λz H5=>match z with| .bl k=>Q k H5|_=>False) E) (Q false H3)|_=>False) E) E
 | .val e,U,H,Q,E=>wE G e U H (λx H1=>wU G.R.K x H1 Q) E
noncomputable def wEs (G:Gx):c9->St->Hp->(List V->Hp->Prop)->XK->Prop
 | .nil,_,H,Q,_=>Q [] H
 | .cons e es,U,H,Q,E=>wE G e U H (λx H1=>wEs G es U H1 (λxs H2=>Q (x::xs) H2) E) E
noncomputable def wO (G:Gx):AF->St->Hp->(Option Int->Hp->Prop)->XK->Prop
 | .no,_,H,Q,_=>Q none H
 | .yes e,U,H,Q,E=>wE G e U H (λx H1=>match x with| .int i=>Q (some i) H1|_=>False) E
noncomputable def wI (G:Gx):vn->St->Hp->(It->Hp->Prop)->XK->Prop
 | .rng1 a,U,H,R,E=>wE G a U H (λx H1=>match x with| .int j=>-(2 ^ 62)<=j/\j<2 ^ 62/\R (vF 0 j.toNat) H1|_=>False) E
 | .rng2 a b,U,H,R,E=>wE G a U H (λx H1=>wE G b U H1 (λy H2=>match x,y with| .int i,.int j=>(-(2 ^ 62)<=i/\i<2 ^ 62/\ -(2 ^ 62)<=j/\j<2 ^ 62)/\R (vF i (j-i).toNat) H2|_,_=>False) E) E
 | .rng3 a b c,U,H,R,E=>False
 | .enm a,U,H,R,E=>False
 | .enf a,U,H,R,E=>False
 | .seq a,U,H,R,E=>wE G a U H (λx H1=>match x with| .ref p=>kY G.R.K p H1 R| .str z=>R (wM z) H1|_=>False) E
 | .zip a b,U,H,R,E=>False
 | .zip3 a b c,U,H,R,E=>False
end
abbrev A5 (D:Ends)(f:St->Hp->Prop):Ends:={ D with nx:=f }
abbrev zF (D:Ends)(N:St->Hp->Prop):Ends:={ D with nx:=N,ct:=N,bk:=D.nx }
abbrev CA (D:Ends)(i:Nat):Ends:={ nx:=λσ' H'=>D.nx (σ'.set i none) H',rt:=D.rt,bk:=λσ' H'=>D.bk (σ'.set i none) H',ct:=λσ' H'=>D.ct (σ'.set i none) H' }
abbrev wG (U:St)(t:AJ)(K:W.Frag)(x:V)(H:Hp)(Q:St->Prop):Prop:=match t with
 | .nm i=>Q (U.set i (some x))
 | .tp is=>∃ a xs,x=.ref a/\(bY K H a xs\/aA K H a xs)/\xs.length=is.length/\Q (sD U is xs)
 | .nt i is=>∃ a y b ys,x=.ref a/\bY K H a [y,.ref b]/\bY K H b ys/\ys.length=is.length/\Q (sD (U.set i (some y)) is ys)
@[irreducible] noncomputable def og (J:It) (D:Ends) (F:(St->Hp->Prop)->V->St->Hp->Prop) (U:St) (H1:Hp):Prop:=∃ W:Nat->Nat->St->Hp->Prop,(∃ m,W 0 m U H1)/\∀ i m U H,W i m U H->
 (J.stop i H/\D.nx U H)\/(J.go i H/\∃ N:St->Hp->Prop,(∀ σ' H',N σ' H'->∃ m',m'<m/\W (i+1) m' σ' H')/\∀ x H',J.yld i H x H'->F N x U H')
mutual
noncomputable def wS:Sx->Gx->Ends->(St->XK)->St->Hp->Prop
 | .asg i e,G,D,E,U,H=>wE G e U H (λx H1=>D.nx (U.set i (some x)) H1) (E U)
 | .asgT is e,G,D,E,U,H=>False
 | .par is es,G,D,E,U,H=>False
 | .sub o i v,G,D,E,U,H=>wE G v U H (λy H1=>wE G o U H1 (λov H2=>wE G i U H2 (λiv H3=>nP ov iv y H3 (λH4=>D.nx U H4)) (E U)) (E U)) (E U)
 | .fld o f v,G,D,E,U,H=>wE G v U H (λy H1=>wE G o U H1 (λx H2=>r6 G f x y H2 (λH3=>D.nx U H3)) (E U)) (E U)
 | .aug i op e,G,D,E,U,H=>False
 | .augS o i op e,G,D,E,U,H=>wE G o U H (λov H1=>wE G i U H1 (λiv H2=>pA G.R.K ov iv H2 (λx H3=>wE G e U H3 (λy H4=>zG op x y H4 (λz H5=>nP ov iv z H5 (λH6=>D.nx U H6))) (E U))) (E U)) (E U)
 | .augF o f op e,G,D,E,U,H=>wE G o U H (λx H1=>gU G f x H1 (λu H2=>wE G e U H2 (λy H3=>zG op u y H3 λz H4=>r6 G f x z H4 (λH5=>D.nx U H5)) (E U))) (E U)
 | .ret e,G,D,E,U,H=>wE G e U H D.rt (E U)
 | .retN,_,D,_,_,H=>False
 | .pass,_,D,_,U,H=>False
 | .brk,_,D,_,U,H=>False
 | .cont,_,D,_,U,H=>False
 | .expr e,G,D,E,U,H=>wE G e U H (λ_ H1=>D.nx U H1) (E U)
 | .ife c a b,G,D,E,U,H=>wT G c U H (λk H1=>fm k (wB a G D E U H1) (wB b G D E U H1)) (E U)
 | .whl c b,G,D,E,U,H=>False
 | .for t it b,G,D,E,U,H=>G.cm=true/\wI G it U H (λJ H1=>og J D (λN x U H'=>wG U t G.R.K x H' λσ2=>wB b G (zF D N) E σ2 H') U H1) (E U)
 | .rais e,G,_,E,U,H=>G.cm=true/\wE G e U H (λv H1=>∃ a i dx fs,v=.ref a/\H1 a=some (.exc (G.R.cad i) dx fs true)/\G.T.xc.contains i=true/\E U a (upd H1 a (.exc (G.R.cad i) dx fs false))) (E U)
 | .tryx b hs,G,D,_,U,H=>G.cm=true/\wB b G D (λσ' e H'=>wH hs G D σ' e H') U H
noncomputable def wB:gT->Gx->Ends->(St->XK)->St->Hp->Prop
 | .nil,_,D,_,U,H=>D.nx U H
 | .cons s r,G,D,E,U,H=>wS s G (A5 D λσ1 H1=>wB r G D E σ1 H1) E U H
noncomputable def wH:r8->Gx->Ends->St->Addr->Hp->Prop
 | .nil,_,_,_,_,_=>False
 | .cons c i b hs,G,D,U,e,H=>∃ j dx fs k,H e=some (.exc (G.R.cad j) dx fs false)/\G.T.xc.contains j=true/\G.T.sub.lookup (j,c)=some k/\
   fm k (wB b { G with cm:=false } (CA D i) (λ_ _ _=>False) (U.set i (some (.ref e))) H)
    (wH hs G D U e H)
end
end L3
namespace L3
open PySem PySem.Spec L2 PyProof.Rows
structure Sn where
 T:Tab
 sc:Scope
 N:List Str
abbrev Sn.kS (S:Sn)(x:Str):Bool:=decide (S.sc.names.lookup x=some .globalImplicit)&& !(x ==("__debug__":Str))
abbrev Sn.Ar (S:Sn)(x:Str):Bool:=(decide (S.sc.names.lookup x=some .local)||decide (S.sc.names.lookup x=some .cell)||decide (S.sc.names.lookup x=some .free))&& !(x ==("__debug__":Str))&& !(x ==("__classdict__":Str))
abbrev Sn.loc (S:Sn)(i:Nat)(x:Str):Bool:=decide (S.N[i]? =some x)&&(decide (S.sc.names.lookup x=some .local)||decide (S.sc.names.lookup x=some .cell))
abbrev lQ:Expr->Bool
 | .ListComp .. | .SetComp .. | .DictComp ..=>false
 |_=>true
abbrev bX:Expr->Bool
 | .Set ..=>false
 |_=>true
abbrev cH:Expr->Bool
 | .Slice ..=>false
 |_=>true
abbrev cI:Expr->Bool
 | .Call (.Name _ _) [] [] _=>false
 |_=>true
abbrev plainT:Expr->Bool
 | .UnaryOp .Not _ _| .BoolOp .. | .IfExp .. | .Compare ..=>false
 |_=>true
abbrev pd:Bf->String
 | .len=>"len"| .list=>"list"| .tuple=>"tuple"| .int=>"int"| .str=>"str"| .min=>"min"| .max=>"max"| .abs=>"abs"| .all=>"all"| .any=>"any"| .dict=>"dict"| .sum=>"sum"
abbrev pV:Lm->String
 | .append=>"append"| .extend=>"extend"| .insert=>"insert"| .pop=>"pop"| .clear=>"clear"| .reverse=>"reverse"| .count=>"count"
abbrev pU:Sm->String
 | .join=>"join"| .split=>"split"| .starts=>"startswith"
abbrev fJ:List String:=["int","bool","str","list","tuple","dict","ValueError"]
abbrev uj (S:Sn):Cl->Expr->Bool
 | .own c,.Name x _=>S.kS x&&decide (S.T.gcl.lookup x=some c)
 | .ty n,.Name x _=>S.kS x&&decide (x=(n:Str))&&S.T.gbl.contains x&&fJ.contains n
 |_,_=>false
abbrev lX (S:Sn):List Nat->List Expr->Bool
 | [],[]=>true
 |c::cs,.Name x _::es=>S.kS x&&decide (S.T.gcl.lookup x=some c)&&lX S cs es
 |_,_=>false
abbrev cQ (outer inner:Scope):Scope:=
 { inner with names:=inner.names.map λ(n,k)=>if(k ==.free&&outer.kind ==.function&&outer.names.lookup n ==some .cell) then(n,.cell) else(n,k) }
abbrev eK (S:Sn)(scope:Scope)(xs:List Str)(sel:List Nat):Bool:=
 decide (scope.kind=.function)&&decide (S.sc.kind=.function)&&scope.names.all (λy=>y.2 != .cell&&(y.2 != .local||decide (scope.names.lookup y.1=some .local))&&(y.2 != .free||(decide (S.sc.names.lookup y.1=some .cell))))&&xs.all (λx=>decide (scope.names.lookup x=some .local))&&
 sel.all (λi=>match S.N[i]? with|some y=>decide (S.sc.names.lookup y=some .cell)&&decide ((cQ S.sc scope).names.lookup y=some .cell)|none=>false)&&decide ((xs++sel.filterMap λi=>S.N[i]?).Nodup)
abbrev Ag:List Expr->List Str
 | .Name x _::r=>x::Ag r
 |_=>[]
abbrev qQ (S:Sn):List Nat->List Expr->Bool
 | [],[]=>true
 |i::is,.Name x _::r=>decide (S.N[i]? =some x)&&decide (S.sc.names.lookup x=some .local)&&qQ S is r
 |_,_=>false
abbrev jb:List Str->List (Option Expr)->Bool
 | [],[]=>true
 |k::ks,some (.Constant (.str x) _ _)::r=>decide (k=x)&&jb ks r
 |_,_=>false
mutual
noncomputable def mE (S:Sn):Ex->Expr->Bool
 | .v i,e=>match e with| .Name x _=>decide (S.N[i]? =some x)&&S.Ar x|_=>false
 | .int i,e=>match e with| .Constant y1 _ _=>(match y1 with| .int j=>decide (i=j)|_=>false)|_=>false
 | .bl i,e=>match e with| .Constant y1 _ _=>(match y1 with| .bool j=>decide (i=j)|_=>false)|_=>false
 | .non,e=>match e with| .Constant y1 _ _=>(match y1 with| .none=>true|_=>false)|_=>false
 | .str i,e=>match e with| .Constant y1 _ _=>(match y1 with| .str j=>decide (i=j)|_=>false)|_=>false
 | .gl x,e=>match e with| .Name y _=>decide (x=y)&&S.kS y|_=>false
 | .bin op a b,e=>match e with| .BinOp a' op' b' _=>decide (op=op')&&mE S a a'&&mE S b b'|_=>false
 | .neg a,e=>match e with| .UnaryOp y1 a' _=>(match y1 with| .USub=>mE S a a'|_=>false)|_=>false
 | .not a,e=>match e with| .UnaryOp y1 a' _=>(match y1 with| .Not=>mE S a a'|_=>false)|_=>false
 | .and a b,e=>match e with| .BoolOp y1 y2 p=>(match y1 with| .And=>(match y2 with|a'::b'::r=>mE S a a'&&mE S b (match r with| []=>b'|_=>.BoolOp .And (b'::r) p)|_=>false)|_=>false)|_=>false
 | .or a b,e=>match e with| .BoolOp y1 y2 p=>(match y1 with| .Or=>(match y2 with|a'::b'::r=>mE S a a'&&mE S b (match r with| []=>b'|_=>.BoolOp .Or (b'::r) p)|_=>false)|_=>false)|_=>false
 | .cmp op a b,e=>match e with| .Compare a' y1 y2 _=>(match y1 with| [op']=>(match y2 with| [b']=>decide (op=op')&&mE S a a'&&mE S b b'&&bX b'|_=>false)|_=>false)|_=>false
 | .cmp2 o1 o2 a b c,e=>match e with| .Compare a' y1 y2 _=>(match y1 with| [p1,p2]=>(match y2 with| [b',c']=>decide (o1=p1)&&decide (o2=p2)&&mE S a a'&&mE S b b'&&mE S c c'&&bX c'|_=>false)|_=>false)|_=>false
 | .cmp3 o1 o2 o3 a b c d,_=>false
 | .ife c a b,e=>match e with| .IfExp c' a' b' _=>mT S c c'&&mE S a a'&&mE S b b'|_=>false
 | .tup es,e=>match e with| .Tuple es' _ _=>fq S es es'|_=>false
 | .lst es,e=>match e with| .List es' _=>fq S es es'|_=>false
 | .ix a i,e=>match e with| .Subscript a' i' _=>mE S a a'&&mE S i i'&&cH i'|_=>false
 | .sl a lo hi,e=>match e with| .Subscript a' y1 _=>(match y1 with| .Slice lo' hi' y2 _=>(match y2 with|none=>mE S a a'&&mO S lo lo'&&mO S hi hi'|_=>false)|_=>false)|_=>false
 | .fld a f,e=>match e with| .Attribute a' f' _=>mE S a a'&&decide (f=f')&&cI a'|_=>false
 | .call f es,e=>match e with| .Call y1 es' y2 _=>(match y1 with| .Name x _=>(match y2 with| []=>S.kS x&&decide (S.T.gfn.lookup x=some f)&&fq S es es'|_=>false)|_=>false)|_=>false
 | .meth a m es,e=>match e with| .Call y1 es' y2 q=>(match y1 with| .Attribute a' m' p=>(match y2 with| []=>mE S a a'&&decide (m=m')&&fq S es es'&&cI a'&&(p.endLine ==q.line)&&decide (es.len<20)|_=>false)|_=>false)|_=>false
 | .dget a k d,_=>false
 | .rev a b,_=>false
 | .lix a b,_=>false
 | .lm m a es,e=>match e with| .Call y1 es' y2 q=>(match y1 with| .Attribute a' m' p=>(match y2 with| []=>mE S a a'&&decide (m'=(pV m:Str))&&fq S es es'&&cI a'&&(p.endLine ==q.line)&&decide (es.len<20)|_=>false)|_=>false)|_=>false
 | .make c es,e=>match e with| .Call y1 es' y2 _=>(match y1 with| .Name x _=>(match y2 with| []=>S.kS x&&decide (S.T.gcl.lookup x=some c)&&fq S es es'|_=>false)|_=>false)|_=>false
 | .bini es,e=>match e with| .Call y1 es' y2 q=>(match y1 with| .Attribute y3 m p=>(match y3 with| .Name x _=>(match y2 with| []=>S.kS x&&decide (m=("__init__":Str))&&S.T.gbi.contains x&&fq S es es'&&decide (es.len=2)&&(p.endLine ==q.line)|_=>false)|_=>false)|_=>false)|_=>false
 | .cini c es,_=>false
 | .bf b es,e=>match e with| .Call y1 es' y2 _=>(match y1 with| .Name x _=>(match y2 with| []=>S.kS x&&decide (x=(pd b:Str))&&S.T.gbl.contains x&&fq S es es'&&decide (0<es.len)|_=>false)|_=>false)|_=>false
 | .isi a c,e=>match e with| .Call y1 y2 y3 _=>(match y1 with| .Name x _=>(match y3 with| []=>(match y2 with| [a',c']=>S.kS x&&decide (x=("isinstance":Str))&&S.T.gbl.contains x&&mE S a a'&&uj S c c'|_=>false)|_=>false)|_=>false)|_=>false
 | .lc elt sel it,e=>match e with| .ListComp elt' y1 scope _=>(match y1 with| [y2]=>(match y2 with|⟨y3,iter,y4,y5⟩=>(match y3 with| .Name x px=>(match y4 with| []=>(match y5 with|0=>eK S scope [x] sel&&mI S it (.Name x px) iter&&mE { S with sc:=cQ S.sc scope,N:=x::sel.filterMap λi=>S.N[i]? } elt elt'&&bX iter|_=>false)|_=>false)|_=>false))|_=>false)|_=>false
 | .lci elt c sel it,_=>false
 | .lct elt n sel it,_=>false
 | .lcu elt c n sel it,_=>false
 | .dnew,e=>match e with| .Dict y1 y2 _=>(match y1 with| []=>(match y2 with| []=>true|_=>false)|_=>false)|_=>false
 | .sm m a b,e=>match e with| .Call y1 es' y2 q=>(match y1 with| .Attribute a' m' p=>(match y2 with| []=>(match es' with| [b']=>mE S a a'&&decide (m'=(pU m:Str))&&mE S b b'&&notStar b'&&cI a'&&(p.endLine ==q.line)|_=>false)|_=>false)|_=>false)|_=>false
 | .up a,_=>false
 | .isiT a cs,e=>match e with| .Call y1 y2 y3 _=>(match y1 with| .Name x _=>(match y3 with| []=>(match y2 with| [a',y4]=>(match y4 with| .Tuple es' _ _=>S.kS x&&decide (x=("isinstance":Str))&&S.T.gbl.contains x&&mE S a a'&&lX S cs es'&&decide (cs.length<=100)|_=>false)|_=>false)|_=>false)|_=>false)|_=>false
 | .mk0 c,_=>false
 | .disp ks es,e=>match e with| .Dict keys vals _=>jb ks keys&&fq S es vals&&decide (es.len=ks.length)&&decide (0<ks.length)&&decide (ks.length<=15)|_=>false
 | .vals tp a,_=>false
 | .dzip a b,_=>false
noncomputable def mT (S:Sn):Tx->Expr->Bool
 | .not a,e=>match e with| .UnaryOp y1 a' _=>(match y1 with| .Not=>mT S a a'|_=>false)|_=>false
 | .and a b,e=>match e with| .BoolOp y1 y2 p=>(match y1 with| .And=>(match y2 with|a'::b'::r=>mT S a a'&&mT S b (match r with| []=>b'|_=>.BoolOp .And (b'::r) p)|_=>false)|_=>false)|_=>false
 | .or a b,e=>match e with| .BoolOp y1 y2 p=>(match y1 with| .Or=>(match y2 with|a'::b'::r=>mT S a a'&&mT S b (match r with| []=>b'|_=>.BoolOp .Or (b'::r) p)|_=>false)|_=>false)|_=>false
 | .cmp op a b,e=>match e with| .Compare a' y1 y2 _=>(match y1 with| [op']=>(match y2 with| [b']=>decide (op=op')&&mE S a a'&&mE S b b'&&bX b'|_=>false)|_=>false)|_=>false
 | .cmp2 o1 o2 a b c,e=>match e with| .Compare a' y1 y2 _=>(match y1 with| [p1,p2]=>(match y2 with| [b',c']=>decide (o1=p1)&&decide (o2=p2)&&mE S a a'&&mE S b b'&&mE S c c'&&bX c'|_=>false)|_=>false)|_=>false
 | .val e,e'=>mE S e e'&&plainT e'
noncomputable def fq (S:Sn):c9->List Expr->Bool
 | .nil,es=>es.isEmpty
 | .cons e es,l=>match l with|e'::es'=>mE S e e'&&notStar e'&&fq S es es'| []=>false
noncomputable def mO (S:Sn):AF->Option Expr->Bool
 | .no,o=>o.isNone
 | .yes e,o=>match o with|some e'=>mE S e e'|none=>false
noncomputable def mI (S:Sn):vn->Expr->Expr->Bool
 | .rng1 a,_,e=>match e with| .Call y1 y2 y3 _=>(match y1 with| .Name x _=>(match y3 with| []=>(match y2 with| [a']=>S.kS x&&decide (x=("range":Str))&&S.T.gbl.contains x&&mE S a a'&&notStar a'|_=>false)|_=>false)|_=>false)|_=>false
 | .rng2 a b,_,e=>match e with| .Call y1 y2 y3 _=>(match y1 with| .Name x _=>(match y3 with| []=>(match y2 with| [a',b']=>S.kS x&&decide (x=("range":Str))&&S.T.gbl.contains x&&mE S a a'&&mE S b b'&&notStar a'&&notStar b'|_=>false)|_=>false)|_=>false)|_=>false
 | .rng3 a b c,_,e=>false
 | .enm a,t,e=>false
 | .enf a,t,e=>false
 | .seq a,_,e=>mE S a e
 | .zip a b,t,e=>false
 | .zip3 a b c,t,e=>false
end
end L3
namespace L3
open PySem PySem.Spec L2
variable {e:Expr}
def plainT_ok (h:plainT e=true)(env:Env)(whole:Sem Value):isTrue e env whole=(do let v <-whole;standAt e.pos;holding [v] (truthy v)):=by
 cases e<;>first|rfl|(cases h)|skip
 case UnaryOp op a p=>cases op<;>first|rfl|cases h
def a5 (h:bX e=true)(env:Env)(x:Value):foldedSetIterable e env x=pure x:=by
 cases e<;>first|rfl|cases h
def cg (h:bX e=true)(op:CmpOp):behindInMarks op e=false:=by
 cases e<;>first|rfl|cases h
def dN (h:lQ e=true)(t:Option Expr)(n:Nat)(env:Env):swapsWith e t n env=pure false:=by
 cases e<;>first|rfl|cases h
variable {o:Expr}
def aU (h:cI o=true)(a:Str)(env:Env)(whole:Sem Value):attributeBase o a env whole=whole:=by
 cases o with
 |Call f as ks p=>
  cases f<;>first|rfl|skip
  case Name x q=>
   cases as with
   |nil=>cases ks with
    |nil=>cases h
    |cons k ks=>rfl
   |cons b bs=>rfl
 |_=>rfl
variable {b:Expr}
def lD (h:cH b=true):l7 b:=by
 intro o i;cases b<;>first|rfl|cases h
variable {X:Cx}
def PE.bD {t:TE}(h:PE X e t):PE X e (λU H R=>∃ Q,t U H Q/\∀ x H1,Q x H1->R x H1):=λY s U H R I ⟨Q,q,i⟩=>
 ao (h Y s U H Q I q) λ_ _ ⟨v,H',J,r,z⟩=>⟨v,H',J,r,i _ _ z⟩
variable {t:TT}
def PT.bD (h:PT X e t):PT X e (λU H R=>∃ Q,t U H Q/\∀ x H1,Q x H1->R x H1):=λY s U H R I ⟨Q,q,i⟩=>
 ao (h Y s U H Q I q) λ_ _ ⟨H',J,z⟩=>⟨H',J,i _ _ z⟩
def PA.bD {e:List Expr}{t:TA}(h:PA X e t):PA X e (λU H R=>∃ Q,t U H Q/\∀ x H1,Q x H1->R x H1):=λpos Y s U H R I ⟨Q,q,i⟩=>
 ao (h pos Y s U H Q I q) λ_ _ ⟨v,H',J,r,z⟩=>⟨v,H',J,r,i _ _ z⟩
def PE.imp {t t':TE}(h:PE X e t)(hi:∀ U H Q,t' U H Q->t U H Q):PE X e t':=λY s U H Q I q=>h Y s U H Q I (hi _ _ _ q)
def PT.imp {t':TT}(h:PT X e t)(hi:∀ U H Q,t' U H Q->t U H Q):PT X e t':=λY s U H Q I q=>h Y s U H Q I (hi _ _ _ q)
def PS.imp {e:Stmt}{t t':TS}(h:PS X e t)(hi:∀ D U H,t' D U H->t D U H):PS X e t':=λY s U H D I q=>h Y s U H D I (hi _ _ _ q)
structure qj (P:Program) (w:World) (K:W.Frag) (mg:CQ) (base:Heap) (k:Nat) (f:Addr) (d:aN) (sp:Sp):Prop where
 fact:∃ fd,bF P w K mg base (pN P w) k f fd d.ps sp/\∀ j,∃ ds,Binds K fd d.ps ds/\Vals (d.dfl.drop j) ds
 own:∀ fd oc od osl,K.lookup f=some ⟨oc,od,.func fd,osl⟩->bF P w K mg base (pN P w) k f fd d.ps sp
structure tw (K:W.Frag) (mg:CQ) (T:Tab) (R:Rt):Prop where
 gfn:∀ x f,T.gfn.lookup x=some f->mg x=some (.ref (R.fad f))/\W.keepIn K (.ref (R.fad f))=true/\∃ d,T.fns[f]? =some d
 gcl:∀ x c,T.gcl.lookup x=some c->mg x=some (.ref (R.cad c))
 gbl:∀ x,T.gbl.contains x=true->mg x=none/\x≠"__name__"
 gbi:∀ x,T.gbi.contains x=true->∃ B,mg x=some (.ref B)/\B6 K B
 gl:∀ x v,R.gl x=some v->∃ u,mg x=some u/\RelV v u
 na:∀ i f,T.na.contains (i,f)=true->cj K (R.cad i) f
 me:∀ i m f,T.me.lookup (i,m)=some f->tf K (R.cad i)/\Meth K (R.cad i) m (R.fad f)/\∃ d,T.fns[f]? =some d
 ini0:∀ c,T.ini0.contains c=true->xp K (R.cad c)
 inip:∀ c,T.inip.contains c=true->Cj K (R.cad c)
 ini:∀ c f,T.ini.lookup c=some f->(∃ d,T.fns[f]? =some d)/\if T.xc.contains c=true then AQ K (R.cad c) (R.fad f) else Mk K (R.cad c) (R.fad f)
 oc:∀ c,T.oc.contains c=true->tf K (R.cad c)/\Bq K (R.cad c)
 xc:∀ c,T.xc.contains c=true->a9 K (R.cad c)/\pf K (R.cad c)
 sub:∀ i j b,T.sub.lookup (i,j)=some b->W.kitOne K (.ref (R.cad i)) (.ref (R.cad j))=some b/\(T.xc.contains i=true->W.mroIn K (R.cad i) (.ref (R.cad j))=some b/\a9 K (R.cad j))
 subT:∀ i n b,T.subT.lookup (i,n)=some b->W.kitOne K (.ref (R.cad i)) (.type n)=some b
 subB:∀ t n b,T.subB.lookup (t,n)=some b->W.kitOne K (.type t) (.type n)=some b
 subO:∀ t j b,T.subO.lookup (t,j)=some b->W.kitOne K (.type t) (.ref (R.cad j))=some b
 cin:∀ c f,T.cin.lookup c=some f->CB K (R.cad c) (R.fad f)/\∃ d,T.fns[f]? =some d
structure Gd (X:Cx) (G:Gx) (S:Sn) (k:Nat) (E:St->XK):Prop where
 hK:G.R.K=X.K
 hT:S.T=G.T
 sc:X.env.scope=S.sc
 N:X.N=S.N
 nd:S.N.Nodup
 pass:Passes (pN X.prog X.w) X E
 cm:G.cm=true->X.calm=true
 xok:G.cm=true->wu X E
 xst:∃ e0 o0 L,X.stack=e0::o0/\e0.frame=some L/\X.env.frame=some L
 room:G.cm=true->aP (k+1) X.A
 un:X.A.units+200<cLine
 tab:tw X.K X.mg G.T G.R
 fns:∀ f d,G.T.fns[f]? =some d->qj X.prog X.w X.K X.mg X.base k (G.R.fad f) d (G.Ψ f)
variable {x:Str}{l es:List Expr}
section
variable {X:Cx}{G:Gx}{S:Sn}{k:Nat}{E:St->XK}
def Gd.cx (g:Gd X G S k E)(hc:G.cm=true)(U:St):g8 X U (E U):=⟨λH s e C dx fs=>g.xok hc U H s e C dx fs,g.xst⟩
def Gd.bin (g:Gd X G S k E)(op:Operator):bC X (binaryOp op) (xI G.R.K op):=g.hK▸xC op
def Gd.cmp (g:Gd X G S k E)(op:CmpOp):bC X (compareOp op) (jT G.R.K op):=g.hK▸xZ g.un op
def Gd.glob (g:Gd X G S k E)(h:S.kS x=true):Gl X x/\(x ==("__debug__":Str))=false:=by
 unfold Sn.kS at h;simp only[li,decide_eq_true_eq,Bool.not_eq_true']at h;refine⟨?_,h.2⟩;show X.env.scope.names.lookup x=_;rw[g.sc];exact h.1
def Gd.Ar (g:Gd X G S k E)(h:S.Ar x=true):AX X.env.scope x/\(x ==("__debug__":Str))=false/\(x ==("__classdict__":Str))=false:=by
 unfold Sn.Ar at h;simp only[li,Bool.or_eq_true,decide_eq_true_eq,Bool.not_eq_true']at h;refine⟨?_,h.1.2,h.2⟩;unfold AX;rw[g.sc];rcases h.1.1 with(h|h)|h
 .exact .inl h
 .exact .inr (.inl h)
 .exact .inr (.inr h)
def Gd.loc (g:Gd X G S k E){i:Nat}(h:S.loc i x=true):X.N[i]? =some x/\L2.Loc X.env.scope x:=by
 unfold Sn.loc at h;simp only[li,Bool.or_eq_true,decide_eq_true_eq]at h;rw[g.N];refine⟨h.1,?_⟩;unfold L2.Loc;rw[g.sc];exact h.2
def ax:∀ {es:c9}{l:List Expr},fq S es l=true->∀ (env:Env) (pos:Pos),(backTo pos (bm l env)).any (·.1)=false
 | .nil,[],_,_,_=>rfl
 | .nil,_::_,h,_,_=>by cases(show false=true from h)
 | .cons e es,[],h,_,_=>by cases(show false=true from h)
 | .cons e es,e'::l,h,env,pos=>by
  have h:(mE S e e'&&notStar e'&&fq S es l)=true:=h;simp only[li]at h;rw[aa h.1.2];show((backTo pos (bm l env)).any (·.1))=false;exact ax h.2 env pos
def iD:∀ {es:c9}{l:List Expr},fq S es l=true->l.length=es.len
 | .nil,[],_=>rfl
 | .nil,_::_,h=>by cases(show false=true from h)
 | .cons e es,[],h=>by cases(show false=true from h)
 | .cons e es,e'::l,h=>by
  have h:(mE S e e'&&notStar e'&&fq S es l)=true:=h;simp only[li]at h;show l.length+1=es.len+1;rw[iD h.2]
def aG {es:c9}(h:fq S es (e::l)=true):notStar e=true/\∃ x es',es=.cons x es'/\fq S es' l=true:=by
 cases es with
 |nil=>cases(show false=true from h)
 |cons x es'=>
  have h:(mE S x e&&notStar e&&fq S es' l)=true:=h;simp only[li]at h;exact⟨h.1.2,x,es',rfl,h.2⟩
def mX:∀ {es:c9}{l:List Expr},fq S es l=true->es.len<20->∀ (env:Env) (cpos:Pos),methodCallForm (l.length+([]:List Keyword).length) (backTo cpos (bm l env)) (backToKw cpos (keywordEach [] env))=true:=by
 intro es l h hl env cpos;have h1:=ax h env cpos;have h2:=iD h;have h3:(backTo cpos (bm l env)).all (λx=>!x.1)=true:=by
  rw[all_eq_true];intro x hx;rw[any_eq_false]at h1;simpa using h1 x hx
 unfold methodCallForm;rw[h3,h2];simp[keywordEach,backToKw]
 omega
def gY {m:Str}{apos pos:Pos}{env:Env}(hb:cI o=true)(hf:methodCallForm (es.length+([]:List Keyword).length) (backTo pos (bm es env)) (backToKw pos (keywordEach [] env))=true)(hl:(apos.endLine ==pos.line)=true):
  eval (.Call (.Attribute o m apos) es [] pos) env=(do
   let ov <-eval o env
   standAt apos.atName
   let(f,first) <-holding [ov] (getMethod ov m (do return (<-importBound o env).getD true))
   callWith pos f first (backTo pos (bm es env)) (backToKw pos (keywordEach [] env))):=by
 show(do
  let ov <-attributeBase o m env (eval o env)
  standAt apos.atName
  methodCall o m apos pos env ov (es.length+([]:List Keyword).length) (backTo pos (bm es env)) (backToKw pos (keywordEach [] env)))=_
 rw[aU hb];unfold methodCall calleeOf methodCallPos;rw[hf,hl]
 rfl
def qY {es:c9}(h:fq S es (e::l)=true)(hl:es.len<20)(env:Env)(cpos:Pos):
  ((backTo cpos (bm (e::l) env)).all (λx=>!x.1)&&(backToKw cpos (keywordEach [] env)).all (λx=>x.1.isSome)
   &&decide ((e::l).length+([]:List Keyword).length+(if([]:List Keyword).isEmpty then 0 else 1)<30))=true:=by
 have h1:=ax h env cpos;have h2:=iD h;have h3:(backTo cpos (bm (e::l) env)).all (λx=>!x.1)=true:=by
  rw[all_eq_true];intro x hx;rw[any_eq_false]at h1;simpa using h1 x hx
 rw[h3,h2];simp[keywordEach,backToKw]
 omega
def uN {b:Ex}{b':Expr}(h:mE S b b'=true)(n:notStar b'=true)(env:Env)(cpos:Pos):
  ((backTo cpos (bm [b'] env)).all (λx=>!x.1)&&(backToKw cpos (keywordEach [] env)).all (λx=>x.1.isSome)
   &&decide (([b']:List Expr).length+([]:List Keyword).length+(if([]:List Keyword).isEmpty then 0 else 1)<30))=true:=
 qY (es:=.cons b .nil) (by show(mE S b b'&&notStar b'&&true)=true;rw[h,n];rfl) (nb rfl) env cpos
end
variable {K:W.Frag}{H:Hp}{Y:CP}{a:Addr}
section
variable {X:Cx}{G:Gx}{S:Sn}{k:Nat}{E:St->XK}
def eo {x:V}{t:String}(h:tyName x H=some t):dC K H x (.type t):=by
 unfold tyName at h
 split at h
 .cases h;exact .non
 .cases h;exact .bl _
 .cases h;exact .int _
 .cases h;exact .str _
 .split at h
  .rename_i e;cases h;exact .lst e
  .rename_i e;cases h;exact .tup e
  .rename_i e;cases h;exact .dK (.inl e)
  .rename_i e;cases h;exact .dK (.inr ⟨_,e⟩)
  .cases h
 .cases h
def mP {s:Shared}{U:St}{Q:VK}{i:Nat}{b:Bool}{cv:Value}(g:Gd X G S k E)(I:Inv X Y U H s)(o:mF G H a i)
  (e:W.kitOne X.K (.ref (G.R.cad i)) cv=some b) (q:Q (.bl b) H):wpAny (model X.prog X.w) X.A (call (.builtin "isinstance") [.ref a,cv]) (EP X Y U Q) X.xe s:=by
 rcases o with⟨ho,dx,fs,ha⟩|⟨ho,dx,fs,fr,ha⟩
 .obtain⟨c,z⟩:=g.tab.oc i ho;exact dZ I (x:=.ref a) rfl (.ins ha c z.ha z.hn z.htk z.hm) e λtk=>⟨.bl b,H,I.tok _,rfl,q⟩
 .obtain⟨c,z⟩:=g.tab.xc i ho;exact pk I ha c z e λtk=>⟨.bl b,H,I.tok _,rfl,q⟩
def sj (g:Gd X G S k E)(j:Nat):bh X (.builtin "isinstance") (λvs H Q=>∃ x,vs=[x,.ref (G.R.cad j)]/\ft G (.own j) x H Q):=by
 intro Y s U H xs us Q I r h;obtain⟨x,rfl,h⟩:=h;obtain⟨u,w',rfl,rx,rT⟩:=vals2 r;obtain rfl:w'=Value.ref (G.R.cad j):=rT;unfold ft at h;rcases h with⟨t,b,ht,hb,q⟩|⟨a,i,b,rfl,ho,hb,q⟩
 .exact dZ I rx (eo ht) (g.tab.subO t j b hb) λtk=>⟨.bl b,H,I.tok _,rfl,q⟩
 .obtain rfl:u=Value.ref a:=rx;exact mP g I ho (g.tab.sub i j b hb).1 q
def vP (g:Gd X G S k E)(n:String):bh X (.builtin "isinstance") (λvs H Q=>∃ x,vs=[x,.ty n]/\ft G (.ty n) x H Q):=by
 intro Y s U H xs us Q I r h;obtain⟨x,rfl,h⟩:=h;obtain⟨u,w',rfl,rx,rT⟩:=vals2 r;obtain rfl:w'=Value.type n:=rT;unfold ft at h;rcases h with⟨t,b,ht,hb,q⟩|⟨a,i,b,rfl,ho,hb,q⟩
 .exact dZ I rx (eo ht) (g.tab.subB t n b hb) λtk=>⟨.bl b,H,I.tok _,rfl,q⟩
 .obtain rfl:u=Value.ref a:=rx;exact mP g I ho (g.tab.subT i n b hb) q
def uH {n:String}(h:fJ.contains n=true):bootBuiltins (n:Str)=some (.type n):=by
 have h':n ∈ fJ:=by simpa using h
 simp only[fJ,lf,not_mem_nil,or_false]at h';rcases h' with rfl|rfl|rfl|rfl|rfl|rfl|rfl<;>decide+kernel
abbrev B0 (G:Gx):Cl->V
 | .own c=>.ref (G.R.cad c)
 | .ty n=>.ty n
def zU (g:Gd X G S k E){c:Cl}(h:uj S c e=true):PE X e (tC (B0 G c)):=by
 unfold uj at h
 split at h
 .simp only[li,decide_eq_true_eq]at h;obtain⟨hg,hd⟩:=g.glob h.1;exact jj hg (g.tab.gcl _ _ (g.hT▸h.2)) rfl hd
 .simp only[li,decide_eq_true_eq]at h;obtain⟨⟨⟨h1,rfl⟩,h3⟩,h4⟩:=h;obtain⟨hg,hd⟩:=g.glob h1;obtain⟨hm,hn⟩:=g.tab.gbl _ (g.hT▸h3);exact uA hg hm (uH h4) rfl hn hd
 .cases h
def wx (g:Gd X G S k E)(c:Cl):bh X (.builtin "isinstance") (λvs H Q=>∃ x,vs=[x,B0 G c]/\ft G c x H Q):=by
 cases c with
 |own j=>exact sj g j
 |ty n=>exact vP g n
def rS (g:Gd X G S k E){i:Nat}{b:Bool}:∀ {cs:List Nat},anyS G i cs=some b->W.kitAny X.K (.ref (G.R.cad i)) ((cs.map λc=>G.R.cad c).map Value.ref)=some b
 | [],h=>h
 |c::cs,h=>by
  have e:∀ b',G.T.sub.lookup (i,c)=some b'->W.kitOne X.K (.ref (G.R.cad i)) (.ref (G.R.cad c))=some b':=λb' hb=>(g.tab.sub i c b' hb).1
  unfold anyS at h;show(match W.kitOne X.K (.ref (G.R.cad i)) (.ref (G.R.cad c)) with|some true=>some true|some false=>W.kitAny X.K (.ref (G.R.cad i)) ((cs.map λc=>G.R.cad c).map Value.ref)|none=>none)=some b
  split at h
  .rename_i q;rw[e _ q];exact h
  .rename_i q;rw[e _ q];exact rS g h
  .cases h
def vq (g:Gd X G S k E){t:String}{b:Bool}:∀ {cs:List Nat},tX G t cs=some b->W.kitAny X.K (.type t) ((cs.map λc=>G.R.cad c).map Value.ref)=some b
 | [],h=>h
 |c::cs,h=>by
  have e:∀ b',G.T.subO.lookup (t,c)=some b'->W.kitOne X.K (.type t) (.ref (G.R.cad c))=some b':=λb' hb=>g.tab.subO t c b' hb
  unfold tX at h;show(match W.kitOne X.K (.type t) (.ref (G.R.cad c)) with|some true=>some true|some false=>W.kitAny X.K (.type t) ((cs.map λc=>G.R.cad c).map Value.ref)|none=>none)=some b
  split at h
  .rename_i q;rw[e _ q];exact h
  .rename_i q;rw[e _ q];exact vq g h
  .cases h
def tF (g:Gd X G S k E)(cs:List Nat):bh X (.builtin "isinstance") (λvs H Q=>∃ x p,vs=[x,.ref p]/\H p=some (.tup ((cs.map λc=>G.R.cad c).map V.ref))/\jV G cs x H Q):=by
 intro Y s U H xs us Q I r h;obtain⟨x,p,rfl,hp,h⟩:=h;obtain⟨u,w',rfl,rx,rT⟩:=vals2 r;obtain rfl:w'=Value.ref p:=rT;unfold jV at h;rcases h with⟨t,b,ht,hb,q⟩|⟨a,i,b,rfl,ho,hb,q⟩
 .obtain⟨P,Z,hP,hx⟩:=ku I rx (eo (K:=X.K) ht);exact i9 I Z hP hx hp (vq g hb) λtk=>⟨.bl b,H,I.tok _,rfl,q⟩
 .obtain rfl:u=Value.ref a:=rx;rcases ho with⟨ho,dx,fs,ha⟩|⟨ho,dx,fs,fr,ha⟩
  .obtain⟨c,z⟩:=g.tab.oc i ho;obtain⟨P,Z,hP,hx⟩:=ku I (x:=.ref a) rfl (.ins ha c z.ha z.hn z.htk z.hm);exact i9 I Z hP hx hp (rS g hb) λtk=>⟨.bl b,H,I.tok _,rfl,q⟩
  .obtain⟨c,z⟩:=g.tab.xc i ho;obtain⟨ox,odo,J⟩:=jR I ha;exact i9 I (kb (ox:=ox) (odo:=odo) c z) J (λz=>nomatch z) hp (rS g hb) λtk=>⟨.bl b,H,I.tok _,rfl,q⟩
def qT (g:Gd X G S k E):∀ {cs:List Nat}{es:List Expr},lX S cs es=true->PA X es (λU H Q=>Q (cs.map λc=>.ref (G.R.cad c)) H)
 | [],[],_=>cY
 | [],_::_,h=>by cases(show false=true from h)
 |_::_,[],h=>by cases(show false=true from h)
 |c::cs,e::es,h=>by
  unfold lX at h
  split at h
  .rename_i h1 h2;cases h1
  .rename_i c' cs' x p es' h1 h2;cases h1;cases h2;simp only[li,decide_eq_true_eq]at h;obtain⟨hg,hd⟩:=g.glob h.1.1;exact gQ (jj (v:=.ref (G.R.cad _)) hg (g.tab.gcl _ _ (g.hT▸h.1.2)) rfl hd) (qT g h.2) rfl
  .cases h
abbrev qg:Bf->Value
 | .len=>.builtin "len"| .list=>.type "list"| .tuple=>.type "tuple"| .int=>.type "int"| .str=>.type "str"| .min=>.builtin "min"| .max=>.builtin "max"| .abs=>.builtin "abs"| .all=>.builtin "all"| .any=>.builtin "any"| .dict=>.type "dict"| .sum=>.builtin "sum"
def uw (b:Bf):bootBuiltins (pd b:Str)=some (qg b):=by cases b<;>decide+kernel
def mQ:∀ {bs:List Bool}{us:List Value},Vals (bs.map V.bl) us->PyProof.Rows.LSm.BoolsAre us bs
 | [],_,h=>by cases h;exact .nil
 |b::bs,_,h=>by
  cases h with
  |cons r1 r2=>
   obtain rfl:_=Value.bool b:=r1;exact .cons b (mQ r2)
def oq (hc:X.calm=true):bh X (.builtin "all") (λxs H Q=>∃ p,∃ bs:List Bool,xs=[.ref p]/\aA X.K H p (bs.map V.bl)/\Q (.bl (bs.all id)) H):=by
 intro Y s U H xs us Q I r h;obtain⟨p,bs,rfl,hq,q⟩:=h;obtain⟨u,rfl,rx⟩:=vals1 r;cases rx;obtain⟨its,r',pl,hz⟩:=I.list hq;have hb:=mQ r';have hl:=pl.isList;have lt:p<s.heap.objs.size:=by obtain⟨_,e,_⟩:=hl;exact sw e
 refine call_all_walk (wpAny_pyIter_list hl ⟨s.heap.objs.size,[s.heap.objs.size,p],[s.heap.objs.size],its.toArray.size,_,_,λi=>(bs[i]?).getD true,rfl,
  Walks.list (A:=X.A.in1) (I.ok.hd hc) _ p (nl lt) its.toArray,⟨⟨_,sK _ rfl,rfl,rfl⟩,hl.push _⟩,λi v s' Q' E' hP hQ=>?_,λh' tk hk=>?_⟩)
 .obtain⟨b,e,rfl⟩:=hb.get i v (by simpa using hP);have hQ:Q' ((bs[i]?).getD _) s':=hQ;rw[e]at hQ;exact bi hQ
 .have e:((List.range its.toArray.size).all λi=>(bs[i]?).getD true)=bs.all id:=by
   rw[ge,hb.length,PyProof.Rows.LSm.range_all]
  rw[e];exact⟨.bl _,H,I.kept (PyProof.Rows.LSm.kept_iter hk),rfl,q⟩
def yX (g:Gd X G S k E)(b:Bf):bh X (qg b) (gN G b):=by
 intro Y s U H xs us Q I r h;unfold gN at h;rw[g.hK]at h;cases b with
 |len=>exact qp Y s U H _ us Q I r h
 |list=>
  rcases h with h|⟨hc,p,kvs,rfl,hp,q⟩
  .exact iS Y s U H _ us Q I r h
  .obtain⟨u,rfl,ru⟩:=vals1 r;cases ru;exact lH (g.cm hc) I hp q
 |tuple=>exact gK Y s U H _ us Q I r h
 |int=>
  rcases h with h|⟨z,n,rfl,hn,hl,q⟩
  .exact nz Y s U H _ us Q I r h
  .obtain⟨u,rfl,t,rfl⟩:=vals1 r;exact oB hn hl ⟨.int n,H,I.tok _,⟨_,rfl⟩,q⟩
 |str=>
  rcases h with h|⟨z,rfl,q⟩
  .exact i6 Y s U H _ us Q I r h
  .obtain⟨u,rfl,t,rfl⟩:=vals1 r;exact PySem.P.str_of_str ⟨.str z,H,I,⟨_,rfl⟩,q⟩
 |min=>
  rcases h with⟨hc,h|h⟩
  .exact nQ (g.cm hc) Y s U H _ us Q I r h
  .exact h.elim
 |max=>exact h.elim
 |abs=>exact h.elim
 |all=>exact oq (g.cm h.1) Y s U H _ us Q I r h.2
 |any=>exact h.elim
 |dict=>exact h.elim
 |sum=>exact h.elim
abbrev wt:Lm->String
 | .append=>"list.append"| .extend=>"list.extend"| .insert=>"list.insert"| .pop=>"list.pop"| .clear=>"list.clear"| .reverse=>"list.reverse"| .count=>"list.count"
def ng (m:Lm):Slot "list" (pV m:Str) (wt m):=by
 cases m
 .exact PySem.F.slot_list_append
 .exact PySem.F.slot_list_extend
 .exact PySem.F.slot_list_insert
 .exact PySem.F.slot_list_pop
 .exact PySem.F.slot_list_clear
 .exact PySem.F.slot_list_reverse
 .exact PySem.F.slot_list_count
def vo (m:Lm):typeOf (.builtin (wt m))=pure (.type "method_descriptor"):=by cases m<;>rfl
abbrev Cs (m:Lm):V->List V->Hp->VK->Prop:=λx vs H Q=>∃ p xs,x=.ref p/\H p=some (.lst xs)/\y9 m p xs vs H Q
def vx (m:Lm):vD X (wt m) (Cs m):=by
 intro Y s U H x vs v us Q I rx rv h;obtain⟨p,xs,rfl,hp,h⟩:=h;unfold y9 at h;cases m with
 |append=>
  obtain⟨y,rfl,h⟩:=h;exact eA Y s U H _ _ v us Q I rx rv ⟨p,xs,_,rfl,rfl,hp,Nat.lt_of_le_of_lt h.1 (by decide),h.2⟩
 |extend=>exact h.elim
 |insert=>exact h.elim
 |pop=>exact h.elim
 |clear=>exact h.elim
 |reverse=>exact h.elim
 |count=>exact h.elim
abbrev xP:Sm->String
 | .join=>"str.join"| .split=>"str.split"| .starts=>"str.startswith"
def sY (m:Sm):Slot "str" (pU m:Str) (xP m):=by
 cases m
 .exact PySem.F.slot_str_join
 .exact PySem.F.slot_str_split
 .exact PySem.F.slot_str_startswith
def Ay (m:Sm):typeOf (.builtin (xP m))=pure (.type "method_descriptor"):=by cases m<;>rfl
abbrev CH (K:W.Frag)(m:Sm):V->List V->Hp->VK->Prop:=λx vs H Q=>∃ z y,x=.str z/\vs=[y]/\qv K m z y H Q
def zC (m:Sm):vD X (xP m) (CH X.K m):=by
 intro Y s U H x vs v us Q I rx rv h;obtain⟨z,y,rfl,rfl,h⟩:=h;unfold qv at h;cases m with
 |join=>exact ui Y s U H _ _ v us Q I rx rv h
 |split=>exact rN Y s U H _ _ v us Q I rx rv h
 |starts=>exact nO Y s U H _ _ v us Q I rx rv h
def qw {m:Str}{apos pos:Pos}{ta:TE}{t:TA}{pl:Sem Bool}{n:Nat}(g:Gd X G S k E)(hc:G.cm=true)(he:PE X o ta)(ha:PA X es t)
  (hnil:es=[]->∀ U H R,t U H R->R [] H) (hst:∀ e r,es=e::r->bm es X.env=(false,eval e X.env)::bm r X.env) (hpl:∀ e r,es=e::r->(backTo pos (bm r X.env)).any (·.1)=false)
  (ht:eval (.Call (.Attribute o m apos) es [] pos) X.env=(do
   let ov <-eval o X.env
   standAt apos.atName
   let(f,first) <-holding [ov] (getMethod ov m pl)
   callWith pos f first (backTo pos (bm es X.env)) (backToKw pos (keywordEach [] X.env)))):
  PE X (.Call (.Attribute o m apos) es [] pos) (λU H Q=>ta U H λx H1=>∃ p i dx fs f,x=.ref p/\H1 p=some (.ins (G.R.cad i) dx fs)/\fs.lookup m=none/\G.T.me.lookup (i,m)=some f/\
   t U H1 λvs H2=>G.Ψ f (x::(vs++dflt G f n)) H2 Q (E U)):=by
 intro Y s U H Q I h;refine W.methodCall_KW (pl:=pl) (ao (he Y s U H _ I h) λu s1 ⟨x,H1,I1,rx,a,i,dx,fs,f,ex,ea,l,hf,q⟩=>?_) ht;subst ex;obtain rfl:u=Value.ref a:=rx;obtain⟨c,hm,d,hd⟩:=g.tab.me i m f hf;obtain⟨fd,F,B⟩:=(g.fns f d hd).fact;have hr:aP k X.A:=(g.room hc).mono (Nat.le_succ _);obtain⟨ds,hb,hv⟩:∃ ds,Binds X.K fd d.ps ds/\Vals (dflt G f n) ds:=by
  unfold dflt;rw[hd];exact B _
 refine kR I1 ea c hm l ?_;cases es with
 |nil=>
  refine W.callWith_K0 (first:=[.ref a]) I1.aR hm.kp ?_;exact iT (us:=[.ref a]) (vs:=[.ref a]) F hr hb hv g.pass I1 (.cons rfl .nil) (hnil rfl _ _ _ q)
 |cons e r=>
  refine W.callWith_K (first:=[.ref a]) (h₀:=X.base) I.ok.mod.kin hm.kp (ao (ha pos Y s1 U H1 _ I1 q) λus s2 ⟨vs,H2,I2,r,q2⟩=>⟨I2.aR,?_⟩) (hst e r rfl) (hpl e r rfl);exact iT (us:=.ref a::us) (vs:=.ref a::vs) F hr hb hv g.pass I2 (.cons rfl r) q2
end
def vb {α β:Type}{f:α->Option β}:∀ {l:List α}{j:Nat}{y:β},(∀ a ∈ l,(f a).isSome=true)->(l.filterMap f)[j]? =some y->∃ a,l[j]? =some a/\f a=some y
 | [],_,_,_,h=>by simp at h
 |a::l,j,y,hs,h=>by
  obtain⟨b,hb⟩:=Option.isSome_iff_exists.mp (hs a le);rw[filterMap_cons,hb]at h;cases j with
  |zero=>simp at h;exact⟨a,rfl,by rw[hb,h]⟩
  |succ j=>
   simp at h;obtain⟨a',h1,h2⟩:=vb (λa ha=>hs a (dl _ ha)) h;exact⟨a',by simpa using h1,h2⟩
def qy {α β:Type}{f:α->Option β}:∀ {l:List α},(∀ a ∈ l,(f a).isSome=true)->(l.filterMap f).length=l.length
 | [],_=>rfl
 |a::l,hs=>by
  obtain⟨b,hb⟩:=Option.isSome_iff_exists.mp (hs a le);rw[filterMap_cons,hb];simp[qy (λa ha=>hs a (dl _ ha))]
abbrev gy (env:Env):Str×NameKind->List (Str×Addr)->Sem (ForInStep (List (Str×Addr))):=λnk r=>do
 let cs:=r
 if(nk.2 ==NameKind.free)=true then do
  let a <-cellOf env nk.1
  pure (ForInStep.yield ((nk.1,a)::cs))
 else pure (ForInStep.yield cs)
def iY {env:Env}:∀ (names:List (Str×NameKind)) (cs:List (Str×Addr)),(∀ y ∈ names,y.2=.free->∃ c,env.cells.lookup y.1=some c)->
  ∃ cl,(forIn names cs (gy env):Sem _)=pure cl/\(∀ y c,cl.lookup y=some c->cs.lookup y=some c\/env.cells.lookup y=some c)/\(∀ y,(cs.lookup y).isSome=true->(cl.lookup y).isSome=true)/\∀ y ∈ names,y.2=.free->(cl.lookup y.1).isSome=true
 | [],cs,_=>⟨cs,rfl,λy c h=>.inl h,λy h=>h,λy hy=>absurd hy (by simp)⟩
 |(n,kd)::r,cs,h=>by
  by_cases hk:kd=.free
  .subst hk;obtain⟨c,hc⟩:=h (n,.free) le rfl;obtain⟨cl,h1,h2,h3,h4⟩:=iY r ((n,c)::cs) λy hy=>h y (dl _ hy)
   have self:(((n,c)::cs).lookup n).isSome=true:=by simp[lookup_cons]
   refine⟨cl,?_,λy d q=>?_,λy q=>h3 y ?_,λy hy hf=>?_⟩
   .rw[forIn_cons];have e:gy env (n,.free) cs=pure (ForInStep.yield ((n,c)::cs)):=by
     unfold gy;simp only[cellOf,hc]
     rfl
    rw[e];exact h1
   .rcases h2 y d q with q|q
    .rw[lookup_cons]at q
     by_cases e:y=n
     .subst e;simp at q;subst q;exact .inr hc
     .rw[show(y ==n)=false from beq_eq_false_iff_ne.mpr e]at q;exact .inl q
    .exact .inr q
   .rw[lookup_cons];cases(y ==n)<;>simp[q]
   .rcases lf.mp hy with rfl|hy
    .exact h3 _ self
    .exact h4 y hy hf
  .obtain⟨cl,h1,h2,h3,h4⟩:=iY r cs λy hy=>h y (dl _ hy)
   refine⟨cl,?_,h2,h3,λy hy hf=>?_⟩
   .rw[forIn_cons];have e:gy env (n,kd) cs=pure (ForInStep.yield cs):=by
     unfold gy;cases kd<;>first|rfl|exact absurd rfl hk
    rw[e];exact h1
   .rcases lf.mp hy with rfl|hy
    .exact absurd hf hk
    .exact h4 y hy hf
variable {scope:Scope}
def uo {env:Env}(h:∀ y ∈ scope.names,y.2=.free->∃ c,env.cells.lookup y.1=some c):
  ∃ cl,closureFor scope env=pure cl/\(∀ y c,cl.lookup y=some c->env.cells.lookup y=some c)/\∀ y ∈ scope.names,y.2=.free->(cl.lookup y.1).isSome=true:=by
 obtain⟨cl,h1,h2,_,h4⟩:=iY scope.names [] h;refine⟨cl,?_,λy c q=>(h2 y c q).resolve_left (by simp),h4⟩;have e:closureFor scope env=(forIn scope.names [] (gy env) >>= λcs=>pure cs):=by
  unfold closureFor gy
  rfl
 rw[e,h1]
 rfl
variable {xs:List Str}{sel:List Nat}
section
variable {X:Cx}{G:Gx}{S:Sn}{k:Nat}{E:St->XK}
def j7 (g:Gd X G S k E)(scope:Scope):relabel scope X.env=cQ S.sc scope:=by
 unfold relabel cQ Env.kindOf;rw[g.sc]
def bU (g:Gd X G S k E)(ok:X.Ok)(h:eK S scope xs sel=true):∃ cl,aC X scope cl xs (sel.filterMap λi=>S.N[i]?) sel:=by
 unfold eK at h;simp only[li,decide_eq_true_eq,all_eq_true,Bool.or_eq_true,bne_iff_ne,ne_eq]at h;obtain⟨⟨⟨⟨⟨h1,h2⟩,h3⟩,h4⟩,h5⟩,h6⟩:=h;have hs:∀ i ∈ sel,(S.N[i]?).isSome=true:=λi hi=>by
  have:=h5 i hi
  split at this
  .rename_i e;rw[e];rfl
  .cases this
 obtain⟨cl,c1,c2,c3⟩:=uo (env:=X.env) (scope:=scope) λy hy hf=>ok.has y.1 (.inl (by
  show X.env.scope.names.lookup y.1=_;rw[g.sc];exact((h3 y hy).2).resolve_left λz=>z hf))
 refine⟨cl,⟨c1,c2,λy hy=>?_,h1,λy hy=>(h3 y hy).1.1,λy hy hl=>((h3 y hy).1.2).resolve_left λz=>z hl,h4,(qy hs).symm,λj y hj=>?_,h6⟩⟩
 .have:∃ kd,(y,kd) ∈ scope.names/\kd=.free:=by
   rcases hy with hy|hy
   .obtain⟨kd,m,q⟩:=bS hy;rcases q with q|q
    .subst q;exact absurd rfl (h3 _ m).1.1
    .exact⟨kd,m,q.1⟩
   .obtain⟨kd,m,q⟩:=bS hy;rcases q with q|q
    .exact⟨kd,m,q.symm⟩
    .exact nomatch q.2
  obtain⟨kd,m,rfl⟩:=this;exact Option.isSome_iff_exists.mp (c3 _ m rfl)
 .obtain⟨i,hi,hn⟩:=vb hs hj;have q:=h5 i (cr hi);rw[hn]at q;simp only[li,decide_eq_true_eq]at q;refine⟨i,hi,by rw[g.N];exact hn,by rw[g.sc];exact q.1,by rw[j7 g];exact q.2⟩
def Gd.comp (g:Gd X G S k E){cl:List (Str×Addr)}(C:aC X scope cl xs (sel.filterMap λi=>S.N[i]?) sel) (E0:XK) (s:Shared) (H:Hp) (fp:List Addr):
  Gd (de X scope cl (xs++sel.filterMap λi=>S.N[i]?) s H fp E0) G { S with sc:=cQ S.sc scope,N:=xs++sel.filterMap λi=>S.N[i]? } k (λ_=>E0) where
 hK:=g.hK
 hT:=g.hT
 sc:=j7 g scope
 N:=rfl
 nd:=C.nd
 pass:=d6 vt
 cm:=g.cm
 xok:=λ_=>vt
 xst:=g.xst
 room:=g.room
 un:=g.un
 tab:=g.tab
 fns:=g.fns
def jX (env:Env):∀ {is:List Nat}{ts:List Expr},qQ S is ts=true->(assignEach ts env).length=is.length/\(assignEach ts env).findIdx? (·.1)=none
 | [],[],_=>⟨rfl,rfl⟩
 | [],_::_,h=>by simp[qQ]at h
 |_::_,[],h=>by simp[qQ]at h
 |i::is,t::ts,h=>by
  cases t<;>simp[qQ]at h
  rename_i x p;obtain⟨h1,h2⟩:=jX env h.2;have e:assignEach (.Name x p::ts) env=(false,assign (.Name x p) env)::assignEach ts env:=rfl;rw[e];refine⟨by simp[h1],?_⟩;rw[List.findIdx?_cons];simp[h2]
def mx (g:Gd X G S k E):∀ {is:List Nat}{ts:List Expr},qQ S is ts=true->xT X ts (gl is)
 | [],[],_=>λY s U H vs us Q I r h=>ji Y s U H vs us Q I r ⟨length_eq_zero_iff.mp h.1,by
   have:=h.2;have e:vs=[]:=length_eq_zero_iff.mp h.1;subst e;exact this⟩
 | [],_::_,h=>by simp[qQ]at h
 |_::_,[],h=>by simp[qQ]at h
 |i::is,t::ts,h=>by
  cases t<;>simp[qQ]at h
  rename_i x p;have hl:X.env.scope.names.lookup x=some .local:=by rw[g.sc];exact h.1.2
  have h1:PG X (.Name x p) (dA i):=dS (by rw[g.N];exact g.nd) (by rw[g.N];exact h.1.1) (.inl hl) (.inr hl);have h2:=mx g h.2;intro Y s U H vs us Q I r q;refine dO h1 h2 rfl Y s U H vs us Q I r ?_;obtain⟨hl,q⟩:=q;cases vs with
  |nil=>simp at hl
  |cons v vs=>exact⟨v,vs,rfl,by simpa using hl,q⟩
def sU (g:Gd X G S k E)(hc:G.cm=true){n kt:Nat}{ts:List Expr}{pt:Pos}(h:qQ S (List.range n) ts=true):PG X (.Tuple ts kt pt) (tK G.R.K n (gl (List.range n))):=by
 obtain⟨e1,e2⟩:=jX X.env h;rw[length_range]at e1;rw[g.hK];exact iP (g.cm hc) (mx g h) e1 e2
def ur {n:Nat}(h:xs.length=n):kc xs=s0 n none:=by
 subst h;unfold kc;rw[List.map_const']
end
set_option maxHeartbeats 2000000
variable {r:List Expr}{p:Pos}{s1:Shared}{R:It->Hp->Prop}{keys:List (Option Expr)}
section
variable {G:Gx}{k:Nat}
def gC {o1 o2:CmpOp}{c:Expr}(h:bX c=true):lastMarks [o1,o2] [b,c]=false:=by
 show behindInMarks o2 c=false;exact cg h _
def qJ {t:TE}(h:PE X (match r with| []=>b|_=>.BoolOp .And (b::r) p) t):PE X (.BoolOp .And (b::r) p) t:=by
 cases r with
 |nil=>exact rK h
 |cons c r=>exact h
def pO {t:TE}(h:PE X (match r with| []=>b|_=>.BoolOp .Or (b::r) p) t):PE X (.BoolOp .Or (b::r) p) t:=by
 cases r with
 |nil=>exact rK h
 |cons c r=>exact h
def vy {op:BoolOp}(h:PT X (.BoolOp op l p) t):PW X (.BoolOp op l p) t:=λwhole Y s U H Q I q=>by
 have:=h Y s U H Q I q;exact this
def qt (h:PT X (match r with| []=>b|_=>.BoolOp .And (b::r) p) t):PW X (.BoolOp .And (b::r) p) t:=by
 cases r with
 |nil=>exact tS h
 |cons c r=>exact vy h
def ql (h:PT X (match r with| []=>b|_=>.BoolOp .Or (b::r) p) t):PW X (.BoolOp .Or (b::r) p) t:=by
 cases r with
 |nil=>exact yv h
 |cons c r=>exact vy h
def uF:AL X (unaryOp .USub) (λx H Q=>match x with| .int i=>Q (.int (-i)) H|_=>False):=by
 intro Y s U H x v Q I r h
 split at h
 .exact(L2.xU Y s U H _ v Q I r ⟨_,rfl,h⟩)
 .exact h.elim
def nD {CX:mN}{C f:Addr}{fd:FuncData}{ps:List Str}{sp:Sp}{dvs:List V}{ds:List Value}{E:St->XK}{pos:Pos}(M:AQ X.K C f)(F:bF X.prog X.w X.K X.mg X.base CX k f fd ps sp)(hr:aP (k+1) X.A)(hg:Gl X x)(hm:X.mg x=some (.ref C))(hb:Binds X.K fd ps ds)(hd:Vals dvs ds)(hx:Passes CX X E)
  (hdb:(x ==("__debug__":Str))=false):PE X (.Call (.Name x p) [] [] pos) (pL C sp dvs E tI):=by
 intro Y s U H Q I h;refine bv (aQ I hg hm ?_ hdb);exact W.callWith_K0 I.aR M.kp (iu (us:=[]) M F hr hb hd hx (Nat.zero_le _) I .nil h.2)
def bC.bD {f:Value->Value->Sem Value}{r:R2}(h:bC X f r):bC X f (λx y H R=>∃ Q,r x y H Q/\∀ z H1,Q z H1->R z H1):=λY s U H x y v u R I rx ry ⟨Q,q,i⟩=>
 ao (h Y s U H x y v u Q I rx ry q) λ_ _ ⟨v,H',J,r,z⟩=>⟨v,H',J,r,i _ _ z⟩
section
open PyProof.Rows
def nF {tg:Expr}{U:L2.St}{H1:Hp}{v:Value}{xs:List V}(I1:Inv X Y U H1 s1)(r:RelV (.ref a) v)(hq:aA X.K H1 a xs)(q:R (yH X.K a) H1):
  wpAny (model X.prog X.w) X.A (pyIter v) (yL X Y U tg R) X.xe s1:=by
 cases r;obtain⟨its,rv,p,hz⟩:=I1.list hq;refine wpAny_pyIter_list p.isList ?_;refine⟨s1.heap.objs.size,[s1.heap.objs.size],_,_,H1,rfl,I1.kept (t':=s1.toks) λb o e=>ss _ e,nN a _,⟨_,sK _ rfl,rfl,rfl⟩,λb hb=>?_,q⟩;have e:b=s1.heap.objs.size:=by simpa using hb
 subst e;exact I1.uG (pc _) (I1.hok.fresh (pc _))
def qC {tg:Expr}{U:L2.St}{H1:Hp}{v:Value}{xs:List V}(I1:Inv X Y U H1 s1)(r:RelV (.ref a) v)(hq:bY X.K H1 a xs)(q:R (zX X.K a) H1):
  wpAny (model X.prog X.w) X.A (pyIter v) (yL X Y U tg R) X.xe s1:=by
 cases r;obtain⟨its,rv,p,hz⟩:=I1.tuple hq;refine wpAny_pyIter_tuple (show s1.heap.IsTuple a its.toArray from p) ?_;refine⟨s1.heap.objs.size,[s1.heap.objs.size],_,_,H1,rfl,I1.kept (t':=s1.toks) λb o e=>ss _ e,kJ a _,⟨_,sK _ rfl,rfl,rfl⟩,λb hb=>?_,q⟩;have e:b=s1.heap.objs.size:=by simpa using hb
 subst e;exact I1.uG (pc _) (I1.hok.fresh (pc _))
end
def yg {x:V}{Q:Bool->Hp->Prop}(h:wU K x H Q):∃ k,sJ K x H k/\Q k H:=by
 unfold wU at h
 split at h
 .exact⟨_,rfl,h⟩
 .exact h
abbrev AK:List Str->List V->List (V×V)
 |k::ks,x::xs=>(.str k,x)::AK ks xs
 |_,_=>[]
def rC:∀ {ks:List Str}{xs:List V},AK ks xs=(yx ks xs).map (λkv=>(kV kv.1,kv.2))
 | [],_=>rfl
 |_::_,[]=>rfl
 |k::ks,x::xs=>by
  show(V.str k,x)::AK ks xs=(kV (.inr k),x)::(yx ks xs).map _;rw[rC]
  rfl
def nh:∀ {ks:List Str}{xs:List V},(yx ks xs).length<=ks.length
 | [],_=>pc _
 |_::_,[]=>Nat.zero_le _
 |k::ks,x::xs=>Nat.succ_le_succ nh
def d8 {k:Str}{ks:List Str}(h:jb (k::ks) keys=true):∃ j p r,keys=some (.Constant (.str k) j p)::r/\jb ks r=true:=by
 unfold jb at h
 split at h
 .rename_i e;cases e
 .rename_i k' ks' x j p r e
  injection e with e1 e2
  subst e1 e2;simp only[li,decide_eq_true_eq]at h;obtain⟨rfl,h⟩:=h;exact⟨_,_,_,rfl,h⟩
 .cases h
def gA (h:jb [] keys=true):keys=[]:=by
 cases keys with
 |nil=>rfl
 |cons a r=>cases(show false=true from h)
def jG:∀ {ks:List Str}{keys:List (Option Expr)},jb ks keys=true->keys.length=ks.length
 | [],keys,h=>by rw[gA h];rfl
 |k::ks,keys,h=>by
  obtain⟨j,p,r,rfl,h2⟩:=d8 h;rw[length_cons,length_cons,jG h2]
def jQ:∀ {ks:List Str}{keys:List (Option Expr)},jb ks keys=true->keys.all (·.isSome)=true
 | [],keys,h=>by rw[gA h];rfl
 |k::ks,keys,h=>by
  obtain⟨j,p,r,rfl,h2⟩:=d8 h;rw[all_cons,jQ h2]
  rfl
def pC {S:Sn}:∀ {x:c9}{e:List Expr},fq S x e=true->e.length=x.len
 | .nil,[],_=>rfl
 | .nil,_::_,h=>by cases(show false=true from h)
 | .cons x xs,[],h=>by cases(show false=true from h)
 | .cons x xs,e::es,h=>by
  have h:(mE S x e&&notStar e&&fq S xs es)=true:=h;simp only[li]at h;exact congrArg Nat.succ (pC h.2)
mutual
theorem sE:∀ (x:Ex){X:Cx}{S:Sn}{E:St->XK},Gd X G S k E->∀ {e:Expr},mE S x e=true->PE X e (λU H Q=>wE G x U H Q (E U))
 | .v i,X,S,E,g,e,h=>by
  sleep 1
  simp only[li,decide_eq_true_eq]at h;obtain⟨h1,h2⟩:=h;obtain⟨v1,v2,v3⟩:=g.Ar h2;refine PE.imp (wK (i:=i) (by rw[g.N];exact h1) v1 v2 v3) λU H Q q=>?_
  conv at q=>whnf
  split at q
  .rename_i e;exact⟨_,e,q⟩
  .exact q.elim
 | .int i,X,S,E,g,e,h=>by
  sleep 2
  simp only[decide_eq_true_eq]at h;subst h;exact ym
 | .bl i,X,S,E,g,e,h=>by
  sleep 2
  simp only[decide_eq_true_eq]at h;subst h;exact AA
 | .non,X,S,E,g,e,h=>by
  sleep 2
  exact yt
 | .str i,X,S,E,g,e,h=>by
  sleep 2
  simp only[decide_eq_true_eq]at h;subst h;exact pY
 | .gl x,X,S,E,g,e,h=>by
  sleep 1
  simp only[li,decide_eq_true_eq]at h;obtain⟨rfl,h2⟩:=h;obtain⟨hg,hd⟩:=g.glob h2;intro Y s U H Q I q
  conv at q=>whnf
  split at q
  .rename_i v e;obtain⟨u,hm,r⟩:=g.tab.gl _ v e;exact jj hg hm r hd Y s U H Q I q
  .exact q.elim
 | .bin op a b,X,S,E,g,e,h=>by
  sleep 1
  simp only[li,decide_eq_true_eq]at h;obtain⟨⟨rfl,ha⟩,hb⟩:=h;exact yU (g.bin op) (sE a g ha) (sE b g hb)
 | .neg a,X,S,E,g,e,h=>by
  sleep 2
  exact zN uF (sE a g h)
 | .not a,X,S,E,g,e,h=>by
  sleep 2
  refine PE.imp (wb (PE.bD (sE a g h))) λU H Q q=>⟨_,q,λx H1 z=>?_⟩
  split at z
  .exact⟨_,rfl,z⟩
  .exact z.elim
 | .and a b,X,S,E,g,e,h=>by
  sleep 3
  simp only[li]at h;refine PE.imp (xg (PE.bD (sE a g h.1)) (qJ (sE b g h.2))) λU H Q q=>⟨_,q,λx H1 z=>?_⟩
  split at z
  .rw[cD]at z;exact⟨_,rfl,z⟩
  .exact z.elim
 | .or a b,X,S,E,g,e,h=>by
  sleep 3
  simp only[li]at h;refine PE.imp (zw (PE.bD (sE a g h.1)) (pO (sE b g h.2))) λU H Q q=>⟨_,q,λx H1 z=>?_⟩
  split at z
  .rw[cD]at z;exact⟨_,rfl,z⟩
  .exact z.elim
 | .cmp op a b,X,S,E,g,e,h=>by
  sleep 3
  simp only[li,decide_eq_true_eq]at h;obtain⟨⟨⟨rfl,ha⟩,hb⟩,hn⟩:=h;exact ub (g.cmp op) (sE a g ha) (sE b g hb) (cg hn _)
 | .cmp2 o1 o2 a b c,X,S,E,g,e,h=>by
  sleep 3
  simp only[li,decide_eq_true_eq]at h;obtain⟨⟨⟨⟨⟨rfl,rfl⟩,ha⟩,hb⟩,hc⟩,hn⟩:=h;refine PE.imp (rP (bC.bD (g.cmp o1)) (g.cmp o2) (PE.bD (sE a g ha)) (PE.bD (sE b g hb)) (sE c g hc) (gC hn)) λU H Q q=>⟨_,q,λx H1 q1=>⟨_,q1,λy H2 q2=>⟨_,q2,λz H3 q3=>?_⟩⟩⟩
  split at q3
  .rw[cD]at q3;exact⟨_,rfl,q3⟩
  .exact q3.elim
 | .cmp3 o1 o2 o3 a b c d,X,S,E,g,e,h=>by cases(show false=true from h)
 | .ife c a b,X,S,E,g,e,h=>by
  sleep 1
  simp only[li]at h;exact PE.imp (qB (PT.bD (sT c g h.1.1)) (sE a g h.1.2) (sE b g h.2)) λU H Q q=>⟨_,q,λk H1 z=>by rwa [cD]at z⟩
 | .tup es,X,S,E,g,e,h=>by
  sleep 1
  refine PE.imp (pW (PA.bD (o7 es g h))) λU H Q q=>⟨_,q,λx H1 z=>by unfold lB at z;exact⟨dI (by have:=z.1;omega),z.2⟩⟩
 | .lst es,X,S,E,g,e,h=>by
  sleep 1
  refine PE.imp (vR (PA.bD (o7 es g h))) λU H Q q=>⟨_,q,λx H1 z=>by unfold uB at z;exact⟨dI (by have:=z.1;omega),z.2⟩⟩
 | .ix a i,X,S,E,g,e,h=>by
  sleep 1
  simp only[li]at h;have hr:yF X (j0 G.R.K):=g.hK▸lL g.un;exact zD hr (sE a g h.1.1) (sE i g h.1.2) (lD h.2)
 | .sl a lo hi,X,S,E,g,e,h=>by
  sleep 3
  simp only[li]at h;have hr:zt X (o5 G.R.K):=g.hK▸xN;exact qA hr (sE a g h.1.1) (sO lo g h.1.2) (sO hi g h.2)
 | .fld a f,X,S,E,g,e,h=>by
  sleep 1
  simp only[li,decide_eq_true_eq]at h;obtain⟨⟨ha,rfl⟩,hn⟩:=h;intro Y s U H Q I q;have q':wE G a U H (λx H1=>gU G f x H1 Q) (E U):=q;refine uh (aU hn _ _ _) (ao (sE a g ha Y s U H _ I q') λu s1 ⟨x,H1,I1,rx,qf⟩=>?_);unfold gU at qf;obtain⟨a,i,fs,v,ex,ea,hna,l,q⟩:=qf;subst ex;obtain rfl:u=Value.ref a:=rx;have n:=g.tab.na i f hna;rcases ea with⟨ho,dx,ea⟩|⟨ho,dx,fr,ea⟩
  .exact gb I1 ea (g.tab.oc i ho).1 n l λu' s' J rv=>⟨v,H1,J,rv,q⟩
  .exact hV I1 ea (g.tab.xc i ho).1 n l λu' s' J rv=>⟨v,H1,J,rv,q⟩
 | .call f es,X,S,E,g,e,h=>by
  sleep 3
  rename_i es' pos _ xn p1 _;simp only[li,decide_eq_true_eq]at h;obtain⟨⟨h1,h2⟩,h3⟩:=h;obtain⟨hg,hdb⟩:=g.glob h1;obtain⟨hm,hk,d,hd⟩:=g.tab.gfn _ _ (g.hT▸h2);obtain⟨fd,F,B⟩:=(g.fns f d hd).fact;obtain⟨ds,hb,hv⟩:∃ ds,Binds X.K fd d.ps ds/\Vals (dflt G f es.len) ds:=by
   unfold dflt;rw[hd];exact B _
  intro Y s U H Q I q;obtain⟨hc,q⟩:=(show G.cm=true/\wEs G es U H (λvs H1=>G.Ψ f (vs++dflt G f es.len) H1 Q (E U)) (E U) from q);have hr:aP k X.A:=(g.room hc).mono (Nat.le_succ _);cases es' with
  |nil=>
   cases es with
   |nil=>exact pI F hr hg hm hk hb hv g.pass hdb Y s U H Q I q
   |cons _ _=>cases(show false=true from h3)
  |cons e0 er=>
   have PAs:=o7 es g h3;obtain⟨ns,x0,xr,rfl,h4⟩:=aG h3;exact tG F hr hg hm hk hb hv g.pass PAs hdb (aa ns) (ax h4 _ _) Y s U H Q I q
 | .meth a m es,X,S,E,g,e,h=>by
  sleep 3
  rename_i es' pos _ a' m' apos _;simp only[li,decide_eq_true_eq]at h;obtain⟨⟨⟨⟨⟨ha,rfl⟩,h3⟩,h4⟩,h5⟩,h6⟩:=h;intro Y s U H Q I q;obtain⟨hc,q⟩:=(show G.cm=true/\_ from q);refine qw (n:=es.len+1) g hc (sE a g ha) (o7 es g h3) (λz U H R hr=>?_) (λe r z=>?_) (λe r z=>?_) (gY h4 (mX h3 h6 _ _) h5) Y s U H Q I q
  .subst z;cases es with
   |nil=>exact hr
   |cons _ _=>cases(show false=true from h3)
  .subst z;exact aa (aG h3).1
  .subst z;have PAs:=o7 es g h3;obtain⟨ns,x0,xr,rfl,h4⟩:=aG h3;exact ax h4 _ _
 | .lm m a es,X,S,E,g,e,h=>by
  sleep 3
  rename_i es' pos _ a' m' apos _;simp only[li,decide_eq_true_eq]at h;obtain⟨⟨⟨⟨⟨ha,rfl⟩,h3⟩,h4⟩,h5⟩,h6⟩:=h;cases es' with
  |nil=>
   cases es with
   |nil=>exact PE.imp (wQ PySem.F.plainAttrs_list (ng m) (vo m) (vx m) (PE.bD (sE a g ha)) (aU h4 _ _ _) h5) λU H Q q=>⟨_,q,λx H1 z=>by
     obtain⟨p,xs0,ex,hp,q⟩:=z;subst ex;obtain⟨xs,h1,h2⟩:=q;exact⟨.inl ⟨rfl,xs0,aA.of hp⟩,p,xs,rfl,h1,h2⟩⟩
   |cons _ _=>cases(show false=true from h3)
  |cons e0 er=>
   have PAs:=o7 es g h3;obtain⟨ns,x0,xr,rfl,h7⟩:=aG h3;exact PE.imp (vf PySem.F.plainAttrs_list (ng m) (vo m) (vx m) (PE.bD (sE a g ha)) (PA.bD PAs) (aU h4 _ _ _) (qY h3 h6 _ _) h5 (aa ns) (ax h7 _ _)) λU H Q q=>⟨_,q,λx H1 z=>by
     obtain⟨p,xs0,ex,hp,q⟩:=z;subst ex;exact⟨.inl ⟨rfl,xs0,aA.of hp⟩,_,q,λvs H2 ⟨xs,h1,h2⟩=>⟨p,xs,rfl,h1,h2⟩⟩⟩
 | .dget a k d,X,S,E,g,e,h=>by cases(show false=true from h)
 | .rev a b,X,S,E,g,e,h=>by cases(show false=true from h)
 | .lix a b,X,S,E,g,e,h=>by cases(show false=true from h)
 | .make c es,X,S,E,g,e,h=>by
  sleep 3
  rename_i es' pos _ xn p1 _;simp only[li,decide_eq_true_eq]at h;obtain⟨⟨h1,h2⟩,h3⟩:=h;obtain⟨hg,hdb⟩:=g.glob h1;have hm:=g.tab.gcl _ _ (g.hT▸h2);intro Y s U H Q I q
  conv at q=>whnf
  obtain⟨hc,q⟩:=q
  split at q
  .obtain⟨h0,q⟩:=q;cases es' with
   |nil=>
    cases es with
    |nil=>exact absurd q.1 (by decide)
    |cons _ _=>cases(show false=true from h3)
   |cons e0 er=>
    have PAs:=o7 es g h3;obtain⟨ns,x0,xr,rfl,h4⟩:=aG h3;exact rF (g.tab.ini0 c h0) hg hm PAs hdb (aa ns) (ax h4 _ _) Y s U H Q I q
  .rename_i f hf;obtain⟨⟨d,hd⟩,hmk⟩:=g.tab.ini c f hf;obtain⟨fd,F,B⟩:=(g.fns f d hd).fact;obtain⟨ds,hb,hv⟩:∃ ds,Binds X.K fd d.ps ds/\Vals (dflt G f (es.len+1)) ds:=by
    unfold dflt;rw[hd];exact B _
   have hr:=g.room hc
   split at q
   .rename_i hx;rw[if_pos hx]at hmk;cases es' with
    |nil=>
     cases es with
     |nil=>exact nD hmk F hr hg hm hb hv g.pass hdb Y s U H Q I q
     |cons _ _=>cases(show false=true from h3)
    |cons e0 er=>
     have PAs:=o7 es g h3;obtain⟨ns,x0,xr,rfl,h4⟩:=aG h3;exact rp hmk F hr hg hm hb hv g.pass PAs hdb (aa ns) (ax h4 _ _) Y s U H Q I q
   .rename_i hx;rw[if_neg hx]at hmk;cases es' with
    |nil=>
     cases es with
     |nil=>exact qK hmk F hr hg hm hb hv g.pass hdb Y s U H Q I q
     |cons _ _=>cases(show false=true from h3)
    |cons e0 er=>
     have PAs:=o7 es g h3;obtain⟨ns,x0,xr,rfl,h4⟩:=aG h3;exact sd hmk F hr hg hm hb hv g.pass PAs hdb (aa ns) (ax h4 _ _) Y s U H Q I q
 | .bini es,X,S,E,g,e,h=>by
  sleep 4
  rename_i es' pos _ mm p2 _ xn p1 _;simp only[li,decide_eq_true_eq]at h;obtain⟨⟨⟨⟨⟨h1,rfl⟩,h2⟩,h3⟩,h4⟩,h5⟩:=h;obtain⟨hg,hdb⟩:=g.glob h1;obtain⟨B,hm,hB⟩:=g.tab.gbi _ (g.hT▸h2);cases es' with
  |nil=>
   cases es with
   |nil=>cases h4
   |cons _ _=>cases(show false=true from h3)
  |cons e0 er=>
   have PAs:=o7 es g h3;obtain⟨ns,x0,xr,rfl,h7⟩:=aG h3;refine PE.imp (xM hB hg hm (PA.bD PAs) hdb (aa ns) (ax h7 _ _) (gY (o:=.Name _ _) rfl (mX h3 (by rw[h4];decide) _ _) h5)) λU H Q q=>⟨_,q,λvs H1 z=>?_⟩
   obtain⟨a,i,dx,fs,fr,v,ev,ea,hi,q⟩:=z;exact⟨a,_,dx,fs,fr,v,ev,ea,(g.tab.xc i hi).1,q⟩
 | .cini c es,X,S,E,g,e,h=>by cases(show false=true from h)
 | .bf b es,X,S,E,g,e,h=>by
  sleep 3
  rename_i es' pos _ xn p1 _;simp only[li,decide_eq_true_eq]at h;obtain⟨⟨⟨⟨h1,rfl⟩,h2⟩,h3⟩,h4⟩:=h;obtain⟨hg,hdb⟩:=g.glob h1;obtain⟨hm,hn⟩:=g.tab.gbl _ (g.hT▸h2);cases es' with
  |nil=>
   cases es with
   |nil=>exact absurd h4 (by decide)
   |cons _ _=>cases(show false=true from h3)
  |cons e0 er=>
   have PAs:=o7 es g h3;obtain⟨ns,x0,xr,rfl,h7⟩:=aG h3;have hb:=uw b;have hk:=yX g b;have key:∀ {v:Value},qg b=v->(∃ i,v=.builtin i)\/(∃ i,v=.type i):=by
    intro v hv;subst hv;cases b<;>first|exact .inl ⟨_,rfl⟩|exact .inr ⟨_,rfl⟩
   rcases key rfl with⟨i,hi⟩|⟨i,hi⟩
   .rw[hi]at hb hk;exact gq hk hg hm hb PAs hn hdb (aa ns) (ax h7 _ _)
   .rw[hi]at hb hk;exact ow hk hg hm hb PAs hn hdb (aa ns) (ax h7 _ _)
 | .isi a c,X,S,E,g,e,h=>by
  sleep 4
  rename_i pos _ xn p1 _ _ a' c';simp only[li,decide_eq_true_eq]at h;obtain⟨⟨⟨⟨h1,rfl⟩,h2⟩,h3⟩,h4⟩:=h;obtain⟨hg,hdb⟩:=g.glob h1;obtain⟨hm,hn⟩:=g.tab.gbl _ (g.hT▸h2);have n1:notStar a'=true:=by
   cases a'<;>first|rfl|(cases a<;>cases(show false=true from h3))
  have n2:notStar c'=true:=by
   cases c'<;>first|rfl|(cases c<;>simp[uj]at h4)
  refine PE.imp (gq (wx g c) hg hm qc (gQ (PE.bD (sE a g h3)) (gQ (zU g h4) cY n2) n1) hn hdb (aa n1) ?_) λU H Q q=>⟨_,q,λx H1 z=>⟨x,rfl,z⟩⟩
  rw[aa n2]
  rfl
 | .lc elt sel it,X,S,E,g,e,h=>by
  sleep 2
  split at h
  iterate 3 (split at h;rotate_left;cases h)
  simp only[li]at h;obtain⟨⟨⟨h1,h2⟩,h3⟩,h4⟩:=h;intro Y s U H Q I q;obtain⟨hc,q⟩:=(show G.cm=true/\wI G it U H (λJ H1=>nv (λσ' H' Q'=>wE G elt σ' H' Q' (E U)) J (none::fh U sel) H1 Q) (E U) from q);rw[o8]at q;obtain⟨cl,C⟩:=bU g I.ok h1;exact pe (g.cm hc) (g.cx hc U) C (sI it g h2) (λs H fp=>sE elt (g.comp C (E U) s H fp) h3) (a5 h4 _) Y s H Q I q
 | .lci elt c sel it,X,S,E,g,e,h=>by cases(show false=true from h)
 | .lct elt n sel it,X,S,E,g,e,h=>by cases(show false=true from h)
 | .lcu elt c n sel it,X,S,E,g,e,h=>by cases(show false=true from h)
 | .dnew,X,S,E,g,e,h=>by
  sleep 3
  refine PE.imp qi λU H Q q=>?_
  have q':newD H Q:=q;unfold newD at q';exact q'
 | .sm m a b,X,S,E,g,e,h=>by
  sleep 4
  simp only[li,decide_eq_true_eq]at h;obtain⟨⟨⟨⟨⟨ha,rfl⟩,hb⟩,hn⟩,h4⟩,h5⟩:=h;exact PE.imp (vf PySem.F.plainAttrs_str (sY m) (Ay m) (zC m) (PE.bD (sE a g ha)) (gQ (PE.bD (sE b g hb)) cY hn) (aU h4 _ _ _) (uN hb hn _ _) h5 (aa hn) rfl) λU H Q q=>⟨_,q,λx H1 z=>by
   obtain⟨z,rfl,q⟩:=z;exact⟨rfl,_,q,λy H2 q=>⟨z,y,rfl,rfl,g.hK▸q⟩⟩⟩
 | .up a,X,S,E,g,e,h=>by cases(show false=true from h)
 | .isiT a cs,X,S,E,g,e,h=>by
  sleep 5
  rename_i pos _ xn p1 _ _ a' _ es' kk pos2;simp only[li,decide_eq_true_eq]at h;obtain⟨⟨⟨⟨⟨h1,rfl⟩,h2⟩,h3⟩,h4⟩,h5⟩:=h;obtain⟨hg,hdb⟩:=g.glob h1;obtain⟨hm,hn⟩:=g.tab.gbl _ (g.hT▸h2);have n1:notStar a'=true:=by
   cases a'<;>first|rfl|(cases a<;>cases(show false=true from h3))
  refine PE.imp (gq (tF g cs) hg hm qc (gQ (PE.bD (sE a g h3)) (gQ (pW (qT g h4)) cY rfl) n1) hn hdb (aa n1) ?_) λU H Q q=>⟨_,q,λx H1 z=>⟨?_,λp hp=>⟨x,p,rfl,?_,z p hp⟩⟩⟩
  .rw[aa (show notStar (.Tuple es' kk pos2)=true from rfl)]
   rfl
  .exact dI (by rw[ce];omega)
  .rw[ah,List.map_map]
   rfl
 | .mk0 c,X,S,E,g,e,h=>by cases(show false=true from h)
 | .vals tp a,X,S,E,g,e,h=>by cases(show false=true from h)
 | .disp ks es,X,S,E,g,e,h=>by
  sleep 1
  simp only[li,decide_eq_true_eq]at h;obtain⟨⟨⟨⟨h1,h2⟩,h3⟩,h4⟩,h5⟩:=h;intro Y s U H Q I q;have hk:=jG h1;have hv:=pC h2;refine sP (Cd es g h1 h2 h3) (jQ h1) nofun (λz=>by rw[z]at hk;simp at hk;omega) nofun Y s U H Q I λp hp=>?_
  refine⟨_,q p hp,λxs H2 hl z=>?_⟩;unfold mM at z;exact⟨z.1,yx ks xs,rC,by have:=nh (ks:=ks) (xs:=xs);omega,z.2⟩
 | .dzip a b,X,S,E,g,e,h=>by cases(show false=true from h)
termination_by structural x=>x
theorem sI:∀ (x:vn){X:Cx}{S:Sn}{E:St->XK},Gd X G S k E->∀ {t e:Expr},mI S x t e=true->PI X t e (λU H R=>wI G x U H R (E U))
 | .rng1 a,X,S,E,g,t,e,h=>by
  sleep 4
  simp only[li,decide_eq_true_eq]at h;obtain⟨⟨⟨⟨h1,rfl⟩,h2⟩,h3⟩,n1⟩:=h;obtain⟨hg,hdb⟩:=g.glob h1;obtain⟨hm,hn⟩:=g.tab.gbl _ (g.hT▸h2);intro Y s U H R I q;refine oz hg hm (gQ (PE.bD (sE a g h3)) cY n1) (aa n1) Y s U H R I ⟨_,q,λx H1 z=>?_⟩
  split at z
  .exact⟨_,rfl,z.1,z.2.1,z.2.2⟩
  .exact z.elim
 | .rng2 a b,X,S,E,g,t,e,h=>by
  sleep 4
  simp only[li,decide_eq_true_eq]at h;obtain⟨⟨⟨⟨⟨⟨h1,rfl⟩,h2⟩,h3⟩,h4⟩,n1⟩,n2⟩:=h;obtain⟨hg,hdb⟩:=g.glob h1;obtain⟨hm,hn⟩:=g.tab.gbl _ (g.hT▸h2);intro Y s U H R I q;refine oa hg hm (gQ (PE.bD (sE a g h3)) (gQ (PE.bD (sE b g h4)) cY n2) n1) (by rw[aa n1,aa n2];rfl) (by rw[aa n2];rfl) Y s U H R I ⟨_,q,λx H1 z=>⟨_,z,λy H2 z=>?_⟩⟩
  split at z
  .exact⟨_,_,rfl,z.1,z.2⟩
  .exact z.elim
 | .rng3 a b c,X,S,E,g,t,e,h=>by cases(show false=true from h)
 | .enm a,X,S,E,g,t,e,h=>by cases(show false=true from h)
 | .enf a,X,S,E,g,t,e,h=>by cases(show false=true from h)
 | .seq a,X,S,E,g,t,e,h=>by
  conv at h=>lhs;whnf
  intro Y s U H R I q;have q':wE G a U H (λx H1=>match x with| .ref p=>kY G.R.K p H1 R| .str z=>R (wM z) H1|_=>False) (E U):=q;rw[g.hK]at q';refine ao (sE a g h Y s U H _ I q') λv s1 ⟨x,H1,I1,r1,z⟩=>?_
  dsimp only at z
  split at z
  .unfold kY at z;rcases z with⟨⟨xs,hx⟩,z⟩|⟨⟨xs,hx⟩,z⟩|z
   .exact nF I1 r1 hx z
   .exact qC I1 r1 hx z
   .exact z.elim
  .exact rM I1 r1 z
  .exact z.elim
 | .zip a b,X,S,E,g,t,e,h=>by cases(show false=true from h)
 | .zip3 a b c,X,S,E,g,t,e,h=>by cases(show false=true from h)
termination_by structural x=>x
theorem sO:∀ (x:AF){X:Cx}{S:Sn}{E:St->XK},Gd X G S k E->∀ {e:Option Expr},mO S x e=true->PO X e (λU H Q=>wO G x U H Q (E U))
 | .no,X,S,E,g,none,h=>sG
 | .no,X,S,E,g,some _,h=>by cases(show false=true from h)
 | .yes x,X,S,E,g,none,h=>by cases(show false=true from h)
 | .yes x,X,S,E,g,some e,h=>by
  conv at h=>lhs;whnf
  intro Y s U H Q I q;refine r9 (PE.bD (sE x g h)) Y s U H Q I ⟨_,q,λy H1 z=>?_⟩
  split at z
  .exact⟨_,rfl,z⟩
  .exact z.elim
termination_by structural x=>x
theorem sT:∀ (x:Tx){X:Cx}{S:Sn}{E:St->XK},Gd X G S k E->∀ {e:Expr},mT S x e=true->PT X e (λU H Q=>wT G x U H Q (E U))
 | .not a,X,S,E,g,e,h=>by
  sleep 2
  exact xV (sT a g h)
 | .and a b,X,S,E,g,e,h=>by
  sleep 3
  simp only[li]at h;exact PT.imp (vX (PT.bD (sT a g h.1)) (qt (sT b g h.2))).pt λU H Q q=>⟨_,q,λk H1 z=>by rwa [cD]at z⟩
 | .or a b,X,S,E,g,e,h=>by
  sleep 3
  simp only[li]at h;exact PT.imp (Al (PT.bD (sT a g h.1)) (ql (sT b g h.2))).pt λU H Q q=>⟨_,q,λk H1 z=>by rwa [cD]at z⟩
 | .cmp op a b,X,S,E,g,e,h=>by
  sleep 3
  simp only[li,decide_eq_true_eq]at h;obtain⟨⟨⟨rfl,ha⟩,hb⟩,hn⟩:=h;refine PT.imp (t7 (bC.bD (g.cmp op)) (PE.bD (sE a g ha)) (PE.bD (sE b g hb)) (cg hn _)) λU H Q q=>⟨_,q,λx H1 q1=>⟨_,q1,λy H2 q2=>⟨_,q2,λz H3 q3=>?_⟩⟩⟩
  split at q3
  .exact⟨_,rfl,q3⟩
  .exact q3.elim
 | .cmp2 o1 o2 a b c,X,S,E,g,e,h=>by
  sleep 3
  simp only[li,decide_eq_true_eq]at h;obtain⟨⟨⟨⟨⟨rfl,rfl⟩,ha⟩,hb⟩,hc⟩,hn⟩:=h;refine PT.imp (qF (bC.bD (g.cmp o1)) (bC.bD (g.cmp o2)) (PE.bD (sE a g ha)) (PE.bD (sE b g hb)) (PE.bD (sE c g hc)) (gC hn)) λU H Q q=>⟨_,q,λx H1 q1=>⟨_,q1,λy H2 q2=>⟨_,q2,λz H3 q3=>?_⟩⟩⟩
  split at q3
  .refine⟨_,rfl,?_⟩;rw[cD]at q3
   split at q3
   .rename_i hk;rw[if_pos hk];refine⟨_,q3,λw H4 q4=>⟨_,q4,λz H5 q5=>?_⟩⟩
    split at q5
    .exact⟨_,rfl,q5⟩
    .exact q5.elim
   .rename_i hk;rw[if_neg hk];exact⟨_,rfl,q3⟩
  .exact q3.elim
 | .val x,X,S,E,g,e,h=>by
  have h:(mE S x e&&plainT e)=true:=h;simp only[li]at h;refine PT.imp (qN (PE.bD (sE x g h.1)) (plainT_ok h.2 _)) λU H Q q=>⟨_,q,λy H1 z=>?_⟩
  exact g.hK▸yg z
termination_by structural x=>x
theorem Cd:∀ (x:c9){X:Cx}{S:Sn}{E:St->XK},Gd X G S k E->∀ {ks:List Str}{keys:List (Option Expr)}{e:List Expr}{pos:Pos},jb ks keys=true->fq S x e=true->x.len=ks.length->PQ X pos keys e (λU H R=>∃ Q,wEs G x U H Q (E U)/\∀ xs H1,xs.length=x.len->Q xs H1->R (AK ks xs) H1)
 | .nil,X,S,E,g,ks,keys,[],pos,h1,h,hl=>by
  obtain rfl:ks=[]:=List.eq_nil_of_length_eq_zero hl.symm;rw[gA h1];exact λY s U H R I ⟨Q,q,i⟩=>xY Y s U H R I (i [] H rfl q)
 | .nil,X,S,E,g,_,_,_::_,pos,h1,h,hl=>by cases(show false=true from h)
 | .cons x xs,X,S,E,g,_,_,[],pos,h1,h,hl=>by cases(show false=true from h)
 | .cons x xs,X,S,E,g,[],keys,e::es,pos,h1,h,hl=>by cases hl
 | .cons x xs,X,S,E,g,c::ks,keys,e::es,pos,h1,h,hl=>by
  have h:(mE S x e&&notStar e&&fq S xs es)=true:=h;simp only[li]at h;obtain⟨j,p,r,rfl,h2⟩:=d8 h1;intro Y s U H R I ⟨Q,q,i⟩;refine uP pY (PE.bD (sE x g h.1.1)) (Cd xs g h2 h.2 (Nat.succ.inj hl)) Y s U H R I ?_;exact⟨_,q,λy H2 z=>⟨_,z,λys H3 hy w=>i (y::ys) H3 (congrArg Nat.succ hy) w⟩⟩
termination_by structural x=>x
theorem o7:∀ (x:c9){X:Cx}{S:Sn}{E:St->XK},Gd X G S k E->∀ {e:List Expr},fq S x e=true->PA X e (λU H Q=>wEs G x U H Q (E U))
 | .nil,X,S,E,g,[],h=>cY
 | .nil,X,S,E,g,_::_,h=>by cases(show false=true from h)
 | .cons x xs,X,S,E,g,[],h=>by cases(show false=true from h)
 | .cons x xs,X,S,E,g,e::es,h=>by
  have h:(mE S x e&&notStar e&&fq S xs es)=true:=h;simp only[li]at h;exact gQ (sE x g h.1.1) (o7 xs g h.2) h.1.2
termination_by structural x=>x
end
end
end L3
namespace L2
open PySem PySem.Spec PyProof.Rows
variable {scope:Scope}{cl:List (Str×Addr)}{fr:List Str}{sel:List Nat}{U:St}{s:Shared}
section
variable {X:Cx}
abbrev BR (X:Cx)(U:St)(st:Stmt)(t:TS):Prop:=∀ (Y:CP) (s:Shared) (H:Hp) (D:Ends),Inv X Y U H s->t D U H->wpAny (model X.prog X.w) X.A (exec st X.env) (SP X Y D) X.xe s
def c7 {elt iter tgt:Expr}{ifs:List Expr}{xs:List Str}{y:Str}{py pos spos:Pos}{wi:TI}{tg:TG}{tc:TT}{te:TE}{ni:Nat}{E:XK}(hc:X.calm=true)(hx:g8 X U E)(S:aC X scope cl xs fr sel)(hi:PI X tgt iter wi)
  (hg:∀ (s:Shared) (H:Hp) (fp:List Addr),PG (de X scope cl (xs++fr) s H fp E) tgt tg) (ht:∀ (s:Shared) (H:Hp) (fp:List Addr),AE (de X scope cl (xs++fr) s H fp E) ifs tc)
  (he:∀ (s:Shared) (H:Hp) (fp:List Addr),PE (de X scope cl (xs++fr) s H fp E) elt te) (hs:∀ x,foldedSetIterable iter X.env x=pure x) (hN:X.N.Nodup) (hni:X.N[ni]? =some y) (hy:X.env.scope.names.lookup y=some .local)
  (hsw:swapsWith (.ListComp elt [⟨tgt,iter,ifs,0⟩] scope pos) (some (.Name y py)) spos.line X.env=pure true):BR X U (.Assign [.Name y py] (.ListComp elt [⟨tgt,iter,ifs,0⟩] scope pos) spos) (λD U H=>An wi tg tc te xs sel U H λv H1=>D.nx (U.set ni (some v)) H1):=by
 intro Y s H DD I h;rw[exec_Assign_Name_used _ _ _ _ hsw];refine am (wpAny_standAt (am ?_));show wpAny _ _ (do let _ <-comprehension (.ListComp elt [⟨tgt,iter,ifs,0⟩] scope pos) scope X.env _ (newList []) false (eval iter X.env) (some (assign (.Name y py) X.env))) _ _ s;refine am (wpAny_mono (wpAny_comprehension_free (use:=some (assign (.Name y py) X.env)) (Q:=λ_ s'=>SP X Y DD .next s') rfl hs S.clos S.kind S.names ?_) (λ_ s' hq=>ap (ap hq)) λ_ _ e=>e);refine ao (hi Y s U H _ I h) λv s1 h1=>ao h1 λitv s2 h2=>?_
 obtain⟨it,fp,tn,J,H2,e,I2,T,kK,f2,h2⟩:=h2;subst e;refine wpAny_newObj_type ?_;have hD:H2 s2.heap.objs.size=none:=I2.hok.fresh (pc _);have I3:Inv X Y U (upd H2 s2.heap.objs.size (.lst [])) { s2 with heap:=s2.heap.push { cls:=.type "list",dict:=none,data:=.seq ([]:List Value).toArray } }:=
  I2.laid (t':=s2.toks) (λb u e=>ss _ e) (pc _) ⟨Nat.zero_le _,[],0,.nil,sK _ rfl⟩
 have fo2:∀ b ∈ fp,b<s2.heap.objs.size:=λb hb=>by
  obtain⟨o,ho,_⟩:=T.obj _ _ kK b hb;exact sw ho
 have f3:∀ b ∈ fp,fz X Y (upd H2 s2.heap.objs.size (.lst [])) b:=λb hb=>⟨by rw[ae (nl (fo2 b hb))];exact(f2 b hb).1,(f2 b hb).2⟩
 have st3:tn 0 (s2.heap.push { cls:=.type "list",dict:=none,data:=.seq ([]:List Value).toArray }):=T.keep _ _ _ kK λb hb o e=>ss _ e
 have fo3:∀ b ∈ fp,b<(s2.heap.push { cls:=.type "list",dict:=none,data:=.seq ([]:List Value).toArray }).objs.size:=λb hb=>by
  rw[Heap.size_push];exact Nat.lt_succ_of_lt (fo2 b hb)
 obtain⟨W,⟨m0,w0⟩,turn⟩:=h2 _ hD;generalize s2.heap.objs.size=D at*;generalize hs3:({ s2 with heap:=s2.heap.push { cls:=.type "list",dict:=none,data:=.seq ([]:List Value).toArray } }:Shared)=s3 at*;have st3':tn 0 s3.heap:=by rw[<-hs3];exact st3
 have fo3':∀ b ∈ fp,b<s3.heap.objs.size:=by rw[<-hs3];exact fo3
 refine wpAny_newFunctionEnv S.nocell (by intro y hy;simp at hy) (λh' hns hsb=>?_) S.kind;have keep:∀ b o,s3.heap.get? b=some o->h'.get? b=some o:=λb o e=>(hsb.2 b (nl (sw e))).trans (ss _ e)
 have I4:=ki (E:=E) (tk:=s3.toks+([]:List (Str×Value)).length) S I3 f3 fo3' hns keep;have st4:tn 0 h':=T.keep _ _ _ st3' λb hb o e=>keep b o e
 have stat:∀ {H':Hp},(∀ b ∈ fp,H' b=none)->∀ b ∈ fp,fz (de X scope cl (xs++fr) s3 (upd H2 D (.lst [])) fp E) Y H' b:=λ{H'} hn b hb=>
  ⟨hn b hb,nl (fo3' b hb),λz=>(lf.mp (I3.d5 b z)).elim (f3 b hb).2.1 (f3 b hb).2.2.1,.inl hb,λy c hy=>(f3 b hb).2.2.2.2.1 y c (S.sub y c hy),λp hp=>(f3 b hb).2.2.2.2.2 p hp⟩
 have loop:codeAny (model X.prog X.w) X.A (.compLoop (.ListComp elt [⟨tgt,iter,ifs,0⟩] scope pos) 0 (.ref it) (.ref D) (compEnvC scope cl s3.heap.objs.size X.env))
   (compPost (model X.prog X.w) X.A X.xe (some (assign (.Name y py) X.env)) (λ_ s'=>SP X Y DD .next s') (.ref D) s3.heap.objs.size) { s3 with heap:=h',toks:=s3.toks+([]:List (Str×Value)).length }:=by
  refine codeAny_loop rfl (λn s'=>∃ i σ' H',Inv (de X scope cl (xs++fr) s3 (upd H2 D (.lst [])) fp E) Y σ' H' s'/\tn i s'.heap/\(∀ b ∈ fp,H' b=none)/\W i n σ' H') (λn s5 hI=>?_) m0 ⟨0,_,_,I4,st4,λb hb=>(f3 b hb).1,w0⟩;show wpAny _ _ ((compTurn (.ListComp elt [⟨tgt,iter,ifs,0⟩] scope pos) 0 (.ref it) (.ref D) (compEnvC scope cl s3.heap.objs.size X.env)).onRaise (λx=>do noteFrame x (compEnvC scope cl s3.heap.objs.size X.env);theTreesLotGoes x)) _ _ s5;refine wpAny_noted ?_;refine mK (ht s3 (upd H2 D (.lst [])) fp).1 ?_;have bad:=lZ (scope:=scope) (cl:=cl) (xs:=xs) (fr:=fr) (P:=λ_ s'=>SP X Y DD .next s') (use:=some (assign (.Name y py) X.env)) (D:=D) hx I3 f3;obtain⟨i,σ5,H5,I5,st5,fr5,w5⟩:=hI;rcases turn i n σ5 H5 w5 with⟨stop,q⟩|⟨go,Nn,hNn,step⟩
  .refine ao (T.done (de X scope cl (xs++fr) s3 (upd H2 D (.lst [])) fp E) rfl rfl rfl hc i _ s5 σ5 H5 _ I5 (stat fr5) st5 stop) λr s6 ⟨hr,I6⟩=>?_
   subst hr;obtain⟨m,hn,_⟩:=I6.loc;have J:Inv X Y U H5 s6:=I3.mr (ch:=fp) I6.os I6.base I6.hok I6.bare λb hb=>⟨(f3 b hb).2.2.2.1,(f3 b hb).2.1,(f3 b hb).2.2.2.2.1,(f3 b hb).2.2.2.2.2⟩
   have fC:H5 s3.heap.objs.size=none:=I6.free;have nL:s3.heap.objs.size≠X.env.locals:=Ne.symm (nl I3.lt);have nC:∀ z c,X.env.cells.lookup z=some c->c≠s3.heap.objs.size:=λz c e=>by
    obtain⟨v,o,ho,_⟩:=I3.cell z c e;exact nl (sw ho)
   show wpAny _ _ (assign (.Name y py) X.env (.ref D)) _ _ s6;refine wpAny_assign_Name (hX J hN hni (.inl hy) (v:=.ref D) rfl (λs7 J7 hsb=>?_) (.inr hy));obtain⟨a,sb,ha⟩:=hsb;have hne:s3.heap.objs.size≠a:=by
    rcases ha with ha|ha
    .rw[ha];exact nL
    .exact Ne.symm (nC _ _ ha)
   refine⟨m,hn.sameBut sb hne,λh'' hs''=>⟨_,H5,?_,q⟩⟩;exact J7.turned (h':=h'') (t':=s7.toks) (it:=s3.heap.objs.size) (λb o hb e=>(hs''.2 b hb).trans e) fC nL (.inr I3.sz) nC λp hp=>nl (sw (I3.pin p hp).1)
  .have fin:∀ {σ8:St}{H10:Hp}{s10:Shared},Inv (de X scope cl (xs++fr) s3 (upd H2 D (.lst [])) fp E) Y σ8 H10 s10/\tn (i+1) s10.heap/\(∀ b ∈ fp,H10 b=none)->Nn σ8 H10->∃ m',m'<n/\∃ i σ' H',Inv (de X scope cl (xs++fr) s3 (upd H2 D (.lst [])) fp E) Y σ' H' s10/\tn i s10.heap/\(∀ b ∈ fp,H' b=none)/\W i m' σ' H':=λ⟨I,t,f⟩ nn=>by
    obtain⟨m',hm,w10⟩:=hNn _ _ nn;exact⟨m',hm,i+1,_,_,I,t,f,w10⟩
   refine ao (T.item (de X scope cl (xs++fr) s3 (upd H2 D (.lst [])) fp E) rfl rfl rfl hc i _ s5 σ5 H5 _ I5 (stat fr5) st5 go) λr s6 ⟨u,hr,h6⟩=>?_
   subst hr;refine ao h6 λ_ s7 ⟨xv,H7,I7,r7,y7,st7,fr7⟩=>?_
   have I7':=I7.pinned (stat fr7) (T.obj _ _ st7);refine wpAny_mono (hg s3 _ fp _ s7 σ5 H7 xv u _ I7' r7 (step xv _ y7)) (λ_ s8 ⟨σ8,H8,I8,q8⟩=>?_) bad;refine wpAny_mono ((ht s3 _ fp).2 _ s8 σ8 H8 _ I8 q8) (λok s9 ⟨H9,I9,q9⟩=>?_) bad;have back:∀ {H10:Hp}{s10:Shared},Inv (de X scope cl (xs++fr) s3 (upd H2 D (.lst [])) fp E) _ σ8 H10 s10->Inv (de X scope cl (xs++fr) s3 (upd H2 D (.lst [])) fp E) Y σ8 H10 s10/\tn (i+1) s10.heap/\(∀ b ∈ fp,H10 b=none):=λ{H10 s10} I10=>⟨I10.cn,T.keep _ _ _ st7 λb hb o e=>(I10.pin (b,o) (gt _ (gt _ (aO hb e)))).1,λb hb=>by
    obtain⟨o,e,d⟩:=T.obj _ _ st7 b hb;exact(I10.pin (b,o) (gt _ (gt _ (aO hb e)))).2.1⟩
   refine⟨λek=>?_,λek=>ap ⟨rfl,fin (back I9) (q9.2 ek)⟩⟩;refine wpAny_mono (he s3 _ fp _ s9 _ _ _ I9 (q9.1 ek)) (λuv s10 ⟨vv,H10,I10,r10,zs,hz,hzl,n10⟩=>?_) bad;refine wpAny_mono (eA (X:=de X scope cl (xs++fr) s3 (upd H2 D (.lst [])) fp E) _ s10 _ H10 (.ref D) [vv] (.ref D) [uv] (λ_ H'=>H'=upd H10 D (.lst (zs++[vv]))) I10 rfl (.cons r10 .nil) ⟨D,zs,vv,rfl,rfl,hz,hzl,rfl⟩) (λ_ s11 ⟨_,H11,I11,_,e11⟩=>?_) bad;subst e11;exact ap ⟨rfl,fin (back I11) n10⟩
 exact codeAny_compStart_list loop (T.self _ 0 _ _ _ st4 loop)
def nI {elt iter:Expr}{x y:Str}{px py pos spos:Pos}{wi:TI}{te:TE}{ni:Nat}{E:XK}(hc:X.calm=true)(hx:g8 X U E)(S:aC X scope cl [x] fr sel)(hi:PI X (.Name x px) iter wi)
  (he:∀ (s:Shared) (H:Hp) (fp:List Addr),PE (de X scope cl (x::fr) s H fp E) elt te) (hs:∀ x,foldedSetIterable iter X.env x=pure x) (hN:X.N.Nodup) (hni:X.N[ni]? =some y) (hy:X.env.scope.names.lookup y=some .local)
  (hsw:swapsWith (.ListComp elt [⟨.Name x px,iter,[],0⟩] scope pos) (some (.Name y py)) spos.line X.env=pure true):BR X U (.Assign [.Name y py] (.ListComp elt [⟨.Name x px,iter,[],0⟩] scope pos) spos) (λD U H=>Cf wi te sel U H λv H1=>D.nx (U.set ni (some v)) H1):=λY s H D I h=>
 c7 hc hx S hi.up (λs H fp=>lC S) (λ_ _ _=>jd) he hs hN hni hy hsw Y s H D I ⟨_,h,λ_ _ q=>q.g⟩
section
variable {prog:Program}{w:World}{A:Around}{E:CO}
def gW {it t:Addr}{items:Array Value}(hne:t≠it):∀ (n i:Nat) (s:Shared) (Q:List Value->Shared->Prop),s.heap.IsListIter it t i->s.heap.IsList t items->i+n<=items.size->
  (∀ h',h'.IsListIter it t (i+n)->Heap.SameBut it s.heap h'->Q ((items.toList.drop i).take n) { s with heap:=h' })->wpAny (model prog w) A (draw (.ref it) n) Q E s
 |0,i,s,Q,hit,_,_,hQ=>by
  show wpAny _ _ (pure []) Q E s;exact ap (by simpa using hQ s.heap hit (Heap.SameBut.refl ..))
 |n+1,i,s,Q,hit,ht,hle,hQ=>by
  have hlt:i<items.size:=by omega
  show wpAny _ _ (pyNext (.ref it) >>= _) Q E s;refine am (wpAny_pyNext_list_item hit ht (x:=items[i]) (by simp[hlt]) λh₁ hit₁ hs₁=>?_);refine am (be (gW hne n (i+1) _ _ hit₁ (ht.extBut hs₁.extBut hne) nofun λh₂ hit₂ hs₂=>ap ?_));have hd:items.toList.drop i=items[i]::items.toList.drop (i+1):=by simp[List.drop_eq_getElem_cons,hlt]
  have:=hQ h₂ (by rw[show i+(n+1)=i+1+n by omega];exact hit₂) (hs₁.trans hs₂);rw[hd,List.take_succ_cons]at this;exact this
def eh {t:Addr}{items:Array Value}{Q:List Value->Shared->Prop}(hh:A.handled=none)(ht:s.heap.IsList t items)(hty:s.TypeIs (.ref t) "list")
  (hQ:∀ h',Heap.ExtBut s.heap.objs.size s.heap h'->Q items.toList { s with heap:=h' }):wpAny (model prog w) A (unpackItems (.ref t) items.size none) Q E s:=by
 have hlt:t≠s.heap.objs.size:=by obtain⟨o,ho,_⟩:=id ht;exact nl (sw ho)
 unfold unpackItems;refine am ?_
 .unfold notIterableAtAll;refine am (wpAny_specialOf hty PySem.F.slot_list_iter.lookup ?_);refine ap ?_;simp only[Bool.false_eq_true,if_false];refine am (be (wpAny_pyIter_list ht ?_));refine am (be (gW hlt items.size 0 _ _ ⟨_,sK _ rfl,rfl,rfl⟩ (ht.push _) nofun λh₁ hit₁ hs₁=>?_));have hall:List.take items.size (List.drop 0 items.toList)=items.toList:=by
   rw[drop_zero];exact take_of_length_le (by simp)
  rw[hall];rw[if_neg (by simp)];have ht₁:h₁.IsList t items:=(ht.push _).extBut hs₁.extBut hlt;refine am (be (wpAny_pyNext_list_end hh hit₁ ht₁ (by simp) λh₂ he₂=>?_));simp only[Option.isSome_none,Bool.false_eq_true,if_false];refine ap (hQ h₂ λb o hb e=>he₂ b o hb (hs₁.extBut b o hb (ss _ e)))
end
def vS {es:List Expr}{k:Nat}{pos:Pos}{t:uV}{n:Nat}(hc:X.calm=true)(h:xT X es t)
  (hn:(assignEach es X.env).length=n) (hst:(assignEach es X.env).findIdx? (·.1)=none){Y:CP}{H:Hp}{a:Addr}{u:Value}{xs:List V}{Q:St->Hp->Prop}(I:Inv X Y U H s) (r:RelV (.ref a) u)
  (hq:aA X.K H a xs) (hl:xs.length=n) (hw:t xs U H Q):wpAny (model X.prog X.w) X.A (assign (.Tuple es k pos) X.env u) (λ_ s'=>∃ σ' H',Inv X Y σ' H' s'/\Q σ' H') X.xe s:=by
 cases r;obtain⟨its,rv,p,hz⟩:=I.list hq;rw[assign_Tuple];refine am (wpAny_standAt ?_);unfold unpack;have e1:(assignEach es X.env).length=its.toArray.size:=by
  rw[hn,<-hl];simp[rv.length]
 rw[e1,hst];refine am (be (eh (I.ok.hd hc) p.isList p.isList.typeIs λh' hx=>?_));have I1:Inv X Y U H { s with heap:=h' }:=I.kept (t':=s.toks) λb o e=>hx b o (nl (sw e)) e
 exact h Y _ U H xs _ Q I1 (by simpa using rv) hw
end
end L2
namespace L3
open PySem PySem.Spec L2
set_option maxHeartbeats 2000000
abbrev qm (S:Sn):List Nat->List Expr->Bool
 | [],[]=>true
 |i::is,.Name x _::r=>S.loc i x&&qm S is r
 |_,_=>false
abbrev BY (S:Sn):AJ->Expr->Bool
 | .nm i,e=>match e with| .Name x _=>S.loc i x|_=>false
 | .tp is,e=>match e with| .Tuple ts _ _=>qm S is ts|_=>false
 | .nt i is,e=>match e with| .Tuple y1 _ _=>(match y1 with| [y2,y3]=>(match y2 with| .Name x _=>(match y3 with| .Tuple ts _ _=>S.loc i x&&qm S is ts|_=>false)|_=>false)|_=>false)|_=>false
mutual
noncomputable def mS (S:Sn):Sx->Stmt->Bool
 | .asg i e,s=>match s with| .Assign y1 e' _=>(match y1 with| [y2]=>(match y2 with| .Name x _=>S.loc i x&&mE S e e'|_=>false)|_=>false)|_=>false
 | .asgT is e,_=>false
 | .par is es,_=>false
 | .sub o i v,s=>match s with| .Assign y1 v' _=>(match y1 with| [y2]=>(match y2 with| .Subscript o' i' _=>mE S o o'&&mE S i i'&&mE S v v'&&cH i'|_=>false)|_=>false)|_=>false
 | .fld o f v,s=>match s with| .Assign y1 v' _=>(match y1 with| [y2]=>(match y2 with| .Attribute o' f' _=>mE S o o'&&decide (f=f')&&mE S v v'|_=>false)|_=>false)|_=>false
 | .aug i op e,_=>false
 | .augS o i op e,s=>match s with| .AugAssign y1 op' e' _=>(match y1 with| .Subscript o' i' _=>mE S o o'&&mE S i i'&&decide (op=op')&&mE S e e'&&cH i'|_=>false)|_=>false
 | .augF o f op e,s=>match s with| .AugAssign y1 op' e' _=>(match y1 with| .Attribute o' f' _=>mE S o o'&&decide (f=f')&&decide (op=op')&&mE S e e'|_=>false)|_=>false
 | .ret e,s=>match s with| .Return y1 _=>(match y1 with|some e'=>mE S e e'|_=>false)|_=>false
 | .retN,_=>false
 | .pass,_=>false
 | .brk,_=>false
 | .cont,_=>false
 | .expr e,s=>match s with| .Expr e' _=>mE S e e'&&lQ e'|_=>false
 | .ife c a b,s=>match s with| .If c' a' b' _=>mT S c c'&&mB S a a'&&mB S b b'|_=>false
 | .whl c b,_=>false
 | .for t it b,s=>match s with| .For t' it' b' y1 _=>(match y1 with| []=>BY S t t'&&mI S it t' it'&&mB S b b'&&bX it'|_=>false)|_=>false
 | .rais e,s=>match s with| .Raise y1 y2 _=>(match y1 with|some e'=>(match y2 with|none=>mE S e e'|_=>false)|_=>false)|_=>false
 | .tryx b hs,s=>match s with| .Try b' y1 y2 y3 _=>(match y1 with|h0::hs'=>(match y2 with| []=>(match y3 with| []=>mB S b b'&&mH S hs (h0::hs')|_=>false)|_=>false)|_=>false)|_=>false
noncomputable def mB (S:Sn):gT->List Stmt->Bool
 | .nil,l=>l.isEmpty
 | .cons s r,l=>match l with|s'::r'=>mS S s s'&&mB S r r'| []=>false
noncomputable def mH (S:Sn):r8->List ExceptHandler->Bool
 | .nil,l=>l.isEmpty
 | .cons c i b hs,l=>match l with| .ExceptHandler (some (.Name x _)) (some n) (b0::bs) _::r=>S.kS x&&decide (S.T.gcl.lookup x=some c)&&decide (S.N[i]? =some n)&&decide (S.sc.names.lookup n=some .local)&&mB S b (b0::bs)&&mH S hs r|_=>false
end
structure Gs (X:Cx) (G:Gx) (S:Sn) (k:Nat) (E:St->XK):Prop extends Gd X G S k E where
 own:PassesOwn (model X.prog X.w) X.A X.env X.xe
 stk:X.stack=X.env::X.outer
 fr:X.env.frame=some X.env.locals
 fn:∀ x,X.fn x=true
variable {p:Pos}{elt:Expr}{gs:List Comprehension}{scope:Scope}
section
variable {X:Cx}{G:Gx}{S:Sn}{k:Nat}{E:St->XK}
def Gs.dg (g:Gs X G S k E){Y:CP}{xe:CO}{E':St->XK}(hx:wu (X.dg Y xe) E')(ho:PassesOwn (model X.prog X.w) X.A X.env xe):Gs (X.dg Y xe) G S k E' where
 hK:=g.hK
 hT:=g.hT
 sc:=g.sc
 N:=g.N
 nd:=g.nd
 pass:=d6 hx
 cm:=g.cm
 xok:=λ_=>hx
 xst:=g.xst
 room:=g.room
 un:=g.un
 tab:=g.tab
 fns:=g.fns
 own:=ho
 stk:=g.stk
 fr:=g.fr
 fn:=g.fn
def Gs.aF (g:Gs X G S k E)(e:Value):Gs (X.aF e) { G with cm:=false } S k (λ_ _ _=>False) where
 hK:=g.hK
 hT:=g.hT
 sc:=g.sc
 N:=g.N
 nd:=g.nd
 pass:=λY U H s e s' I h=>by
  obtain⟨e,H',C,dx,fs,T,_,_,_,_,_,_,_,_,_,q⟩:=h;exact q.elim
 cm:=λz=>by cases z
 xok:=λz=>by cases z
 xst:=g.xst
 room:=λz=>by cases z
 un:=g.un
 tab:=g.tab
 fns:=g.fns
 own:=PassesOwn.never
 stk:=g.stk
 fr:=g.fr
 fn:=g.fn
def fY (env:Env):∀ {is:List Nat}{ts:List Expr},qm S is ts=true->(assignEach ts env).length=is.length/\(assignEach ts env).findIdx? (·.1)=none
 | [],[],_=>⟨rfl,rfl⟩
 | [],_::_,h=>by simp[qm]at h
 |_::_,[],h=>by simp[qm]at h
 |i::is,t::ts,h=>by
  cases t<;>simp[qm]at h
  rename_i x p;obtain⟨h1,h2⟩:=fY env h.2;have e:assignEach (.Name x p::ts) env=(false,assign (.Name x p) env)::assignEach ts env:=rfl;rw[e];refine⟨by simp[h1],?_⟩;rw[List.findIdx?_cons];simp[h2]
def jh (g:Gs X G S k E):∀ {is:List Nat}{ts:List Expr},qm S is ts=true->xT X ts (gl is)
 | [],[],_=>λY s U H vs us Q I r h=>ji Y s U H vs us Q I r ⟨length_eq_zero_iff.mp h.1,by
   have:=h.2;have e:vs=[]:=length_eq_zero_iff.mp h.1;subst e;exact this⟩
 | [],_::_,h=>by simp[qm]at h
 |_::_,[],h=>by simp[qm]at h
 |i::is,t::ts,h=>by
  cases t<;>simp[qm]at h
  rename_i x p;obtain⟨hi,hx⟩:=g.loc h.1;have h1:PG X (.Name x p) (dA i):=dS (by rw[g.N];exact g.nd) hi hx (.inl (g.fn x));have h2:=jh g h.2;intro Y s U H vs us Q I r q;refine dO h1 h2 rfl Y s U H vs us Q I r ?_;obtain⟨hl,q⟩:=q;cases vs with
  |nil=>simp at hl
  |cons v vs=>exact⟨v,vs,rfl,by simpa using hl,q⟩
def zE (g:Gs X G S k E)(hc:G.cm=true){t:AJ}{e:Expr}(h:BY S t e=true):PG X e (λv U H Q=>wG U t G.R.K v H λσ1=>Q σ1 H):=by
 cases t with
 |nm i=>
  conv at h=>lhs;whnf
  split at h
  .obtain⟨hi,hx⟩:=g.loc h;exact dS (by rw[g.N];exact g.nd) hi hx (.inl (g.fn _))
  .cases h
 |tp is=>
  conv at h=>lhs;whnf
  split at h
  .intro Y s U H v u Q I r q;obtain⟨a,xs,rfl,hq,hl,q⟩:=q;obtain⟨e1,e2⟩:=fY X.env h;rw[g.hK]at hq;rcases hq with hq|hq
   .exact iP (g.cm hc) (jh g h) e1 e2 Y s U H _ u Q I r ⟨a,xs,rfl,hq,hl,hl,q⟩
   .exact vS (g.cm hc) (jh g h) e1 e2 I r hq hl ⟨hl,q⟩
  .cases h
 |nt i is=>
  conv at h=>lhs;whnf
  split at h
  .split at h
   .split at h
    .split at h
     .intro Y s U H v u Q I r q;simp only[li]at h;obtain⟨a,y,b,ys,rfl,hq,hb,hl,q⟩:=q;obtain⟨e1,e2⟩:=fY X.env h.2;obtain⟨hi,hx⟩:=g.loc h.1;rw[g.hK]at hq hb;refine iP (n:=2) (g.cm hc) (dO (dS (by rw[g.N];exact g.nd) hi hx (.inl (g.fn _))) (dO (iP (g.cm hc) (jh g h.2) e1 e2) ji rfl) rfl) rfl rfl Y s U H _ u Q I r ⟨a,_,rfl,hq,rfl,y,_,rfl,.ref b,_,rfl,b,ys,rfl,hb,hl,hl,rfl,q⟩
     .cases h
    .cases h
   .cases h
  .cases h
def nR {e o i:Expr}(n:Nat)(env:Env):swapsWithSole [.Subscript o i p] e n env=pure false:=by
 cases e<;>rfl
def oy {e o:Expr}{f:Str}(n:Nat)(env:Env):swapsWith e (some (.Attribute o f p)) n env=pure false:=by
 cases e<;>rfl
def kZ {e o i:Expr}(env:Env):swappedStores [.Subscript o i p] e env=pure none:=by
 cases e<;>rfl
def k9 {o i:Expr}{pos:Pos}{env:Env}(h:cH i=true):∀ v,assign (.Subscript o i pos) env v=(do
   let ov <-holding [v] (eval o env)
   let iv <-holding [v,ov] (eval i env)
   standAt pos
   holding [v,ov,iv] (setItem ov iv v)
   release [v,ov,iv] []):=by
 intro v;cases i<;>first|rfl|cases h
def sg {i:Expr}(h:cH i=true):∀ ov iv new,augStore i ov iv new=(do holding [new,ov,iv] (setItem ov iv new);release [new,ov,iv] [];pure .next):=by
 intro ov iv new;cases i<;>first|rfl|cases h
def vm (op:Operator):AV X op (zG op):=by
 intro Y s U H x y v u Q I r1 r2 h;unfold zG at h
 split at h
 .exact ye Y s U H _ _ v u Q I r1 r2 ⟨_,_,rfl,rfl,h⟩
 .exact xq Y s U H _ _ v u Q I r1 r2 ⟨_,_,rfl,rfl,h⟩
 .exact h.elim
def xb (g:Gd X G S k E):yy X (pA G.R.K):=by
 intro Y s U H x y v u Q I r1 r2 h;unfold pA at h;rw[g.hK]at h
 split at h
 .obtain⟨xs,w,h1,h2,h3,q⟩:=h;exact pD Y s U H _ _ v u Q I r1 r2 ⟨_,xs,_,w,rfl,rfl,h1,h2,h3,q⟩
 .exact h.elim
def ly {py:Pos}{y:Str}{n:Nat}{env:Env}(hk:env.scope.kind=.function):∃ b,swapsWith (.ListComp elt gs scope p) (some (.Name y py)) n env=pure b/\(b=true->env.scope.names.lookup y=some .local):=by
 refine⟨_,rfl,λh=>?_⟩;simp only[li]at h;have:=h.1.1.2;exact beq_iff_eq.mp this
end
set_option maxHeartbeats 2000000
variable {S:Sn}
section
variable {k:Nat}
def yP {x:Ex}(h:mE S x (.ListComp elt gs scope p)=true):(∃ e' sel it y py iter,x=.lc e' sel it/\gs=[⟨.Name y py,iter,[],0⟩]/\
  eK S scope [y] sel=true/\mI S it (.Name y py) iter=true/\mE { S with sc:=cQ S.sc scope,N:=y::sel.filterMap λi=>S.N[i]? } e' elt=true/\bX iter=true)\/
  (∃ e' c sel it y py iter c',x=.lci e' c sel it/\gs=[⟨.Name y py,iter,[c'],0⟩]/\
  eK S scope [y] sel=true/\mI S it (.Name y py) iter=true/\mE { S with sc:=cQ S.sc scope,N:=y::sel.filterMap λi=>S.N[i]? } e' elt=true/\mT { S with sc:=cQ S.sc scope,N:=y::sel.filterMap λi=>S.N[i]? } c c'=true/\bX iter=true)\/
  ∃ e' n sel it ts kt pt iter,x=.lct e' n sel it/\gs=[⟨.Tuple ts kt pt,iter,[],0⟩]/\
  eK S scope (Ag ts) sel=true/\qQ { S with sc:=cQ S.sc scope,N:=Ag ts++sel.filterMap λi=>S.N[i]? } (List.range n) ts=true/\(Ag ts).length=n/\mI S it (.Tuple ts kt pt) iter=true/\mE { S with sc:=cQ S.sc scope,N:=Ag ts++sel.filterMap λi=>S.N[i]? } e' elt=true/\bX iter=true:=by
 cases x<;>(try (cases(show false=true from h);done))
 all_goals (conv at h=>lhs;whnf)
 all_goals (iterate 5 (split at h<;>first|(cases h;done)|skip))
 all_goals (simp only[li,decide_eq_true_eq]at h)
 all_goals first
  |exact .inl ⟨_,_,_,_,_,_,rfl,rfl,h.1.1.1,h.1.1.2,h.1.2,h.2⟩
  |exact .inr (.inl ⟨_,_,_,_,_,_,_,_,rfl,rfl,h.1.1.1.1,h.1.1.1.2,h.1.1.2,h.1.2,h.2⟩)
  |exact .inr (.inr ⟨_,_,_,_,_,_,_,_,rfl,rfl,h.1.1.1.1.1,h.1.1.1.1.2,h.1.1.1.2,h.1.1.2,h.1.2,h.2⟩)
def lA (e:Expr){x:Ex}(h:mE S x e=true):lQ e=true\/∃ elt gs scope p,e=.ListComp elt gs scope p:=by
 cases e<;>first|exact .inl rfl|exact .inr ⟨_,_,_,_,rfl⟩|(cases x<;>cases(show false=true from h))
def zK {G:Gx}{X:Cx}{E:St->XK}(g:Gs X G S k E){i:Nat}{x:Str}{e:Ex}{e':Expr}{px:Pos}(hx:S.loc i x=true)(h:mE S e e'=true):PS X (.Assign [.Name x px] e' p) (λD U H=>wS (.asg i e) G D E U H):=by
 obtain⟨hi,hl⟩:=g.loc hx;have hN:X.N.Nodup:=by rw[g.N];exact g.nd
 rcases lA e' h with hn|⟨elt,gs,scope,pp,rfl⟩
 .exact qh hN hi hl (sE e g.toGd h) (dN hn _ _ _) (.inl (g.fn x))
 .intro Y s U H D I q;obtain⟨b,hb,hb2⟩:=ly (elt:=elt) (gs:=gs) (scope:=scope) (p:=pp) (py:=px) (y:=x) (n:=p.line) (env:=X.env) I.ok.kind;cases b with
  |false=>exact qh hN hi hl (sE e g.toGd h) hb (.inl (g.fn x)) Y s U H D I q
  |true=>
   rcases yP h with⟨e2,sel,it,y,py,iter,rfl,rfl,h1,h2,h3,h4⟩|⟨e2,c,sel,it,y,py,iter,c',rfl,rfl,h1,h2,h3,h5,h4⟩|⟨e2,n,sel,it,ts,kt,pt,iter,rfl,rfl,h1,h5,h6,h2,h3,h4⟩
   .obtain⟨hc,q⟩:=(show G.cm=true/\wI G it U H (λJ H1=>nv (λσ' H' Q'=>wE G e2 σ' H' Q' (E U)) J (none::fh U sel) H1 (λx H1=>D.nx (U.set i (some x)) H1)) (E U) from q);rw[o8]at q;obtain⟨cl,C⟩:=bU g.toGd I.ok h1;exact nI (g.cm hc) (g.toGd.cx hc U) C (sI it g.toGd h2) (λs H fp=>sE e2 (g.toGd.comp C (E U) s H fp) h3) (a5 h4 _) hN hi (hb2 rfl) hb Y s H D I q
   .cases(show false=true from h)
   .cases(show false=true from h)
mutual
theorem sS:∀ (x:Sx){G:Gx}{X:Cx}{S:Sn}{E:St->XK},Gs X G S k E->∀ {st:Stmt},mS S x st=true->PS X st (λD U H=>wS x G D E U H)
 | .asg i e,G,X,S,E,g,st,h=>by
  sleep 3
  simp only[li]at h;exact zK g h.1 h.2
 | .asgT is e,G,X,S,E,g,st,h=>by cases(show false=true from h)
 | .par is es,G,X,S,E,g,st,h=>by cases(show false=true from h)
 | .sub o i v,G,X,S,E,g,st,h=>by
  sleep 3
  simp only[li]at h;obtain⟨⟨⟨h1,h2⟩,h3⟩,h4⟩:=h;exact xQ (sE v g.toGd h3) (wj (sE o g.toGd h1) (sE i g.toGd h2) (mZ g.un) (k9 h4)) (nR _ _) (kZ _) rfl
 | .fld o f v,G,X,S,E,g,st,h=>by
  sleep 3
  simp only[li,decide_eq_true_eq]at h;obtain⟨⟨h1,rfl⟩,h3⟩:=h;intro Y s U H D I q;have q':wE G v U H (λy H1=>wE G o U H1 (λx H2=>r6 G f x y H2 (λH3=>D.nx U H3)) (E U)) (E U):=q;refine plainObj_wpAny_Assign_Attribute (ao (sE v g.toGd h3 Y s U H _ I q') λu s1 ⟨y,H1,I1,ry,q⟩=>ao (sE o g.toGd h1 Y s1 U H1 _ I1 q) λov s2 ⟨x,H2,I2,rx,q2⟩=>?_) (oy _ _);unfold r6 at q2;obtain⟨a,i,rfl,hna,q2⟩:=q2;obtain rfl:ov=Value.ref a:=rx;have n:=g.tab.na i f hna;rcases q2 with⟨dx,fs,ho,ea,l,q2⟩|⟨d,fs,fr,ho,ea,l,q2⟩|⟨fr,ho,ea,q2⟩
  .exact fT I2 ea (g.tab.oc i ho).1 n l ry λs3 I3=>⟨U,_,I3,q2⟩
  .exact gd I2 ea (g.tab.xc i ho).1 n l ry λs3 I3=>⟨U,_,I3,q2⟩
  .exact fW I2 ea (g.tab.xc i ho).1 n ry λd s3 hd I3=>⟨U,_,I3,q2 d hd⟩
 | .aug i op e,G,X,S,E,g,st,h=>by cases(show false=true from h)
 | .augS o i op e,G,X,S,E,g,st,h=>by
  sleep 2
  simp only[li,decide_eq_true_eq]at h;obtain⟨⟨⟨⟨h1,h2⟩,rfl⟩,h3⟩,h4⟩:=h;exact tO (sE o g.toGd h1) (sE i g.toGd h2) (xb g.toGd) (sE e g.toGd h3) (vm op) (mZ g.un) (sg h4)
 | .augF o f op e,G,X,S,E,g,st,h=>by
  sleep 2
  simp only[li,decide_eq_true_eq]at h;obtain⟨⟨⟨h1,rfl⟩,rfl⟩,h3⟩:=h;intro Y s U H D I q;have q':wE G o U H (λx H1=>gU G f x H1 (λu H2=>wE G e U H2 (λy H3=>zG op u y H3 λz H4=>r6 G f x z H4 (λH5=>D.nx U H5)) (E U))) (E U):=q;refine wpAny_AugAssign_AttributeAny (ao (sE o g.toGd h1 Y s U H _ I q') λov s1 ⟨x,H1,I1,rx,qf⟩=>?_);unfold gU at qf;obtain⟨a,i,fs,v,rfl,ea,hna,l,q1⟩:=qf;obtain rfl:ov=Value.ref a:=rx;have n:=g.tab.na i f hna;have go:∀ (u:Value) (s2:Shared),Inv X Y U H1 s2->RelV v u->wpAny (model X.prog X.w) X.A (eval _ X.env) (λw s3=>wpAny (model X.prog X.w) X.A (inplaceOp op u w) (λnew s4=>wpAny (model X.prog X.w) X.A (setAttr (.ref a) f new) (λ_=>SP X Y D .next) X.xe s4) X.xe s3) X.xe s2:=λu s2 I2 ru=>by
   refine ao (sE e g.toGd h3 Y s2 U H1 _ I2 q1) λw s3 ⟨y,H3,I3,ry,q3⟩=>ao (vm op Y s3 U H3 v y u w _ I3 ru ry q3) λnew s4 ⟨z,H4,I4,rz,q4⟩=>?_
   unfold r6 at q4;obtain⟨a',i',ea',hna',q5⟩:=q4;cases ea';have n':=g.tab.na i' f hna';rcases q5 with⟨dx,fs',ho,eb,l',q5⟩|⟨d,fs',fr,ho,eb,l',q5⟩|⟨fr,ho,eb,q5⟩
   .exact fT I4 eb (g.tab.oc i' ho).1 n' l' rz λs5 I5=>⟨U,_,I5,q5⟩
   .exact gd I4 eb (g.tab.xc i' ho).1 n' l' rz λs5 I5=>⟨U,_,I5,q5⟩
   .exact fW I4 eb (g.tab.xc i' ho).1 n' rz λd s5 hd I5=>⟨U,_,I5,q5 d hd⟩
  rcases ea with⟨ho,dx,ea⟩|⟨ho,dx,fr,ea⟩
  .exact gb I1 ea (g.tab.oc i ho).1 n l λu s2 I2 ru=>go u s2 I2 ru
  .exact hV I1 ea (g.tab.xc i ho).1 n l λu s2 I2 ru=>go u s2 I2 ru
 | .ret e,G,X,S,E,g,st,h=>by
  sleep 2
  exact x9 (sE e g.toGd h)
 | .retN,G,X,S,E,g,st,h=>by cases(show false=true from h)
 | .pass,G,X,S,E,g,st,h=>by cases(show false=true from h)
 | .brk,G,X,S,E,g,st,h=>by cases(show false=true from h)
 | .cont,G,X,S,E,g,st,h=>by cases(show false=true from h)
 | .expr e,G,X,S,E,g,st,h=>by
  sleep 1
  simp only[li]at h;exact tM (sE e g.toGd h.1) (dN h.2 _ _ _)
 | .ife c a b,G,X,S,E,g,st,h=>by
  sleep 1
  simp only[li]at h;exact PS.imp (Aj (PT.bD (sT c g.toGd h.1.1)) (sB a g h.1.2) (sB b g h.2)) λD U H q=>⟨_,q,λk H1 z=>by rwa [cD]at z⟩
 | .whl c b,G,X,S,E,g,st,h=>by cases(show false=true from h)
 | .for t it b,G,X,S,E,g,st,h=>by
  sleep 2
  simp only[li]at h;obtain⟨⟨⟨h1,h2⟩,h3⟩,h4⟩:=h;intro Y s U H D I q
  conv at q=>whnf
  obtain⟨hc,q⟩:=q;unfold og at q;exact wq g.own (g.cm hc) (sI it g.toGd h2) (zE g hc h1) (sB b g h3) (a5 h4 _) Y s U H D I q
 | .rais e,G,X,S,E,g,st,h=>by
  sleep 3
  intro Y s U H D I q
  conv at q=>whnf
  obtain⟨hc,q⟩:=q;refine pG (g.xok hc) (g.cm hc) (PE.bD (sE e g.toGd h)) Y s U H D I ⟨_,q,λv H1 z=>?_⟩;obtain⟨a,i,dx,fs,ev,ea,hi,q⟩:=z;exact⟨a,_,dx,fs,ev,ea,(g.tab.xc i hi).1,q⟩
 | .tryx b hs,G,X,S,E,g,st,h=>by
  sleep 4
  simp only[li]at h;intro Y s U H D I q;obtain⟨hc,q⟩:=(show G.cm=true/\wB b G D (λσ' e H'=>wH hs G D σ' e H') U H from q);refine wm (E':=λσ' e H'=>wH hs G D σ' e H') I g.stk g.fr (λxe hx ho=>?_) λσ' H' s' e C dx fs T J he hT hH hp st q'=>?_
  .exact sB b (g.dg hx ho) h.1 [] s U H D (I.dg xe) q
  .exact sH hs g h.2 J he hT hH hp st q'
theorem sB:∀ (x:gT){G:Gx}{X:Cx}{S:Sn}{E:St->XK},Gs X G S k E->∀ {st:List Stmt},mB S x st=true->uY X st (λD U H=>wB x G D E U H)
 | .nil,G,X,S,E,g,[],h=>sx
 | .nil,G,X,S,E,g,_::_,h=>by cases(show false=true from h)
 | .cons x xs,G,X,S,E,g,[],h=>by cases(show false=true from h)
 | .cons x xs,G,X,S,E,g,st::sts,h=>by
  have h:(mS S x st&&mB S xs sts)=true:=h;simp only[li]at h;exact qO (sS x g h.1) (sB xs g h.2)
theorem sH:∀ (x:r8){G:Gx}{X:Cx}{S:Sn}{E:St->XK},Gs X G S k E->∀ {hs:List ExceptHandler},mH S x hs=true->∀ {Y:CP}{U:St}{H:Hp}{s:Shared}{e C:Addr}{dx:Option Addr}{fs:List (Str×V)}{T:Addr}{D:Ends},
  L2.Inv X Y U H s->H e=some (.exc C dx fs false)->X.s₀.heap.objs.size<=T->H T=none->(∀ p ∈ X.pn++Y,p.1≠T)->nW s.heap e T .none->wH x G D U e H->wpAny (model X.prog X.w) X.A (handleBy (.ref e) X.env hs) (SP X Y D) X.xe s
 | .nil,G,X,S,E,g,hs,h,Y,U,H,s,e,C,dx,fs,T,D,I,he,hT,hH,hp,st,q=>by
  simp only[wH]at q
 | .cons c i b hs,G,X,S,E,g,l,h,Y,U,H,s,e,C,dx,fs,T,D,I,he,hT,hH,hp,st,q=>by
  conv at h=>lhs;whnf
  split at h
  .simp only[li,decide_eq_true_eq]at h;obtain⟨⟨⟨⟨⟨h1,h2⟩,h3⟩,h4⟩,h5⟩,h6⟩:=h;obtain⟨hg,hdb⟩:=g.glob h1;have hm:=g.tab.gcl _ _ (g.hT▸h2);obtain⟨j,dx',fs',kk,he',hxc,hsub,q⟩:=(show ∃ j dx fs k,H e=some (.exc (G.R.cad j) dx fs false)/\G.T.xc.contains j=true/\G.T.sub.lookup (j,c)=some k/\_ from q);have ee:=he.symm.trans he'
   injection ee with ee
   injection ee with e1 e2 e3 e4
   subst e1;obtain⟨_,hs2⟩:=g.tab.sub j c kk hsub;obtain⟨hs3,hs4⟩:=hs2 hxc;refine jI (i:=i) I he hT hH hp st (g.tab.xc j hxc).1 hs4 hs3 hg hm (by rw[g.N];exact g.nd) (by rw[g.N];exact h3) (by rw[g.sc];exact h4) hdb (λhk s2 J=>?_) λhk=>?_
   .rw[hk]at q;unfold fm at q;exact sB b (g.aF (.ref e)) h5 Y s2 _ H _ J q
   .rw[hk]at q;unfold fm at q;exact sH hs g h6 I he hT hH hp st q
  .cases h
end
end
abbrev bx (T:Tab)(R:Rt):Nat->Nat->Sp
 |0,_=>λ_ _ _ _=>False
 |k+1,f=>λvs H Q E=>match T.fns[f]? with
  |some d=>vs.length=d.ps.length/\wB d.body ⟨T,R,bx T R k,true⟩ { nx:=λ_ H'=>Q .non H',rt:=Q } (λ_=>E) (start d.N vs) H
  |none=>False
structure oH (K:W.Frag) (T:Tab) (f:Addr) (d:aN):Prop where
 ex:∃ (name qual:Str) (params:Arguments) (body:List Stmt) (scope:Scope) (dV kV doc pm cdv ct oc:Value) (od an:Option Addr) (osl:Array (Option Value)),
  K.lookup f=some ⟨oc,od,.func (W.fnOf name qual params body scope dV kV doc pm an cdv ct),osl⟩/\W.codeIn K cdv qual=true/\fK d.N d.ps scope/\mB ⟨T,scope,d.N⟩ d.body body=true/\
  ∀ j,∃ ds,Binds K (W.fnOf name qual params body scope dV kV doc pm an cdv ct) d.ps ds/\Vals (d.dfl.drop j) ds
def qP {P:Program}{w:World}{K:W.Frag}{mg:CQ}{base:Heap}{T:Tab}{R:Rt}(tab:tw K mg T R)(hK:R.K=K)(fs:∀ f d,T.fns[f]? =some d->oH K T (R.fad f) d):
  ∀ (k f:Nat) (d:aN),T.fns[f]? =some d->qj P w K mg base (2*k) (R.fad f) d (bx T R k f)
 |0,f,d,hd=>by
  obtain⟨name,qual,params,body,scope,dV,kV,doc,pm,cdv,ct,oc,od,an,osl,lk,hcd,S,hm,hb⟩:=(fs f d hd).ex;exact⟨⟨_,⟨λ_ _ _ _ h=>h.elim,λ_ _ _ _ _ _ _ _ _ _ _ _ _ h=>h.elim⟩,hb⟩,λ_ _ _ _ _=>⟨λ_ _ _ _ h=>h.elim,λ_ _ _ _ _ _ _ _ _ _ _ _ _ h=>h.elim⟩⟩
 |k+1,f,d,hd=>by
  obtain⟨name,qual,params,body,scope,dV,kV,doc,pm,cdv,ct,oc,od,an,osl,lk,hcd,S,hm,hb⟩:=(fs f d hd).ex;have F:=zO (P:=P) (w:=w) (mg:=mg) (base:=base) (CX:=pN P w) (k:=2*k+1) (sp:=bx T R (k+1) f) lk hcd S (λvs H Q E h=>?_) (λA outer s H vs Q E hr h=>?_)
  .refine⟨⟨_,F,hb⟩,λfd oc' od' osl' lk'=>?_⟩;have e:=lk.symm.trans lk'
   injection e with e
   injection e with e1 e2 e3 e4
   injection e3 with e3
   subst e3;exact F
  .simp only[bx,hd]at h;exact h.1
  .simp only[bx,hd]at h;refine⟨λD U H=>wB d.body ⟨T,R,bx T R k,true⟩ D (λ_=>E) U H,?_,h.2⟩;have hx:=oA (P:=P) (w:=w) (K:=K) (mg:=mg) (base:=base) (N:=d.N) (qual:=qual) (scope:=scope) (f:=R.fad f) (cd:=cdv) (A:=A) (outer:=outer) (E:=E) (s:=s) (H:=H);refine sB (k:=2*k) d.body (G:=⟨T,R,bx T R k,true⟩) (S:=⟨T,scope,d.N⟩) { hK:=hK,hT:=rfl,sc:=rfl,N:=rfl,nd:=S.nd,pass:=d6 hx,cm:=λ_=>rfl,xst:=⟨_,_,_,rfl,rfl,rfl⟩,room:=λ_=>hr,un:= ?_,tab:=tab,fns:=λf' d' hd'=>qP tab hK fs k f' d' hd',xok:=λ_=>hx,own:=PassesOwn.leaving,stk:=rfl,fr:=rfl,fn:=λ_=>rfl } hm;have:=hr.un;show(A.deeper _).units+200<cLine
   omega
abbrev e9 (K:W.Frag)(n:Nat):Sp:=λvs H Q _=>∃ (a:Addr) (ns:List Int),vs=[.ref a]/\aA K H a (ns.map V.int)/\ns.length<=n/\∀ H',Q (.bl true) H'
variable {P:Program}
def rV {w:World}{H:Hp}{s:Shared}{e:Value}{s':Shared}(h:pN P w [] H s (λ_ _=>False) e s'):False:=by
 obtain⟨e,H',C,dx,fs,T,_,_,_,_,_,_,_,_,_,q⟩:=h;exact q
variable {K:W.Frag}{fd:FuncData}{ps:List Str}
def xh (h:Binds K fd ps []):∀ j:Nat,∃ ds,Binds K fd ps ds/\Vals (([]:List V).drop j) ds:=λj=>⟨[],h,by simp;exact .nil⟩
def uO {ds:List Value}{T:Addr}{o:Obj}{items:Array Value}{c n:Nat}(hd:fd.defaults=.ref T)(ho:K.lookup T=some o)(hs:o.data=.seq items c)(hn:n+ds.length=ps.length)
  (h:∀ us:List Value,us.length=n->∃ k:Option (Array Value)->Sem (List (Str×Value)),bindArgs fd ⟨us,[]⟩=seqItems? fd.defaults >>= k/\k (some items)=pure (ps.zip (us++ds))):Binds K fd ps ds:=λs us X hl=>by
 obtain⟨k,h1,h2⟩:=h us (by rw[ci]at hl;omega);exact W.binds_K X hd ho hs h1 h2
def hU:∀ {vs:List V}{us:List Value}(j:Nat),Vals vs us->Vals (vs.drop j) (us.drop j)
 |_,_,0,h=>h
 |_,_,j+1,.nil=>by simp;exact .nil
 |_::_,_::_,j+1,.cons _ h=>by simpa using hU j h
def lN {α β:Type} [BEq α] [LawfulBEq α] {x:α}{y:β}:∀ {l:List (α×β)},l.lookup x=some y->(x,y) ∈ l
 | [],h=>by simp at h
 |(a,b)::l,h=>by
  rw[lookup_cons]at h;cases e:x ==a with
  |true=>
   rw[e]at h;have:=beq_iff_eq.mp e;subst this
   injection h with h
   subst h;exact le
  |false=>
   rw[e]at h;exact dl _ (lN h)
def gv {α β:Type} [BEq α] [LawfulBEq α] {P:α->β->Prop}{l:List (α×β)}(h:∀ p ∈ l,P p.1 p.2):∀ x y,l.lookup x=some y->P x y:=λx y e=>h (x,y) (lN e)
def dJ {α β γ:Type} [BEq α] [LawfulBEq α] [BEq β] [LawfulBEq β] {P:α->β->γ->Prop}{l:List ((α×β)×γ)}(h:∀ p ∈ l,P p.1.1 p.1.2 p.2):∀ x y z,l.lookup (x,y)=some z->P x y z:=λx y z e=>h ((x,y),z) (lN e)
def ei {α:Type} [BEq α] [LawfulBEq α] {P:α->Prop}{l:List α}(h:∀ p ∈ l,P p):∀ x,l.contains x=true->P x:=λx e=>h x (by simpa using e)
def uX {α β:Type} [BEq α] [LawfulBEq α] [BEq β] [LawfulBEq β] {P:α->β->Prop}{l:List (α×β)}(h:∀ p ∈ l,P p.1 p.2):∀ x y,l.contains (x,y)=true->P x y:=λx y e=>h (x,y) (by simpa using e)
abbrev mf (P:Nat->aN->Prop):Nat->List aN->Prop
 |_,[]=>True
 |n,d::r=>P n d/\mf P (n+1) r
def vi {P:Nat->aN->Prop}:∀ {l:List aN}{n:Nat},mf P n l->∀ f d,l[f]? =some d->P (n+f) d
 | [],_,_,f,d,e=>by simp at e
 |a::l,n,h,0,d,e=>by
  have:a=d:=by simpa using e
  subst this;exact h.1
 |a::l,n,h,f+1,d,e=>by
  have:=vi h.2 f d (by simpa using e)
  rwa [Nat.add_assoc,Nat.add_comm 1 f]at this
def lL {P:Nat->aN->Prop}{l:List aN}(h:mf P 0 l):∀ f d,l[f]? =some d->P f d:=λf d e=>by
 have:=vi h f d e
 rwa [Nat.zero_add]at this
def vQ {w:World}{mg:CQ}{base:Heap}{T:Tab}{R:Rt}(tab:tw K mg T R)(hK:R.K=K)(fs:∀ f d,T.fns[f]? =some d->oH K T (R.fad f) d) (k fl:Nat) (d:aN) (hd:T.fns[fl]? =some d)
  {oc:Value}{od:Option Addr}{osl:Array (Option Value)}(lk:K.lookup (R.fad fl)=some ⟨oc,od,.func fd,osl⟩) (h:∀ vs H Q E,e9 K 63 vs H Q E->bx T R k fl vs H Q E):bF P w K mg base (pN P w) (2*k) (R.fad fl) fd d.ps (e9 K 63):=
 ((qP tab hK fs k fl d hd).own _ _ _ _ lk).imp h
end L3
namespace L3
open PySem L2
abbrev jt:HO->HO
 | .lst _=>.lst []
 | .dK _=>.dK []
 | .dT _=>.dT []
 | .fL _ (.dK _)=>.dK []
 | .ins C dx _=>.ins C dx []
 | .exc C _ _ _=>.exc C none [] false
 |o=>o
abbrev gO (H H':Hp):Prop:=∀ a o,H a=some o->∃ o',H' a=some o'/\jt o'=jt o
def gO.tup {H H':Hp}(g:gO H H'){t:Addr}{xs:List V}(h:H t=some (.tup xs)):H' t=some (.tup xs):=by
 obtain⟨o',h1,h2⟩:=g t _ h;have key:∀ u:HO,jt u=.tup xs->u=.tup xs:=λu=>by cases u<;>intro e<;>first|exact e|cases e|(rename_i v;cases v<;>cases e)
 rw[key o' h2]at h1;exact h1
variable {H:Hp}{a:Addr}{xs:List V}
def zY (e:H a=some (.lst xs)):tyName (.ref a) H=some "list":=by
 show(match H a with|some (.lst _)=>some "list"|some (.tup _)=>some "tuple"|some (.dK _)=>some "dict"|some (.fL _ (.dK _))=>some "dict"|_=>none)=_;rw[e]
def Bs (e:H a=some (.tup xs)):tyName (.ref a) H=some "tuple":=by
 show(match H a with|some (.lst _)=>some "list"|some (.tup _)=>some "tuple"|some (.dK _)=>some "dict"|some (.fL _ (.dK _))=>some "dict"|_=>none)=_;rw[e]
variable {kvs:List (Key×V)}
def A1 (e:H a=some (.dK kvs)):tyName (.ref a) H=some "dict":=by
 show(match H a with|some (.lst _)=>some "list"|some (.tup _)=>some "tuple"|some (.dK _)=>some "dict"|some (.fL _ (.dK _))=>some "dict"|_=>none)=_;rw[e]
def gO.upd {o o':HO}(h:H a=some o)(e:jt o'=jt o):gO H (L2.upd H a o'):=λb u hb=>by
 by_cases z:b=a
 .subst z;rw[h]at hb;cases hb;exact⟨o',ah,e⟩
 .exact⟨u,(ae z).trans hb,rfl⟩
def gO.new {o':HO}(h:H a=none):gO H (L2.upd H a o'):=λb u hb=>⟨u,(ae λz=>by rw[z,h]at hb;cases hb).trans hb,rfl⟩
structure aB where
 p:Hp->(Addr->Prop)->Prop
 st:∀ H H' D,p H D->(∀ a,D a->H' a=H a)->gO H H'->p H' D
 up:∀ H D D',p H D->(∀ a,D a->D' a)->p H D'
abbrev pt (a:Addr)(o:HO):aB:=⟨λH D=>D a/\H a=some o,λH H' D h k _=>⟨h.1,(k a h.1).trans h.2⟩,λH D D' h k=>⟨k a h.1,h.2⟩⟩
abbrev tu (t:Addr)(xs:List V):aB:=⟨λH _=>H t=some (.tup xs),λH H' D h _ k=>k.tup h,λH D D' h _=>h⟩
abbrev pu (φ:Prop):aB:=⟨λ_ _=>φ,λ_ _ _ h _ _=>h,λ_ _ _ h _=>h⟩
variable {α:Type}
abbrev ex (f:α->aB):aB:=⟨λH D=>∃ x,(f x).p H D,λH H' D ⟨x,h⟩ k t=>⟨x,(f x).st H H' D h k t⟩,λH D D' ⟨x,h⟩ k=>⟨x,(f x).up H D D' h k⟩⟩
abbrev kK (A B:aB):aB:=⟨λH D=>∃ D1 D2:Addr->Prop,(∀ a,D1 a->D a)/\(∀ a,D2 a->D a)/\(∀ a,D1 a->D2 a->False)/\A.p H D1/\B.p H D2,
 λH H' D ⟨D1,D2,s1,s2,dj,h1,h2⟩ k t=>⟨D1,D2,s1,s2,dj,A.st H H' D1 h1 (λa z=>k a (s1 a z)) t,B.st H H' D2 h2 (λa z=>k a (s2 a z)) t⟩,
 λH D D' ⟨D1,D2,s1,s2,dj,h1,h2⟩ k=>⟨D1,D2,λa z=>k a (s1 a z),λa z=>k a (s2 a z),dj,h1,h2⟩⟩
abbrev aY:List aB->Hp->(Addr->Prop)->Prop
 | [],_,_=>True
 |A::O,H,D=>∃ D1 D2:Addr->Prop,(∀ a,D1 a->D a)/\(∀ a,D2 a->D a)/\(∀ a,D1 a->D2 a->False)/\A.p H D1/\aY O H D2
abbrev Sep (O:List aB)(H:Hp):Prop:=∃ D:Addr->Prop,(∀ a,D a->H a≠none)/\aY O H D
inductive aD (A:aB):List aB->List aB->Prop where
 |e {O:List aB}:aD A (A::O) O
 |t {B:aB}{O Γ':List aB}(h:aD A O Γ'):aD A (B::O) (B::Γ')
variable {g:List aB}
section
variable {A B:aB}{O Γ':List aB}{H H':Hp}{a b p t:Addr}{o o':HO}{xs:List V}{φ:Prop}
def aY.st:∀ {O:List aB}{H H':Hp}{D:Addr->Prop},aY O H D->(∀ a,D a->H' a=H a)->gO H H'->aY O H' D
 | [],_,_,_,_,_,_=>True.intro
 |A::O,H,H',D,⟨D1,D2,s1,s2,dj,h1,h2⟩,k,t=>⟨D1,D2,s1,s2,dj,A.st H H' D1 h1 (λa z=>k a (s1 a z)) t,aY.st h2 (λa z=>k a (s2 a z)) t⟩
def aY.up:∀ {O:List aB}{H:Hp}{D D':Addr->Prop},aY O H D->(∀ a,D a->D' a)->aY O H D'
 | [],_,_,_,_,_=>True.intro
 |A::O,H,D,D',⟨D1,D2,s1,s2,dj,h1,h2⟩,k=>⟨D1,D2,λa z=>k a (s1 a z),λa z=>k a (s2 a z),dj,h1,h2⟩
def Sep.nil:Sep [] H:=⟨λ_=>False,λ_ z=>z.elim,True.intro⟩
def aY.pull:∀ {O Γ':List aB}{D:Addr->Prop},aD A O Γ'->aY O H D->aY (A::Γ') H D:=by
 intro O Γ' D h
 induction h generalizing D with
 |e=>exact λz=>z
 |t h ih=>
  rintro⟨D1,D2,s1,s2,dj,h1,h2⟩;obtain⟨E1,E2,t1,t2,ej,k1,k2⟩:=ih h2;refine⟨E1,λa=>D1 a\/E2 a,λa z=>s2 a (t1 a z),λa z=>z.elim (s1 a) λz=>s2 a (t2 a z),λa z1 z2=>?_,k1,D1,E2,λa z=>.inl z,λa z=>.inr z,λa z1 z2=>dj a z1 (t2 a z2),h1,k2⟩;rcases z2 with z2|z2
  .exact dj a z2 (t1 a z1)
  .exact ej a z1 z2
def Sep.pull (h:aD A O Γ')(s:Sep O H):Sep (A::Γ') H:=let⟨D,k,z⟩:=s;⟨D,k,aY.pull h z⟩
def aY.push:∀ {O Γ':List aB}{D:Addr->Prop},aD A O Γ'->aY (A::Γ') H D->aY O H D:=by
 intro O Γ' D h
 induction h generalizing D with
 |e=>exact λz=>z
 |t h ih=>
  rintro⟨D1,D2,s1,s2,dj,h1,E1,E2,t1,t2,ej,k1,k2⟩;refine⟨E1,λa=>D1 a\/E2 a,λa z=>s2 a (t1 a z),λa z=>z.elim (s1 a) λz=>s2 a (t2 a z),λa z1 z2=>?_,k1,ih ⟨D1,E2,λa z=>.inl z,λa z=>.inr z,λa z1 z2=>dj a z1 (t2 a z2),h1,k2⟩⟩;rcases z2 with z2|z2
  .exact dj a z2 (t1 a z1)
  .exact ej a z1 z2
def Sep.push (h:aD A O Γ')(s:Sep (A::Γ') H):Sep O H:=let⟨D,k,z⟩:=s;⟨D,k,aY.push h z⟩
def Sep.drop (s:Sep (A::O) H):Sep O H:=let⟨D,k,D1,D2,s1,s2,dj,h1,h2⟩:=s;⟨D2,λa z=>k a (s2 a z),h2⟩
def Sep.at (s:Sep (pt a o::O) H):H a=some o:=let⟨D,k,D1,D2,s1,s2,dj,h1,h2⟩:=s;h1.2
def Sep.atT (s:Sep (tu t xs::O) H):H t=some (.tup xs):=let⟨D,k,D1,D2,s1,s2,dj,h1,h2⟩:=s;h1
def Sep.pure (s:Sep (pu φ::O) H):φ:=let⟨D,k,D1,D2,s1,s2,dj,h1,h2⟩:=s;h1
def Sep.Br (h:φ)(s:Sep O H):Sep (pu φ::O) H:=let⟨D,k,h2⟩:=s;⟨D,k,λ_=>False,D,λ_ z=>z.elim,λ_ z=>z,λ_ z _=>z,h,h2⟩
def Sep.B7 (h:H t=some (.tup xs))(s:Sep O H):Sep (tu t xs::O) H:=let⟨D,k,h2⟩:=s;⟨D,k,λ_=>False,D,λ_ z=>z.elim,λ_ z=>z,λ_ z _=>z,h,h2⟩
def Sep.ne (s:Sep (pt a o::pt b o'::O) H):a≠b:=by
 obtain⟨D,k,D1,D2,s1,s2,dj,h1,E1,E2,t1,t2,ej,k1,k2⟩:=s;rintro rfl;exact dj a h1.1 (t1 a k1.1)
def Sep.set (s:Sep (pt a o::O) H)(n:jt o'=jt o):Sep (pt a o'::O) (upd H a o'):=by
 obtain⟨D,k,D1,D2,s1,s2,dj,h1,h2⟩:=s;refine⟨D,λb z=>?_,D1,D2,s1,s2,dj,⟨h1.1,ah⟩,aY.st h2 (λb z=>ae λe=>dj a h1.1 (e▸z)) (gO.upd h1.2 n)⟩
 by_cases e:b=a
 .rw[e,ah];exact λz=>by cases z
 .rw[ae e];exact k b z
def Sep.new (s:Sep O H)(h:H p=none):Sep (pt p o::O) (upd H p o):=by
 obtain⟨D,k,z⟩:=s;have ne:∀ b,D b->b≠p:=λb hb e=>k b hb (e▸h)
 refine⟨λb=>b=p\/D b,λb hb=>?_,λb=>b=p,D,λb e=>.inl e,λb e=>.inr e,λb e z=>ne b z e,⟨rfl,ah⟩,aY.st z (λb hb=>ae (ne b hb)) (gO.new h)⟩;rcases hb with rfl|hb
 .rw[ah];exact λz=>by cases z
 .rw[ae (ne b hb)];exact k b hb
def Sep.lB (s:Sep O H)(h:H p=none):Sep (tu p xs::O) (upd H p (.tup xs)):=Sep.B7 ah (Sep.drop (s.new (o:=.tup xs) h))
def Sep.toT (s:Sep (pt t (.tup xs)::O) H):Sep (tu t xs::O) H:=Sep.B7 s.at s.drop
def Sep.star:Sep (kK A B::O) H ↔ Sep (A::B::O) H:=by
 constructor
 .rintro⟨D,k,D1,D2,s1,s2,dj,⟨E1,E2,t1,t2,ej,k1,k2⟩,h2⟩;refine⟨D,k,E1,λa=>E2 a\/D2 a,λa z=>s1 a (t1 a z),λa z=>z.elim (λz=>s1 a (t2 a z)) (s2 a),λa z1 z2=>?_,k1,E2,D2,λa z=>.inl z,λa z=>.inr z,λa z1 z2=>dj a (t2 a z1) z2,k2,h2⟩;rcases z2 with z2|z2
  .exact ej a z1 z2
  .exact dj a (t1 a z1) z2
 .rintro⟨D,k,D1,D2,s1,s2,dj,h1,E1,E2,t1,t2,ej,k1,k2⟩;refine⟨D,k,λa=>D1 a\/E1 a,E2,λa z=>z.elim (s1 a) λz=>s2 a (t1 a z),λa z=>s2 a (t2 a z),λa z1 z2=>?_,⟨D1,E1,λa z=>.inl z,λa z=>.inr z,λa z1 z2=>dj a z1 (t1 a z2),h1,k1⟩,k2⟩;rcases z1 with z1|z1
  .exact dj a z1 (t2 a z2)
  .exact ej a z1 z2
def Sep.AN {f:α->aB}:Sep (ex f::O) H ↔ ∃ x,Sep (f x::O) H:=by
 constructor
 .rintro⟨D,k,D1,D2,s1,s2,dj,⟨x,h1⟩,h2⟩;exact⟨x,D,k,D1,D2,s1,s2,dj,h1,h2⟩
 .rintro⟨x,D,k,D1,D2,s1,s2,dj,h1,h2⟩;exact⟨D,k,D1,D2,s1,s2,dj,⟨x,h1⟩,h2⟩
def Sep.get (s:Sep O H)(h:aD (pt a o) O Γ'):H a=some o:=(s.pull h).at
def Sep.fw (s:Sep O H)(h:aD (tu t xs) O Γ'):H t=some (.tup xs):=(s.pull h).atT
inductive cA (A B:aB):List aB->List aB->Prop where
 |e {O:List aB}:cA A B (A::O) (B::O)
 |t {C:aB}{O Γ':List aB}(h:cA A B O Γ'):cA A B (C::O) (C::Γ')
def aD.k1 {b:aB}:aD A (b::A::g) (b::g):=.t .e
def aD.k2 {b c:aB}:aD A (b::c::A::g) (b::c::g):=.t .k1
def aD.k3 {b c d:aB}:aD A (b::c::d::A::g) (b::c::d::g):=.t .k2
def cA.k1 {b:aB}:cA A B (b::A::g) (b::B::g):=.t .e
def cA.k2 {b c:aB}:cA A B (b::c::A::g) (b::c::B::g):=.t .k1
def cA.j6 (h:cA A B O Γ'):∃ Δ,aD A O Δ/\aD B Γ' Δ:=by
 induction h with
 |e=>exact⟨_,.e,.e⟩
 |t h ih=>
  obtain⟨Δ,h1,h2⟩:=ih;exact⟨_,.t h1,.t h2⟩
def Sep.put (s:Sep O H)(h:cA (pt a o) (pt a o') O Γ')(n:jt o'=jt o):Sep Γ' (upd H a o'):=by
 obtain⟨Δ,h1,h2⟩:=h.j6;exact((s.pull h1).set n).push h2
inductive Sub:List aB->List aB->Prop where
 |refl {O:List aB}:Sub O O
 |nil {O:List aB}:Sub [] O
 |cons {A:aB}{O Γ' Δ:List aB}(h:aD A O Δ) (r:Sub Γ' Δ):Sub (A::Γ') O
 |drop {A:aB}{O Γ':List aB}(r:Sub Γ' O):Sub Γ' (A::O)
def aY.sub:∀ {O Γ':List aB}{D:Addr->Prop},Sub Γ' O->aY O H D->aY Γ' H D:=by
 intro O Γ' D h
 induction h generalizing D with
 |refl=>exact λz=>z
 |nil=>exact λ_=>True.intro
 |cons h r ih=>
  intro z;obtain⟨D1,D2,s1,s2,dj,h1,h2⟩:=aY.pull h z;exact⟨D1,D2,s1,s2,dj,h1,ih h2⟩
 |drop r ih=>
  rintro⟨D1,D2,s1,s2,dj,h1,h2⟩;exact(ih h2).up s2
def Sep.sub (h:Sub Γ' O)(s:Sep O H):Sep Γ' H:=let⟨D,k,z⟩:=s;⟨D,k,aY.sub h z⟩
end
@[irreducible] noncomputable def ab (T:Tab) (R:Rt) (k f:Nat):Sp:=bx T R k f
def j3:ab=bx:=by
 funext T R k f
 unfold ab
 rfl
variable {Q:VK}
def wc {T:Tab}{R:Rt}{k f:Nat}{d:aN}{vs:List V}{E:XK}(hk:0<k)(hd:T.fns[f]? =some d)(hl:vs.length=d.ps.length)
  (h:wB d.body ⟨T,R,ab T R (k-1),true⟩ { nx:=λ_ H'=>Q .non H',rt:=Q } (λ_=>E) (start d.N vs) H):ab T R k f vs H Q E:=by
 rw[j3]at h⊢;cases k with
 |zero=>exact absurd hk (by decide)
 |succ k=>
  show(match T.fns[f]? with|some d=>_|none=>False);rw[hd];exact⟨hl,h⟩
variable {c:Bool}
def rO {A B:Prop}(h1:c=true->A)(h2:c=false->B):fm c A B:=by
 unfold fm;cases c
 .exact h2 rfl
 .exact h1 rfl
def cP {A B:Prop}(h:c=true)(h1:A):fm c A B:=by subst h;unfold fm;exact h1
def a7 {A B:Prop}(h:c=false)(h1:B):fm c A B:=by subst h;unfold fm;exact h1
def v8 {A B:Prop}(h:fm c B A):fm (!c) A B:=by
 unfold fm at h⊢;cases c
 .exact h
 .exact h
def ay {p:Prop} [Decidable p] {A B:Prop}(h1:p->A)(h2:¬ p->B):fm (decide p) A B:=rO (λh=>h1 (of_decide_eq_true h)) λh=>h2 (of_decide_eq_false h)
def a6 {i j:Int}{A B:Prop}(h1:i=j->A)(h2:i≠j->B):fm (gR (.int i) (.int j)) A B:=by
 show fm (i ==j) A B;exact rO (λh=>h1 (by simpa using h)) λh=>h2 (by simpa using h)
variable {dx:Option Addr}{n j:Nat}{fs:List (Str×V)}{es:List V}{R:Hp->Prop}{fr:Bool}
section
variable {K:W.Frag}{G:Gx}{O Γ':List aB}{H:Hp}{Q:VK}{a p:Addr}{o:HO}{xs ys:List V}{v w:V}{i:Int}{f:Str}
def al (s:Sep O H)(h:∀ p H',Sep (pt p o::O) H'->Q (.ref p) H'):∀ p,H p=none->Q (.ref p) (upd H p o):=λp hp=>h p _ (s.new hp)
def zv {C x dx:Addr}(s:Sep O H)(h1:H x=none)(h2:H dx=none)(h3:dx≠x):Sep (pt x (.ins C dx [])::pt dx (.own x)::O) (upd (upd H dx (.own x)) x (.ins C dx [])):=(s.new h2).new (by rw[ae h3.symm];exact h1)
def kL {E:XK}(s:Sep O H)(r:cA (pt a (.exc (G.R.cad n) dx fs true)) (pt a (.exc (G.R.cad n) dx fs false)) O Γ')(ho:G.T.xc.contains n=true)(h:∀ H',Sep Γ' H'->E a H'):
  ∃ b i dx fs,V.ref a=.ref b/\H b=some (.exc (G.R.cad i) dx fs true)/\G.T.xc.contains i=true/\E b (upd H b (.exc (G.R.cad i) dx fs false)):=by
 obtain⟨Δ,h1,h2⟩:=r.j6;exact⟨a,n,dx,fs,rfl,s.get h1,ho,h _ (s.put r rfl)⟩
def CL (s:Sep O H)(h:∀ p H',Sep (tu p xs::O) H'->Q (.ref p) H'):∀ p,H p=none->Q (.ref p) (upd H p (.tup xs)):=λp hp=>h p _ (s.lB hp)
def jn (s:Sep O H)(hl:es.length<=10000)(h:∀ p H',Sep (pt p (.lst es)::O) H'->Q (.ref p) H'):uB es H Q:=by unfold uB;exact⟨hl,al s h⟩
def vZ (s:Sep O H)(hl:es.length<=10000)(h:∀ p H',Sep (pt p (.tup es)::O) H'->Q (.ref p) H'):lB es H Q:=by unfold lB;exact⟨hl,al s h⟩
def wJ (s:Sep O H)(h:∀ p H',Sep (pt p (.dK [])::O) H'->Q (.ref p) H'):newD H Q:=by unfold newD;exact al s h
def pP {xs:List α}{x:α}(h:xs[j]? =some x):fg xs (0+(j:Int))=some x:=by rw[Int.zero_add];exact L2.bb h
def ba (e:H a=some (.lst xs))(hv:fg xs i=some v)(q:Q v H):j0 K (.ref a) (.int i) H Q:=by unfold j0;exact .inl ⟨xs,i,v,rfl,.inl (aA.of e),hv,q⟩
def xj (e:H a=some (.tup xs))(hv:fg xs i=some v)(q:Q v H):j0 K (.ref a) (.int i) H Q:=by unfold j0;exact .inl ⟨xs,i,v,rfl,.inr (bY.of e),hv,q⟩
def kC (s:Sep O H)(r:cA (pt a (.lst xs)) (pt a (.lst ys)) O Γ')(hj:nj xs.length i=some j)(hx:xs.set j v=ys)(h:∀ H',Sep Γ' H'->R H'):nP (.ref a) (.int i) v H R:=by
 obtain⟨Δ,h1,h2⟩:=r.j6;subst hx;unfold nP;exact .inl ⟨xs,i,j,rfl,s.get h1,hj,h _ (s.put r rfl)⟩
def zq (e:H a=some (.lst xs))(h0:0<=i)(hv:xs[i.toNat]? =some v)(q:Q v H):pA K (.ref a) (.int i) H Q:=by unfold pA;exact⟨xs,v,aA.of e,h0,hv,q⟩
def b6 {dx:Addr}(e:H a=some (.ins (G.R.cad n) dx fs))(ho:G.T.oc.contains n=true)(hn:G.T.na.contains (n,f)=true)(hl:fs.lookup f=some v)(q:Q v H):gU G f (.ref a) H Q:=by unfold gU;exact⟨a,n,fs,v,rfl,.inl ⟨ho,dx,e⟩,hn,hl,q⟩
def zT {dx:Addr}(e:H a=some (.exc (G.R.cad n) (some dx) fs fr))(ho:G.T.xc.contains n=true)(hn:G.T.na.contains (n,f)=true)(hl:fs.lookup f=some v)(q:Q v H):gU G f (.ref a) H Q:=by unfold gU;exact⟨a,n,fs,v,rfl,.inr ⟨ho,dx,fr,e⟩,hn,hl,q⟩
def yZ {dx:Addr}{fs':List (Str×V)}(s:Sep O H)(r:cA (pt a (.ins (G.R.cad n) dx fs)) (pt a (.ins (G.R.cad n) dx fs')) O Γ')(ho:G.T.oc.contains n=true)(hn:G.T.na.contains (n,f)=true)(hl:fs.length<1000)(hf:bt f v fs=fs')(h:∀ H',Sep Γ' H'->R H'):r6 G f (.ref a) v H R:=by
 obtain⟨Δ,h1,h2⟩:=r.j6;subst hf;unfold r6;exact⟨a,n,rfl,hn,.inl ⟨dx,fs,ho,s.get h1,hl,h _ (s.put r rfl)⟩⟩
def zu (s:Sep (pt a (.exc (G.R.cad n) none [] fr)::O) H)(ho:G.T.xc.contains n=true)(hn:G.T.na.contains (n,f)=true)(h:∀ d H',Sep (pt a (.exc (G.R.cad n) (some d) [(f,v)] fr)::pt d (.own a)::O) H'->R H'):r6 G f (.ref a) v H R:=by
 unfold r6;refine⟨a,n,rfl,hn,.inr (.inr ⟨fr,ho,s.at,λd hd=>h d _ ?_⟩)⟩;exact((s.new (o:=.own a) hd).pull (.t .e)).set rfl
def mh {n t:String}{b:Bool}(ht:tyName v H=some t)(hb:G.T.subB.lookup (t,n)=some b)(q:Q (.bl b) H):ft G (.ty n) v H Q:=by unfold ft;exact .inl ⟨t,b,ht,hb,q⟩
def yV {b:Bool}(e:H a=some (.exc (G.R.cad j) dx fs fr))(ho:G.T.xc.contains j=true)(hb:G.T.sub.lookup (j,n)=some b)(q:Q (.bl b) H):ft G (.own n) (.ref a) H Q:=by unfold ft;exact .inr ⟨a,j,b,rfl,.inr ⟨ho,dx,fs,fr,e⟩,hb,q⟩
def xD {n:String}{b:Bool}(e:H a=some (.exc (G.R.cad j) dx fs fr))(ho:G.T.xc.contains j=true)(hb:G.T.subT.lookup (j,n)=some b)(q:Q (.bl b) H):ft G (.ty n) (.ref a) H Q:=by unfold ft;exact .inr ⟨a,j,b,rfl,.inr ⟨ho,dx,fs,fr,e⟩,hb,q⟩
def aw (e:H a=some (.lst xs))(q:Q (.int xs.length) H):gN G .len [.ref a] H Q:=by unfold gN;exact⟨_,xs.length,rfl,.inl ⟨xs,aA.of e,rfl⟩,q⟩
def xJ {j:Int}(hc:G.cm=true)(q:Q (.int (min i j)) H):gN G .min [.int i,.int j] H Q:=by
 unfold gN;refine⟨hc,.inl ⟨i,j,rfl,?_⟩⟩;have e:(if j<i then j else i)=min i j:=by split<;>omega
 rw[e];exact q
def rj {cs:List Nat}{b:Bool}(s:Sep O H)(ho:G.T.xc.contains j=true)(e:H a=some (.exc (G.R.cad j) dx fs fr))(hb:anyS G j cs=some b)(q:∀ p H',Sep (tu p (cs.map λc=>.ref (G.R.cad c))::O) H'->Q (.bl b) H'):∀ p,H p=none->jV G cs (.ref a) (upd H p (.tup (cs.map λc=>.ref (G.R.cad c)))) Q:=λp hp=>by
 unfold jV;refine .inr ⟨a,j,b,rfl,.inr ⟨ho,dx,fs,fr,?_⟩,hb,q p _ (s.lB hp)⟩;rw[ae]
 .exact e
 .intro z;rw[z,hp]at e;cases e
def lb (h0:0<=i)(h1:i<n):nj n i=some i.toNat:=by
 unfold nj;rw[if_pos h0,if_pos h1]
def tj (s:Sep O H)(e:H a=some (.lst xs))(h:∀ p H',Sep (pt p (.lst xs)::O) H'->Q (.ref p) H'):gN G .list [.ref a] H Q:=by unfold gN;exact .inl ⟨_,xs,rfl,.inl (aA.of e),al s h⟩
def qe (s:Sep O H)(e:H a=some (.lst xs))(h:∀ p H',Sep (tu p xs::O) H'->Q (.ref p) H'):gN G .tuple [.ref a] H Q:=by unfold gN;exact⟨_,xs,rfl,.inl ⟨aA.of e,CL s h⟩⟩
def dD (s:Sep O H){b:Addr}(e1:H a=some (.lst xs))(e2:H b=some (.lst ys))(hl:xs.length+ys.length<=100000)(h:∀ p H',Sep (pt p (.lst (xs++ys))::O) H'->Q (.ref p) H'):se K a b H Q:=by unfold se;exact .inl ⟨xs,ys,e1,e2,hl,al s h⟩
def zx (s:Sep O H)(e:H a=some (.lst xs))(h1: -1000<=i)(h2:i<=1000)(h3:xs.length<=1000)(h:∀ p H',Sep (pt p (.lst (s0 i.toNat xs).flatten)::O) H'->Q (.ref p) H'):uU K a i H Q:=by unfold uU;exact .inl ⟨xs,e,h1,h2,h3,al s h⟩
def lU {y:V}(s:Sep O H)(r:cA (pt a (.lst xs)) (pt a (.lst (xs++[y]))) O Γ')(hl:xs.length<=10000)(h:∀ H',Sep Γ' H'->Q .non H'):y9 .append a xs [y] H Q:=by unfold y9;exact⟨_,rfl,hl,h _ (s.put r rfl)⟩
def BK {lo hi:Option Int}(s:Sep O H)(e:aA K H a xs)(h:∀ p H',Sep (pt p (.lst (cX xs lo hi))::O) H'->Q (.ref p) H'):o5 K (.ref a) lo hi H Q:=by unfold o5;exact .inl ⟨xs,e,al s h⟩
def tZ {R:It->Hp->Prop}(e:H a=some (.lst xs))(h:R (yH K a) H):kY K a H R:=by unfold kY;exact .inl ⟨⟨xs,aA.of e⟩,h⟩
def gS {lo hi:Option Int}(s:Sep O H)(e:H a=some (.lst xs))(h:∀ p H',Sep (pt p (.lst (cX xs lo hi))::O) H'->Q (.ref p) H'):o5 K (.ref a) lo hi H Q:=by unfold o5;exact .inl ⟨xs,aA.of e,al s h⟩
end
variable {x:V}
section
variable {K:W.Frag}{H:Hp}{Q:VK}
def rf (f:av x=true):gR x x=true:=by
 cases x<;>simp[av]at f<;>simp[gR]
def a3 {y:V}(fx:av x=true)(fy:av y=true)(q:Q (.bl (gR x y)) H):dE K false x y H Q:=by unfold dE;exact .inr ⟨0,_,.flat fx fy,by decide,.inl fx,q⟩
def sZ {y:V}(fx:av x=true)(fy:av y=true)(q:Q (.bl (!gR x y)) H):dE K true x y H Q:=by unfold dE;exact .inr ⟨0,_,.flat fx fy,by decide,.inl fx,q⟩
def yk {b:Addr}(h:dU K H n (.ref a) (.ref b) c)(hn:n<=100)(ne:a≠b)(q:Q (.bl c) H):dE K false (.ref a) (.ref b) H Q:=by unfold dE;exact .inr ⟨n,c,h,hn,.inr (.inl λz=>ne (V.ref.inj z)),q⟩
def fU {b:Addr}(h:dU K H n (.ref a) (.ref b) c)(hn:n<=100)(ne:a≠b)(q:Q (.bl (!c)) H):dE K true (.ref a) (.ref b) H Q:=by unfold dE;exact .inr ⟨n,c,h,hn,.inr (.inl λz=>ne (V.ref.inj z)),q⟩
end
variable {K:W.Frag}{rest:St}{te:TE}
section
variable {D:Ends}{F:(St->Hp->Prop)->V->St->Hp->Prop}{U:St}{H:Hp}
def bK {lo:Int}(I:Nat->St->Hp->Prop)(h0:I 0 U H)(hs:∀ j U H,j<n->I j U H->F (I (j+1)) (.int (lo+j)) U H) (hd:∀ U H,I n U H->D.nx U H):og (vF lo n) D F U H:=by
 unfold og;refine⟨λi m U H=>m=n-i/\i<=n/\I i U H,⟨n,by simp,Nat.zero_le _,h0⟩,λi m U H ⟨e,hi,h⟩=>?_⟩
 by_cases hlt:i<n
 .refine .inr ⟨hlt,I (i+1),λσ' H' h'=>⟨n-(i+1),by omega,rfl,hlt,h'⟩,λx H' y=>?_⟩;obtain⟨rfl,rfl⟩:=y;exact hs i U H' hlt h
 .have:i=n:=by omega
  subst this;exact .inl ⟨pc _,hd U H h⟩
def mJ (I:Nat->St->Hp->Prop)(h0:I 0 U H)(hl:∀ j U H,I j U H->aA K H a xs)
  (hs:∀ j x U H,xs[j]? =some x->I j U H->F (I (j+1)) x U H) (hd:∀ U H,I xs.length U H->D.nx U H):og (yH K a) D F U H:=by
 unfold og;refine⟨λi m U H=>m=xs.length-i/\i<=xs.length/\I i U H,⟨xs.length,by simp,Nat.zero_le _,h0⟩,λi m U H ⟨e,hi',h⟩=>?_⟩
 by_cases hlt:i<xs.length
 .refine .inr ⟨⟨xs,xs[i],hl i U H h,jp hlt⟩,I (i+1),λσ' H' h'=>⟨xs.length-(i+1),by omega,rfl,hlt,h'⟩,λx H' y=>?_⟩;obtain⟨rfl,hy⟩:=y;exact hs i x U H' (hy xs (hl i U H' h)) h
 .have:i=xs.length:=by omega
  subst this;exact .inl ⟨⟨xs,hl _ U H h,pc _⟩,hd U H h⟩
@[irreducible] noncomputable def fX (I:Addr->List V->Hp->Prop) (D:Addr) (ys:List V) (rest:St) (x:Option V):VK:=λv H3=>∃ zs,H3 D=some (.lst zs)/\zs.length<bn/\∃ ys2 x2,x::rest=x2::rest/\ys2.length=ys.length+1/\I D ys2 (upd H3 D (.lst (zs++[v])))
def fX.mk {I:Addr->List V->Hp->Prop}{D:Addr}{ys:List V}{x:Option V}{v:V}{H3:Hp}(h1:H3 D=some (.lst ys))(hl:ys.length<=999)(h2:I D (ys++[v]) (upd H3 D (.lst (ys++[v])))):fX I D ys rest x v H3:=
 by unfold fX;exact⟨ys,h1,cL nofun,ys++[v],x,rfl,by simp,h2⟩
def lq (hn:n<=1000)(I:Addr->List V->Hp->Prop)(h0:∀ D,H D=none->I D [] (upd H D (.lst [])))
  (hs:∀ D ys H',ys.length<n->I D ys H'->te (some (.int (0+(ys.length:Nat)))::rest) H' (fX I D ys rest (some (.int (0+(ys.length:Nat))))))
  (hd:∀ D ys H',ys.length=n->I D ys H'->Q (.ref D) H'):nv te (vF 0 n) (none::rest) H Q:=by
 unfold nv;intro D hD;refine⟨λi m σ' H'=>m=n-i/\i<=n/\∃ ys x0,σ'=x0::rest/\ys.length=i/\I D ys H',⟨n,by simp,Nat.zero_le _,[],none,rfl,rfl,h0 D hD⟩,λi m σ' H' ⟨e,hi,ys,x0,e1,e2,h⟩=>?_⟩;subst e1 e2
 by_cases hlt:ys.length<n
 .refine .inr ⟨hlt,λσ2 H2=>∃ ys2 x2,σ2=x2::rest/\ys2.length=ys.length+1/\I D ys2 H2,λσ2 H2 ⟨ys2,x2,f1,f2,f3⟩=>⟨n-(ys.length+1),by omega,rfl,hlt,ys2,x2,f1,f2,f3⟩,λx H'' y=>?_⟩;obtain⟨e1,e2⟩:=y;subst e1 e2;have z:=hs D ys H'' hlt h;unfold fX at z;exact z
 .have:ys.length=n:=by omega
  exact .inl ⟨Nat.le_of_eq this.symm,hd D ys H' this h⟩
def kN (hn:xs.length<=1000)(I:Addr->List V->Hp->Prop)(hl:∀ D ys H,I D ys H->aA K H a xs) (h0:∀ D,H D=none->I D [] (upd H D (.lst [])))
  (hs:∀ D ys x H',xs[ys.length]? =some x->I D ys H'->te (some x::rest) H' (fX I D ys rest (some x)))
  (hd:∀ D ys H',ys.length=xs.length->I D ys H'->Q (.ref D) H'):nv te (yH K a) (none::rest) H Q:=by
 unfold nv;intro D hD;refine⟨λi m σ' H'=>m=xs.length-i/\i<=xs.length/\∃ ys x0,σ'=x0::rest/\ys.length=i/\I D ys H',⟨xs.length,by simp,Nat.zero_le _,[],none,rfl,rfl,h0 D hD⟩,λi m σ' H' ⟨e,hi,ys,x0,e1,e2,h⟩=>?_⟩;subst e1 e2
 by_cases hlt:ys.length<xs.length
 .refine .inr ⟨⟨xs,xs[ys.length],hl D ys H' h,jp hlt⟩,λσ2 H2=>∃ ys2 x2,σ2=x2::rest/\ys2.length=ys.length+1/\I D ys2 H2,λσ2 H2 ⟨ys2,x2,f1,f2,f3⟩=>⟨xs.length-(ys.length+1),by omega,rfl,hlt,ys2,x2,f1,f2,f3⟩,λx H'' y=>?_⟩;obtain⟨e1,hy⟩:=y;subst e1;have z:=hs D ys x H'' (hy xs (hl D ys H'' h)) h;unfold fX at z;exact z
 .have:ys.length=xs.length:=by omega
  exact .inl ⟨⟨xs,hl D ys H' h,Nat.le_of_eq this.symm⟩,hd D ys H' this h⟩
def qR {K:W.Frag}{G:Gx}{bs:List Bool}(hc:G.cm=true)(e:H a=some (.lst (bs.map V.bl)))(q:Q (.bl (bs.all id)) H):gN G .all [.ref a] H Q:=by unfold gN;exact⟨hc,_,bs,rfl,aA.of e,q⟩
def cZ (q:Q (.bl (decide (x=.non))) H):rX false x .non H Q:=by unfold rX;exact q
def fB (q:Q (.bl (!decide (x=.non))) H):rX true x .non H Q:=by unfold rX;exact q
def Ak (e:aA K H a xs)(fx:av x=true)(fs:xs.all av=true)(q:Q (.bl (yr x xs)) H):qr K false x (.ref a) H Q:=by unfold qr;exact .inl ⟨xs,.inl e,fx,fs,q⟩
end
variable {z:Str}
def ud {lo hi:Option Int}(hz:z.length<=100000)(q:∀ z':Str,z'.length<=z.length->Q (.str z') H):o5 K (.str z) lo hi H Q:=by unfold o5;exact⟨z,rfl,hz,q _ (dR z lo hi)⟩
def zR {i:Int}(hz:z.length<=100000)(h0:0<=i)(h1:i<z.length)(q:∀ z':Str,z'.length=1->Q (.str z') H):j0 K (.str z) (.int i) H Q:=by
 unfold j0;have hl:z.cps.toList.length=z.length:=by simp[Str.length]
 obtain⟨c,hc⟩:∃ c,fg z.cps.toList i=some c:=by
  obtain⟨c,hc⟩:∃ c,z.cps.toList[i.toNat]? =some c:=⟨_,jp nofun⟩;refine⟨c,?_⟩;have:=L2.bb hc
  rwa [Int.toNat_of_nonneg h0]at this
 exact⟨i,c,rfl,hz,hc,q _ rfl⟩
variable {D:List (Str×Str)}
section
variable {K:W.Frag}{G:Gx}{O Γ':List aB}{H:Hp}{Q:VK}{a b:Addr}{xs ys:List V}{v:V}
def BJ {k:Key}(e:H a=some (.dK kvs))(hv:fu kvs k=some v)(q:Q v H):j0 K (.ref a) (kV k) H Q:=by unfold j0;exact .inr (.inl ⟨v,.inl ⟨kvs,k,.inl e,rfl,hv.symm⟩,q⟩)
def w8 (hn:xs.length<=1000)(I:Addr->List V->Hp->Prop)(hl:∀ D ys H,I D ys H->bY K H a xs) (h0:∀ D,H D=none->I D [] (upd H D (.lst [])))
  (hs:∀ D ys x H',xs[ys.length]? =some x->I D ys H'->te (some x::rest) H' (fX I D ys rest (some x)))
  (hd:∀ D ys H',ys.length=xs.length->I D ys H'->Q (.ref D) H'):nv te (zX K a) (none::rest) H Q:=by
 unfold nv;intro D hD;refine⟨λi m σ' H'=>m=xs.length-i/\i<=xs.length/\∃ ys x0,σ'=x0::rest/\ys.length=i/\I D ys H',⟨xs.length,by simp,Nat.zero_le _,[],none,rfl,rfl,h0 D hD⟩,λi m σ' H' ⟨e,hi,ys,x0,e1,e2,h⟩=>?_⟩;subst e1 e2
 by_cases hlt:ys.length<xs.length
 .refine .inr ⟨⟨xs,xs[ys.length],hl D ys H' h,jp hlt⟩,λσ2 H2=>∃ ys2 x2,σ2=x2::rest/\ys2.length=ys.length+1/\I D ys2 H2,λσ2 H2 ⟨ys2,x2,f1,f2,f3⟩=>⟨xs.length-(ys.length+1),by omega,rfl,hlt,ys2,x2,f1,f2,f3⟩,λx H'' y=>?_⟩;obtain⟨e1,hy⟩:=y;subst e1;have z:=hs D ys x H'' (hy xs (hl D ys H'' h)) h;unfold fX at z;exact z
 .have:ys.length=xs.length:=by omega
  exact .inl ⟨⟨xs,hl D ys H' h,Nat.le_of_eq this.symm⟩,hd D ys H' this h⟩
def yW {R:It->Hp->Prop}(e:bY K H a xs)(h:R (zX K a) H):kY K a H R:=by unfold kY;exact .inr (.inl ⟨⟨xs,e⟩,h⟩)
def Bv {i:Str}(e:ug K a D)(q:Q (.bl (D.lookup i).isSome) H):qr K false (.str i) (.ref a) H Q:=by unfold qr;exact .inr (.inr (.inl ⟨rfl,D,i,e,rfl,q⟩))
def Bd {i w:Str}(e:ug K a D)(hw:D.lookup i=some w)(q:Q (.str w) H):j0 K (.ref a) (.str i) H Q:=by unfold j0;exact .inr (.inr ⟨D,i,w,e,rfl,hw,q⟩)
def v9 {lo hi:Option Int}(hz:z.length<=100000)(q:Q (.str (dk z lo hi)) H):o5 K (.str z) lo hi H Q:=by unfold o5;exact⟨z,rfl,hz,q⟩
def cF {n:Int}(hn:PySem.intText? z=some n)(hl:z.length<=640)(q:Q (.int n) H):gN G .int [.str z] H Q:=by unfold gN;exact .inr ⟨z,n,rfl,hn,hl,q⟩
def gp {y:Str}(s:Sep O H)(hy:(y.length ==0)=false)(hz:z.length<=100000)(q:∀ p H',Sep (pt p (.lst ((Txt.split z y).map V.str))::O) H'->Q (.ref p) H'):qv K .split z (.str y) H Q:=by unfold qv k6;exact⟨z,y,rfl,rfl,hy,hz,al s q⟩
def g6 {y:Str}(q:Q (.bl (Txt.startswith z y)) H):qv K .starts z (.str y) H Q:=by unfold qv i7;exact⟨z,y,rfl,rfl,q⟩
def md {G:Gx}{zs:List Str}(e:H a=some (.lst (zs.map V.str)))(hw:(zs.map (·.length)).sum+zs.length<=1000000)(hz:z.length<=16)(q:Q (.str (Txt.join z zs)) H):qv K .join z (.ref a) H Q:=by unfold qv rJoin;exact⟨z,a,zs,rfl,rfl,aA.of e,hw,hz,q⟩
def Bb {c:Nat}{i:Int}(hz:z.length<=100000)(hv:fg z.cps.toList i=some c)(q:Q (.str ⟨#[c]⟩) H):j0 K (.str z) (.int i) H Q:=by unfold j0;exact⟨i,c,rfl,hz,hv,q⟩
def eD (hn:z.cps.size<=1000)(I:Addr->List V->Hp->Prop)(h0:∀ D,H D=none->I D [] (upd H D (.lst [])))
  (hs:∀ D ys c H',z.cps[ys.length]? =some c->I D ys H'->te (some (.str ⟨#[c]⟩)::rest) H' (fX I D ys rest (some (.str ⟨#[c]⟩))))
  (hd:∀ D ys H',ys.length=z.cps.size->I D ys H'->Q (.ref D) H'):nv te (wM z) (none::rest) H Q:=by
 unfold nv;intro D hD;refine⟨λi m σ' H'=>m=z.cps.size-i/\i<=z.cps.size/\∃ ys x0,σ'=x0::rest/\ys.length=i/\I D ys H',⟨z.cps.size,by simp,Nat.zero_le _,[],none,rfl,rfl,h0 D hD⟩,λi m σ' H' ⟨e,hi,ys,x0,e1,e2,h⟩=>?_⟩;subst e1 e2
 by_cases hlt:ys.length<z.cps.size
 .refine .inr ⟨hlt,λσ2 H2=>∃ ys2 x2,σ2=x2::rest/\ys2.length=ys.length+1/\I D ys2 H2,λσ2 H2 ⟨ys2,x2,f1,f2,f3⟩=>⟨z.cps.size-(ys.length+1),by omega,rfl,hlt,ys2,x2,f1,f2,f3⟩,λx H'' y=>?_⟩;obtain⟨e1,c,hc,rfl⟩:=y;subst e1;have w:=hs D ys c H'' hc h;unfold fX at w;exact w
 .have:ys.length=z.cps.size:=by omega
  exact .inl ⟨Nat.le_of_eq this.symm,hd D ys H' this h⟩
end
end L3
namespace L3
open PySem PySem.Spec PySem.W L2
variable {ps:List Str}
def pH:∀ {us:List Value}{n:Str},us.length=ps.length->n ∈ ps->((ps.zip us).lookup n).isNone=false:=by
 induction ps with
 |nil=>intro us n _ h;cases h
 |cons p ps ih=>
  intro us n hl h;cases us with
  |nil=>cases hl
  |cons u us=>
   rw[zip_cons_cons,lookup_cons];cases e:n ==p with
   |true=>rfl
   |false=>
    rcases lf.mp h with rfl|h
    .rw[beq_self_eq_true]at e;cases e
    .exact ih (Nat.succ.inj hl) h
def lz:∀ {ps:List Str}{us:List Value},ps.Nodup->us.length=ps.length->∀ {L:List (Str×Value)},(∀ n ∈ ps,L.lookup n=(ps.zip us).lookup n)->ps.filterMap (λn=>(L.lookup n).map (n,·))=ps.zip us
 | [],us,_,_,L,_=>rfl
 |p::ps,[],_,hl,L,_=>by cases hl
 |p::ps,u::us,nd,hl,L,hL=>by
  have h0:L.lookup p=some u:=by rw[hL p le,zip_cons_cons,lookup_cons,beq_self_eq_true]
  rw[filterMap_cons,h0,zip_cons_cons];show(p,u)::_=_;rw[lz (nodup_cons.mp nd).2 (Nat.succ.inj hl) (L:=L)];intro n hn;rw[hL n (dl _ hn),zip_cons_cons,lookup_cons];have:(n ==p)=false:=by
   cases e:n ==p with
   |false=>rfl
   |true=>
    have:=beq_iff_eq.mp e;subst this;exact absurd hn (nodup_cons.mp nd).1
  rw[this]
variable {fd:FuncData}
def jO (nd:ps.Nodup)(h1:fd.params.posonlyargs=[])(h2:fd.params.args.map (·.arg)=ps)(h3:fd.params.kwonlyargs=[])(h4:fd.params.vararg=none)(h5:fd.params.kwarg=none)(h6:fd.defaults=.none)(us:List Value)(hl:us.length=ps.length):
  bindArgs fd ⟨us,[]⟩=pure (ps.zip us):=by
 obtain⟨name,qual,⟨po,as,va,ko,kd,ka,df⟩,body,scope,glo,bD,dV,kV,doc,pm,an,cdv,ct,bu⟩:=fd;dsimp only at h1 h2 h3 h4 h5 h6;subst h1 h2 h3 h4 h5 h6;generalize hps:as.map (·.arg)=ps at nd hl⊢;have e1:seqItems? (Value.none)=(pure none:Sem (Option (Array Value))):=rfl;have e2:∀ f:Str->Bool,(∀ n ∈ ps,f n=false)->ps.filter f=[]:=λf h=>List.filter_eq_nil_iff.mpr λa ha=>by rw[h a ha];decide
 have e3:¬ (us.length>ps.length):=by omega
 have e4:=e2 (λn=>((ps.zip us).lookup n).isNone) λn hn=>pH hl hn
 have e5:=lz nd hl (L:=ps.zip us) λ_ _=>rfl
 unfold bindArgs;dsimp only[List.map_nil,nil_append,append_nil];rw[hps];simp[e1,e3,e4,e5]
abbrev gD (S:List (Str×Value))(x:Str×Value):List (Str×Value):=if(S.lookup x.1).isNone=true then S++[x] else S
def vg:∀ {L:List (Str×Value)}{S:List (Str×Value)},(∀ x ∈ L,(S.lookup x.1).isNone=false)->L.foldl gD S=S
 | [],_,_=>rfl
 |x::L,S,h=>by
  have h0:gD S x=S:=by
   unfold gD;rw[if_neg (by rw[h x le];decide)]
  rw[foldl_cons,h0];exact vg λy hy=>h y (dl _ hy)
def vC:∀ {L:List (Str×Value)}{S:List (Str×Value)},(L.map (·.1)).Nodup->(∀ x ∈ L,S.lookup x.1=none)->L.foldl gD S=S++L
 | [],S,_,_=>by rw[append_nil];rfl
 |x::L,S,nd,h=>by
  have h0:gD S x=S++[x]:=by
   unfold gD;rw[if_pos (by rw[h x le];rfl)]
  rw[map_cons]at nd;rw[foldl_cons,h0,vC (nodup_cons.mp nd).2]
  .rw[io];rfl
  .intro y hy;have hne:(y.1 ==x.1)=false:=by
    cases e:y.1 ==x.1 with
    |false=>rfl
    |true=>
     have e:=beq_iff_eq.mp e;exact absurd (List.mem_map_of_mem (f:=(·.1)) hy) (e▸(nodup_cons.mp nd).1)
   obtain⟨a,b⟩:=x;rw[List.lookup_append,h y (dl _ hy),lookup_cons,hne]
   rfl
def vj {n:Str}:∀ {L:List (Str×Value)},(∀ x ∈ L,x.1≠n)->L.lookup n=none
 | [],_=>rfl
 |(a,b)::L,h=>by
  have:(n ==a)=false:=by
   cases e:n ==a with
   |false=>rfl
   |true=>exact absurd (beq_iff_eq.mp e).symm (h (a,b) le)
  rw[lookup_cons,this];exact vj λx hx=>h x (dl _ hx)
variable {A:List Str}{B:List Value}
def iU {x:Str×Value}(h:x ∈ A.zip B):x.1 ∈ A:=by
 obtain⟨a,b⟩:=x;exact(of_mem_zip h).1
def zip_map (h:A.length<=B.length):(A.zip B).map (·.1)=A:=List.map_fst_zip h
def jq {B:List Str}{us:List Value}(h:A.length=us.length):(A++B).zip us=A.zip us:=by
 have:=zip_append (l₁:=A) (l₂:=us) (r₁:=B) (r₂:=[]) h;rw[append_nil,List.zip_nil_right,append_nil]at this;exact this
def uK {B:List Str}{us D1 D2:List Value}(nd:(A++B).Nodup)(h1:A.length=us.length)(h2:B.length=D2.length)(h3:D1.length<=A.length):
  (((A++B).drop (A.length-D1.length)).zip (D1++D2)).foldl gD ((A++B).zip us)=(A++B).zip (us++D2):=by
 have a:=vg (L:=(A.drop (A.length-D1.length)).zip D1) (S:=(A++B).zip us) λx hx=>by
  rw[jq h1];exact pH h1.symm (List.mem_of_mem_drop (iU hx))
 have b:=vC (L:=B.zip D2) (S:=(A++B).zip us) (by rw[zip_map nofun];exact(List.nodup_append.mp nd).2.1) λx hx=>by
  refine vj λy hy e=>?_
  rw[jq h1]at hy;exact(List.nodup_append.mp nd).2.2 y.1 (iU hy) x.1 (iU hx) e
 rw[List.drop_append_of_le_length nofun,zip_append (by rw[im];omega),List.foldl_append,a,b,jq h1,zip_append h1]
def pS {us ds:List Value}(nd:ps.Nodup)(h1:us.length<=ps.length)(h2:ds.length<=ps.length)(h3:ps.length<=us.length+ds.length):
  ((ps.drop (ps.length-ds.length)).zip ds).foldl gD (ps.zip us)=ps.zip (us++ds.drop (us.length+ds.length-ps.length)):=by
 have nd2:(ps.take us.length++ps.drop us.length).Nodup:=by rw[take_append_drop];exact nd
 have:=uK (A:=ps.take us.length) (B:=ps.drop us.length) (us:=us) (D1:=ds.take (us.length+ds.length-ps.length)) (D2:=ds.drop (us.length+ds.length-ps.length)) nd2 (by rw[db];omega) (by rw[im,im];omega) (by rw[db,db];omega);rw[take_append_drop,take_append_drop,db,db]at this;rw[show min us.length ps.length-min (us.length+ds.length-ps.length) ds.length=ps.length-ds.length by omega]at this;exact this
def jY:∀ {L:List (Str×Value)}{S:List (Str×Value)},(forIn L S λx r=>(match x with|(name,d)=>if(r.lookup name).isNone=true then pure (ForInStep.yield (r++[(name,d)])) else pure (ForInStep.yield r):Sem (ForInStep (List (Str×Value)))))=pure (L.foldl gD S)
 | [],S=>by simp
 |(a,b)::L,S=>by
  rw[forIn_cons,foldl_cons,<-jY];unfold gD
  by_cases e:(S.lookup a).isNone=true
  .simp only[e,if_true,pure_bind]
  .simp only[e,if_false,pure_bind,Bool.false_eq_true]
def rH {T:Addr}{items:Array Value}(nd:ps.Nodup)(h1:fd.params.posonlyargs=[])(h2:fd.params.args.map (·.arg)=ps)(h3:fd.params.kwonlyargs=[])(h4:fd.params.vararg=none)(h5:fd.params.kwarg=none)(h6:fd.defaults=.ref T)(us:List Value)(l1:us.length<=ps.length)(l2:items.toList.length<=ps.length)(l3:ps.length<=us.length+items.toList.length):
  ∃ k:Option (Array Value)->Sem (List (Str×Value)),bindArgs fd ⟨us,[]⟩=seqItems? fd.defaults >>= k/\k (some items)=pure (ps.zip (us++items.toList.drop (us.length+items.toList.length-ps.length))):=by
 obtain⟨name,qual,⟨po,as,va,ko,kd,ka,df⟩,body,scope,glo,bD,dV,kV,doc,pm,an,cdv,ct,bu⟩:=fd;dsimp only at h1 h2 h3 h4 h5 h6;subst h1 h2 h3 h4 h5 h6;generalize hps:as.map (·.arg)=ps at nd l1 l2 l3⊢;have e2:∀ f:Str->Bool,(∀ n ∈ ps.take (ps.length-items.toList.length),f n=false)->(ps.take (ps.length-items.toList.length)).filter f=[]:=λf h=>List.filter_eq_nil_iff.mpr λa ha=>by rw[h a ha];decide
 have e3:¬ (us.length>ps.length):=by omega
 have ez:ps.zip us=(ps.take us.length).zip us:=by
  have:=jq (A:=ps.take us.length) (B:=ps.drop us.length) (us:=us) (by rw[db];omega);rw[take_append_drop]at this;exact this
 have e4:=e2 (λn=>((ps.zip us).lookup n).isNone) λn hn=>by
  rw[ez];refine pH (by rw[db];omega) ?_;have:ps.take (ps.length-items.toList.length)=(ps.take us.length).take (ps.length-items.toList.length):=by rw[List.take_take,Nat.min_eq_left nofun]
  rw[this]at hn;exact List.mem_of_mem_take hn
 have e6:=pS (us:=us) (ds:=items.toList) nd l1 l2 l3;have e5:=lz (us:=us++items.toList.drop (us.length+items.toList.length-ps.length)) nd (by rw[ci,im];omega) λ_ _=>rfl
 have e7:items.toList.length-ps.length=0:=by omega
 unfold bindArgs;dsimp only[List.map_nil,nil_append,append_nil];rw[hps];refine⟨_,rfl,?_⟩;simp only[Option.getD_some,List.map_nil,nil_append,e7,drop_zero,e4,e3,List.isEmpty_nil,Bool.not_true,decide_false,Bool.false_and,Bool.false_eq_true,if_false,forIn_nil,append_nil];rw[jY,e6,pure_bind,pure_bind];simp only[e5,List.isEmpty_nil,Bool.not_true,Bool.false_eq_true,if_false]
abbrev vH (x:Option (Option Value))(a:Addr):Bool:=match x with
 |some (some (.ref b))=>b ==a
 |_=>false
variable {x:Option (Option Value)}
def c8 {a:Addr}(h:vH x a=true):x=some (some (.ref a)):=by
 unfold vH at h
 split at h
 .rw[beq_iff_eq.mp h]
 .cases h
abbrev o6 (x:Option (Option Value))(a:String):Bool:=match x with
 |some (some (.builtin b))=>b ==a
 |_=>false
variable {a:String}
def a4 (h:o6 x a=true):x=some (some (.builtin a)):=by
 unfold o6 at h
 split at h
 .rw[beq_iff_eq.mp h]
 .cases h
abbrev A7 (x:Option Value)(a:String):Bool:=match x with
 |some (.type b)=>b ==a
 |_=>false
def vN {x:Option Value}(h:A7 x a=true):x=some (.type a):=by
 unfold A7 at h
 split at h
 .rw[beq_iff_eq.mp h]
 .cases h
abbrev p0 (x:Option (Option Value)):Bool:=match x with
 |some none=>true
 |_=>false
def ju (h:p0 x=true):x=some none:=by
 unfold p0 at h
 split at h
 .rfl
 .cases h
abbrev sF (x:Option Bool)(b:Bool):Bool:=match x with
 |some c=>c ==b
 |none=>false
def cy {x:Option Bool}{b:Bool}(h:sF x b=true):x=some b:=by
 unfold sF at h
 split at h
 .rw[beq_iff_eq.mp h]
 .cases h
abbrev Bz (v:V)(x:Option (Option Value)):Bool:=match v,x with
 | .int i,some (some (.int j _))=>i ==j
 | .str s,some (some (.str s' _))=>s ==s'
 | .ref a,y=>vH y a
 |_,_=>false
def xf {v:V}(h:Bz v x=true):∃ u,x=some (some u)/\RelV v u:=by
 unfold Bz at h
 split at h
 .rw[<-beq_iff_eq.mp h];exact⟨_,rfl,_,rfl⟩
 .rw[<-beq_iff_eq.mp h];exact⟨_,rfl,_,rfl⟩
 .rw[c8 h];exact⟨_,rfl,rfl⟩
 .cases h
section
variable (K:Frag) (C:Addr)
abbrev uR:Bool:=plainGet K C Str.empty&&(hasDictIn K C&&(plainOver K C&&o6 (findIn K (.ref C) "__setattr__") "object.__setattr__"))
def l6 {K:Frag}{C:Addr}(h:uR K C=true):tf K C:=by
 unfold uR at h;simp only[li]at h;exact⟨h.1,h.2.1,h.2.2.1,a4 h.2.2.2⟩
abbrev uD:Bool:=o6 (findIn K (.ref C) "__class__") "object.__class__"&&(o6 (specialIn K (.builtin "object.__class__") "__get__") "getset_descriptor.__get__"&&sF (takesIn K (.builtin "object.__class__")) true)
abbrev jy:Bool:=A7 (typeIn K (.ref C)) "type"&&((clsIn K C).any (λcd=>bM cd.mro)&&(hasDictIn K C&&(o6 (findIn K (.ref C) "__getattribute__") "BaseException.__getattribute__"&&(p0 (findIn K (.ref C) "__getattr__")&&o6 (findIn K (.ref C) "__setattr__") "object.__setattr__"))))
def gx {K:Frag}{C:Addr}(h:jy K C=true):a9 K C:=by
 unfold jy at h;simp only[li]at h;exact⟨vN h.1,h.2.1,h.2.2.1,a4 h.2.2.2.1,ju h.2.2.2.2.1,a4 h.2.2.2.2.2⟩
end
abbrev all2 {α:Type}(l:List α)(p:α->Bool):Bool:=match l with
 | []=>true
 |a::r=>p a&&all2 r p
def aj {α:Type}{p:α->Bool}:∀ {l:List α},all2 l p=true->∀ a ∈ l,p a=true
 | [],_,_,h=>by cases h
 |a::r,h,b,hb=>by
  unfold all2 at h;rw[li]at h;rcases lf.mp hb with rfl|hb
  .exact h.1
  .exact aj h.2 b hb
abbrev wF (K:Frag)(fs cs:List Addr)(gs:List (Str×V)):Rt:=⟨K,λi=>fs.getD i 0,λi=>cs.getD i 0,λx=>gs.lookup x⟩
section
variable (K:Frag) (T:Tab) (fs cs:List Addr) (gs:List (Str×V))
abbrev sr:Bool:=
 (all2 T.gfn (λp=>vH (nsIn K mainGlobals p.1) (fs.getD p.2 0)&&(keepIn K (.ref (fs.getD p.2 0))&&(T.fns[p.2]?).isSome))&&
 (all2 T.gcl (λp=>vH (nsIn K mainGlobals p.1) (cs.getD p.2 0))&&
 (all2 T.gbl (λx=>p0 (nsIn K mainGlobals x)&& !(x ==("__name__":Str)))&&
 (all2 T.gbi (λx=>match nsIn K mainGlobals x with
  |some (some (.ref B))=>o6 (specialIn K (.ref B) "__getattribute__") "type.__getattribute__"&&(readsIn K B (.type "type")&&(match findCls K (.ref B) (.type "type") "__init__" with|some (.val (.builtin n))=>n =="ValueError.__init__"|_=>false))
  |_=>false)&&
 (all2 gs (λp=>Bz p.2 (nsIn K mainGlobals p.1))&&
 (all2 T.na (λp=>p0 (findIn K (.ref (cs.getD p.1 0)) p.2))&&
 (all2 T.me (λp=>uR K (cs.getD p.1.1 0)&&(vH (findIn K (.ref (cs.getD p.1.1 0)) p.1.2) (fs.getD p.2 0)&&(isFn K (.ref (fs.getD p.2 0))&&(keepIn K (.ref (fs.getD p.2 0))&&(T.fns[p.2]?).isSome)))))))))))&&
 (all2 T.ini0 (λc=>aV K (cs.getD c 0)&&(o6 (findIn K (.ref (cs.getD c 0)) "__init__") "ValueError.__init__"&&(keepIn K (.ref (cs.getD c 0))&&jy K (cs.getD c 0))))&&
 (all2 T.inip (λc=>makesIn K (cs.getD c 0)&&(o6 (findIn K (.ref (cs.getD c 0)) "__init__") "object.__init__"&&keepIn K (.ref (cs.getD c 0))))&&
 (all2 T.ini (λp=>(T.fns[p.2]?).isSome&&((if T.xc.contains p.1=true then aV K (cs.getD p.1 0) else makesIn K (cs.getD p.1 0))&&(vH (findIn K (.ref (cs.getD p.1 0)) "__init__") (fs.getD p.2 0)&&(isFn K (.ref (fs.getD p.2 0))&&keepIn K (.ref (cs.getD p.1 0))))))&&
 (all2 T.oc (λc=>uR K (cs.getD c 0)&&(uD K (cs.getD c 0)&&sF (mroIn K (cs.getD c 0) (.type "object")) true))&&
 (all2 T.xc (λc=>jy K (cs.getD c 0)&&uD K (cs.getD c 0))&&
 (all2 T.sub (λp=>sF (kitOne K (.ref (cs.getD p.1.1 0)) (.ref (cs.getD p.1.2 0))) p.2&&(!T.xc.contains p.1.1||(sF (mroIn K (cs.getD p.1.1 0) (.ref (cs.getD p.1.2 0))) p.2&&jy K (cs.getD p.1.2 0))))&&
 (all2 T.subT (λp=>sF (kitOne K (.ref (cs.getD p.1.1 0)) (.type p.1.2)) p.2)&&
 (all2 T.subB (λp=>sF (kitOne K (.type p.1.1) (.type p.1.2)) p.2)&&
 (all2 T.subO (λp=>sF (kitOne K (.type p.1.1) (.ref (cs.getD p.1.2 0))) p.2)&&
  all2 T.cin (λp=>o6 (specialIn K (.ref (cs.getD p.1 0)) "__getattribute__") "type.__getattribute__"&&(readsIn K (cs.getD p.1 0) (.type "type")&&((match findCls K (.ref (cs.getD p.1 0)) (.type "type") "__init__" with|some (.val (.ref f))=>f ==fs.getD p.2 0|_=>false)&&(keepIn K (.ref (fs.getD p.2 0))&&(T.fns[p.2]?).isSome)))))))))))))
end
def fA {α:Type}{x:Option α}(h:x.isSome=true):∃ d,x=some d:=Option.isSome_iff_exists.mp h
variable {K:Frag}{T:Tab}{fs:List Addr}{gs:List (Str×V)}{mg:CQ}
def tJ {cs:List Addr}{h:Heap}(X:K.In h)(G:h.Ns mainGlobals mg)(z:sr K T fs cs gs=true):tw K mg T (wF K fs cs gs):=by
 unfold sr at z;simp only[li]at z;obtain⟨⟨z1,z2,z3,z4,z5,z6,z7⟩,z8,z9,z10,z11,z12,z13,z14,z15,z16,z17⟩:=z;exact {
  gfn:=gv λp hp=>by
   have:=aj z1 p hp;simp only[li]at this;exact⟨mg_of X G (c8 this.1),this.2.1,fA this.2.2⟩
  gcl:=gv λp hp=>mg_of X G (c8 (aj z2 p hp))
  gbl:=ei λx hx=>by
   have:=aj z3 x hx;simp only[li]at this;exact⟨mg_none_of X G (ju this.1),by simpa using this.2⟩
  gbi:=ei λx hx=>by
   have:=aj z4 x hx
   split at this
   .rename_i B e;simp only[li]at this;refine⟨B,mg_of X G e,a4 this.1,this.2.1,?_⟩;have t:=this.2.2
    split at t
    .rename_i n e2;rw[e2,beq_iff_eq.mp t]
    .cases t
   .cases this
  gl:=gv λp hp=>by
   obtain⟨u,e,r⟩:=xf (aj z5 p hp);exact⟨u,mg_of X G e,r⟩
  na:=uX λp hp=>ju (aj z6 p hp)
  me:=dJ λp hp=>by
   have:=aj z7 p hp;simp only[li]at this;exact⟨l6 this.1,⟨c8 this.2.1,this.2.2.1,this.2.2.2.1⟩,fA this.2.2.2.2⟩
  ini0:=ei λc hc=>by
   have:=aj z8 c hc;simp only[li]at this;exact⟨this.1,a4 this.2.1,this.2.2.1,gx this.2.2.2⟩
  inip:=ei λc hc=>by
   have:=aj z9 c hc;simp only[li]at this;exact⟨this.1,a4 this.2.1,this.2.2⟩
  ini:=gv λp hp=>by
   have:=aj z10 p hp;simp only[li]at this;refine⟨fA this.1,?_⟩;have t:=this.2
   by_cases e:T.xc.contains p.1=true
   .rw[if_pos e]at t⊢;exact⟨t.1,c8 t.2.1,t.2.2.1,t.2.2.2⟩
   .rw[if_neg e]at t⊢;exact⟨t.1,c8 t.2.1,t.2.2.1,t.2.2.2⟩
  oc:=ei λc hc=>by
   have:=aj z11 c hc;simp only[uD,li]at this;exact⟨l6 this.1,a4 this.2.1.1,a4 this.2.1.2.1,cy this.2.1.2.2,cy this.2.2⟩
  xc:=ei λc hc=>by
   have:=aj z12 c hc;simp only[uD,li]at this;exact⟨gx this.1,a4 this.2.1,a4 this.2.2.1,cy this.2.2.2⟩
  sub:=dJ λp hp=>by
   have:=aj z13 p hp;simp only[li]at this;refine⟨cy this.1,λe=>?_⟩;have t:=this.2;rw[e,Bool.not_true,Bool.false_or,li]at t;exact⟨cy t.1,gx t.2⟩
  subT:=dJ λp hp=>cy (aj z14 p hp)
  subB:=dJ λp hp=>cy (aj z15 p hp)
  subO:=dJ λp hp=>cy (aj z16 p hp)
  cin:=gv λp hp=>by
   have:=aj z17 p hp;simp only[li]at this;refine⟨⟨a4 this.1,this.2.1,?_,this.2.2.2.1⟩,fA this.2.2.2.2⟩;have t:=this.2.2.1
   split at t
   .rename_i f e2;rw[beq_iff_eq.mp t]at e2;exact e2
   .cases t }
abbrev AU:List Str->Bool
 | []=>true
 |a::r=>!r.contains a&&AU r
def qZ:∀ {l:List Str},AU l=true->l.Nodup
 | [],_=>List.nodup_nil
 |a::r,h=>by
  unfold AU at h;rw[li]at h;exact nodup_cons.mpr ⟨by simpa using h.1,qZ h.2⟩
abbrev BC (N P:List Str)(sc:Scope):Bool:=decide (sc.kind=.function)&&(!sc.isCoroutine&&(!sc.isGenerator&&(AU N&&(N.take P.length ==P&&(all2 P (λx=>match sc.names.lookup x with|some .local=>true|some .cell=>true|_=>false)&&all2 sc.names (λy=>match y.2 with| .free=>false|_=>true))))))
def lG {N P:List Str}{sc:Scope}(h:BC N P sc=true):fK N P sc:=by
 unfold BC at h;simp only[li,decide_eq_true_eq]at h;refine⟨h.1,by simpa using h.2.1,by simpa using h.2.2.1,qZ h.2.2.2.1,beq_iff_eq.mp h.2.2.2.2.1,λx hx=>?_,λy hy e=>?_⟩
 .have:=aj h.2.2.2.2.2.1 x hx
  split at this
  .rename_i e;exact .inl e
  .rename_i e;exact .inr e
  .cases this
 .have:=aj h.2.2.2.2.2.2 y hy;rw[e]at this;cases this
abbrev Bx:V->Value->Bool
 | .non,.none=>true
 | .bl b,.bool c=>b ==c
 | .int i,.int j _=>i ==j
 | .str s,.str s' _=>s ==s'
 |_,_=>false
def yu {v:V}{u:Value}(h:Bx v u=true):RelV v u:=by
 unfold Bx at h
 split at h
 .rfl
 .rw[beq_iff_eq.mp h];rfl
 .rw[beq_iff_eq.mp h];exact⟨_,rfl⟩
 .rw[beq_iff_eq.mp h];exact⟨_,rfl⟩
 .cases h
abbrev rR:List V->List Value->Bool
 | [],[]=>true
 |v::vs,u::us=>Bx v u&&rR vs us
 |_,_=>false
def iL:∀ {vs:List V}{us:List Value},rR vs us=true->Vals vs us
 | [],[],_=>.nil
 |v::vs,u::us,h=>by
  unfold rR at h;rw[li]at h;exact .cons (yu h.1) (iL h.2)
 | [],_::_,h=>by cases h
 |_::_,[],h=>by cases h
abbrev BF (K:Frag)(fd:FuncData)(d:aN):Bool:=match fd.defaults with
 | .none=>d.dfl.isEmpty
 | .ref T=>!d.dfl.isEmpty&&(match K.lookup T with
  |some o=>(match o.data with| .seq items _=>rR d.dfl items.toList&&decide (items.toList.length<=d.ps.length)|_=>false)
  |none=>false)
 |_=>false
abbrev vK (K:Frag)(T:Tab)(f:Addr)(d:aN):Bool:=match K.lookup f with
 |some ⟨_,_,.func fd,_⟩=>(match fd.body with
  | .stmts body=>decide (fd.globals=mainGlobals)&&(fd.closure.isEmpty&&(decide (fd.builtins=builtinsNs)&&(codeIn K fd.code fd.qualname&&(BC d.N d.ps fd.scope&&(mB ⟨T,fd.scope,d.N⟩ d.body body&&
   (fd.params.posonlyargs.isEmpty&&(fd.params.args.map (·.arg) ==d.ps&&(fd.params.kwonlyargs.isEmpty&&(fd.params.vararg.isNone&&(fd.params.kwarg.isNone&&BF K fd d))))))))))
  |_=>false)
 |_=>false
variable {d:aN}
def xX {f:Addr}(h:vK K T f d=true):oH K T f d:=by
 unfold vK at h
 split at h
 .rename_i oc od fd sl e;obtain⟨name,qual,params,body,scope,glo,bD,dV,kV,doc,pm,an,cdv,ct,bu⟩:=fd;dsimp only at h
  split at h
  .rename_i body;simp only[li,decide_eq_true_eq,isEmpty_iff,Option.isNone_iff_eq_none]at h;obtain⟨h1,h2,h3,h4,h5,h6,h7,h8,h9,h10,h11,h12⟩:=h;subst h1 h2 h3;have S:=lG h5;have nd:d.ps.Nodup:=by
    rw[<-S.pre];exact S.nd.sublist (take_sublist _ _)
   refine⟨⟨name,qual,params,body,scope,dV,kV,doc,pm,cdv,ct,oc,od,an,sl,e,h4,S,h6,?_⟩⟩;unfold BF at h12;dsimp only at h12
   split at h12
   .rw[isEmpty_iff.mp h12];exact xh (.all λus hl=>jO nd h7 (beq_iff_eq.mp h8) h9 h10 h11 rfl us hl)
   .rename_i T0;rw[li]at h12;have h12:=h12.2
    split at h12
    .rename_i o ho
     split at h12
     .rename_i items c hs;rw[li,decide_eq_true_eq]at h12;intro j;refine⟨items.toList.drop j,?_,hU j (iL h12.1)⟩;refine uO (n:=d.ps.length-(items.toList.drop j).length) rfl ho hs (by rw[im];omega) λus hl=>?_
      rw[im]at hl;obtain⟨k,k1,k2⟩:=rH (fd:=fnOf name qual params body scope (.ref T0) kV doc pm an cdv ct) (items:=items) nd h7 (beq_iff_eq.mp h8) h9 h10 h11 rfl us nofun h12.2 nofun;refine⟨k,k1,?_⟩;rw[k2]
      by_cases e:j<=items.toList.length
      .rw[show us.length+items.toList.length-d.ps.length=j by omega]
      .rw[show us.length+items.toList.length-d.ps.length=items.toList.length by omega,List.drop_length,List.drop_eq_nil_of_le (by omega:items.toList.length<=j)]
     .cases h12
    .cases h12
   .cases h12
  .cases h
 .cases h
abbrev gG (K:Frag)(T:Tab)(fs:List Addr):Nat->List aN->Bool
 |_,[]=>true
 |n,d::r=>vK K T (fs.getD n 0) d&&gG K T fs (n+1) r
def l8 {K:Frag}{T:Tab}{fs:List Addr}:∀ {l:List aN}{n:Nat},gG K T fs n l=true->mf (λf d=>oH K T (fs.getD f 0) d) n l
 | [],_,_=>True.intro
 |d::r,n,h=>by
  unfold gG at h;rw[li]at h;exact⟨xX h.1,l8 h.2⟩
def sQ (h:gG K T fs 0 T.fns=true):∀ f d,T.fns[f]? =some d->oH K T (fs.getD f 0) d:=lL (P:=λf d=>oH K T (fs.getD f 0) d) (l8 h)
def mU {K:Frag}{T:Tab}{fs:List Addr}:∀ {l:List aN}{n f:Nat}{d:aN},gG K T fs n l=true->l[f]? =some d->vK K T (fs.getD (n+f) 0) d=true
 | [],_,_,_,_,e=>by simp at e
 |a::r,n,0,d,h,e=>by
  unfold gG at h;rw[li]at h;have:a=d:=by simpa using e
  subst this;exact h.1
 |a::r,n,f+1,d,h,e=>by
  unfold gG at h;rw[li]at h;have:=mU h.2 (f:=f) (d:=d) (by simpa using e)
  rwa [Nat.add_assoc,Nat.add_comm 1 f]at this
def uT {fl:Nat}(z:gG K T fs 0 T.fns=true)(hd:T.fns[fl]? =some d)(hp:d.ps=[("_law_script":Str)]) (hf:d.dfl=[]):
  ∃ oc od fd sl,K.lookup (fs.getD fl 0)=some ⟨oc,od,.func fd,sl⟩/\∀ (s:Shared) (v:Value),BindsTo s fd ⟨[v],[]⟩ [("_law_script",v)]:=by
 have h:=mU z hd;rw[Nat.zero_add]at h;unfold vK at h
 split at h
 .rename_i oc od fd sl e;refine⟨oc,od,fd,sl,e,λs v=>?_⟩
  split at h
  .rename_i body hb;simp only[li,decide_eq_true_eq,isEmpty_iff,Option.isNone_iff_eq_none]at h;obtain⟨h1,h2,h3,h4,h5,h6,h7,h8,h9,h10,h11,h12⟩:=h;have nd:d.ps.Nodup:=by
    rw[<-(lG h5).pre];exact(lG h5).nd.sublist (take_sublist _ _)
   unfold BF at h12;rw[hf]at h12;have e6:fd.defaults=.none:=by
    split at h12
    .rename_i e;exact e
    .rw[li]at h12;cases h12.1
    .cases h12
   have:=jO nd h7 (beq_iff_eq.mp h8) h9 h10 h11 e6 [v] (by rw[hp];rfl);rw[hp]at this;exact .of_eq this
  .cases h
 .cases h
def tN {P:Program}{w:World}{h:Heap}{fa:Addr}{cs:List Addr}{fl k:Nat}(X:K.In h)(G:h.Ns mainGlobals mg)(hfa:mg "law"=some (.ref fa))
  (z1:sr K T fs cs gs=true) (z2:gG K T fs 0 T.fns=true) (z3:vH (nsIn K mainGlobals "law") (fs.getD fl 0)=true) (hd:T.fns[fl]? =some d) (hp:d.ps=[("_law_script":Str)]) (hf:d.dfl=[])
  (ht:∀ vs H Q E,e9 K 63 vs H Q E->ab T (wF K fs cs gs) k fl vs H Q E):
  ∃ fd:FuncData,(∀ (s:Shared) (v:Value),BindsTo s fd ⟨[v],[]⟩ [("_law_script",v)])/\∀ base:Heap,K.In base->base.Ns mainGlobals mg->bF P w K mg base (pN P w) (2*k) fa fd ["_law_script"] (e9 K 63):=by
 have e0:fs.getD fl 0=fa:=by
  have e:=hfa.symm.trans (mg_of X G (c8 z3))
  injection e with e
  injection e with e
  exact e.symm
 have fn:=sQ z2;have tk:=tJ X G z1;have N:=fn fl d hd;have hN:=uT z2 hd;obtain⟨oc,od,fd,sl,e,hb⟩:=hN hp hf;refine⟨fd,hb,λbase hb hg=>?_⟩;have F:=vQ (P:=P) (w:=w) (base:=base) (R:=wF K fs cs gs) tk rfl fn k fl d hd (fd:=fd) (lk:=e) (j3▸ht);rw[hp]at F;rw[<-e0];exact F
abbrev Cg (K:Frag)(a:Addr)(vs:List V):Bool:=match K.lookup a with
 |some ⟨.type t,_,.seq items _,_⟩=>t =="tuple"&&(decide (items.size<=1000)&&rR vs items.toList)
 |_=>false
def yd {a:Addr}{vs:List V}(h:Cg K a vs=true)(H:Hp):bY K H a vs:=by
 unfold Cg at h
 split at h
 .rename_i t od items n sl e;simp only[li,decide_eq_true_eq]at h;refine .inr ⟨_,items,n,e,?_,rfl,?_,iL h.2.2⟩
  .show Value.type t=_;rw[beq_iff_eq.mp h.1]
  .exact Nat.le_of_lt (cL h.2.1)
 .cases h
end L3
namespace L3
open PySem L2
noncomputable abbrev c9.c (e:Ex)(r:c9):c9:=.cons e r
noncomputable abbrev c9.n:c9:=.nil
noncomputable abbrev gT.c (e:Sx)(r:gT):gT:=.cons e r
noncomputable abbrev gT.n:gT:=.nil
noncomputable abbrev r8.c (a b:Nat)(e:gT)(r:r8):r8:=.cons a b e r
noncomputable abbrev r8.n:r8:=.nil
noncomputable abbrev Ex.i (x:Int):Ex:=.int x
noncomputable abbrev Ex.s (x:Str):Ex:=.str x
noncomputable abbrev Ex.k (x:Nat)(e:c9):Ex:=.call x e
noncomputable abbrev Ex.m (a:Ex)(x:Str)(e:c9):Ex:=.meth a x e
noncomputable abbrev Ex.f (c:Tx)(a b:Ex):Ex:=.ife c a b
noncomputable abbrev Ex.q (o:CmpOp)(a b:Ex):Ex:=.cmp o a b
noncomputable abbrev Tx.q (o:CmpOp)(a b:Ex):Tx:=.cmp o a b
noncomputable abbrev Sx.a (x:Nat)(e:Ex):Sx:=.asg x e
noncomputable abbrev Sx.r (e:Ex):Sx:=.ret e
noncomputable abbrev Sx.f (c:Tx)(a b:gT):Sx:=.ife c a b
noncomputable abbrev Sx.e (e:Ex):Sx:=.expr e
end L3
set_option Elab.async false
set_option maxHeartbeats 8000000
open PySem PySem.Spec L2 L3
namespace My
open PySem L2 L3
set_option hygiene false
local macro_rules|`(#[])=>`(.n)|`(#[$x:term])=>`(.c $x .n)|`(#[$x:term,$xs:term,*])=>`(.c $x #[$xs,*])
set_option hygiene true
abbrev c4:aN:=⟨["self","at"],["self","at"],[],#[.e (.bini #[.v 0,.s "no list of 1 to 60 contents"]),.fld (.v 0) "at" (.v 1)]⟩
abbrev dW:aN:=⟨["self","box","number"],["self","box","number"],[],#[.e (.bini #[.v 0,.s "a box can't hold this"]),.fld (.v 0) "box" (.v 1),.fld (.v 0) "number" (.v 2)]⟩
abbrev cV:aN:=⟨["self","at"],["self","at"],[],#[.e (.bini #[.v 0,.s "no place to stand at"]),.fld (.v 0) "at" (.v 1)]⟩
abbrev bj:aN:=⟨["self","at"],["self","at"],[],#[.e (.bini #[.v 0,.s "a word that can't stand where it stands"]),.fld (.v 0) "at" (.v 1)]⟩
abbrev ef:aN:=⟨["self","row"],["self","row"],[],#[.e (.bini #[.v 0,.s "no row that a desk knows"]),.fld (.v 0) "row" (.v 1)]⟩
abbrev gc:aN:=⟨["thing"],["thing"],[],#[.r (.and (.isi (.v 0) (.ty "int")) (.not (.isi (.v 0) (.ty "bool"))))]⟩
abbrev du:aN:=⟨["thing"],["thing"],[],#[.r (.and (.k 5 #[.v 0]) (.cmp2 .LtE .LtE (.i 0) (.v 0) (.gl "BOUND")))]⟩
abbrev eX:aN:=⟨["thing"],["thing"],[],#[.r (.and (.k 5 #[.v 0]) (.cmp2 .LtE .LtE (.neg (.gl "BOUND")) (.v 0) (.gl "BOUND")))]⟩
abbrev rJ:aN:=⟨["box","thing"],["box","thing"],[],#[.f (.or (.q .Eq (.v 0) (.s "here")) (.q .Eq (.v 0) (.s "there"))) #[.r (.k 7 #[.v 1])] .n,.f (.q .Eq (.v 0) (.s "way")) #[.r (.and (.k 5 #[.v 1]) (.or (.q .Eq (.v 1) (.i 1)) (.q .Eq (.v 1) (.neg (.i 1)))))] .n,.f (.q .Eq (.v 0) (.s "met")) #[.r (.and (.k 5 #[.v 1]) (.or (.q .Eq (.v 1) (.i 0)) (.q .Eq (.v 1) (.i 1))))] .n,.r (.k 6 #[.v 1])]⟩
abbrev bL:aN:=⟨["word"],["word","figures"],[],#[.a 1 (.f (.val (.sm .starts (.v 0) (.s "-"))) (.sl (.v 0) (.yes (.i 1)) .no) (.v 0)),.f (.not (.cmp2 .LtE .LtE (.i 1) (.bf .len #[.v 1]) (.gl "MOST_FIGURES"))) #[.r (.bl false)] .n,.f (.not (.val (.bf .all #[.lc (.q .In (.v 0) (.gl "FIGURES")) [] (.seq (.v 1))]))) #[.r (.bl false)] .n,.r (.or (.q .Eq (.v 0) (.s "0")) (.not (.sm .starts (.v 1) (.s "0"))))]⟩
abbrev cC:aN:=⟨["word"],["word"],[],#[.r (.f (.and (.q .IsNot (.v 0) .non) (.val (.k 9 #[.v 0]))) (.bf .int #[.v 0]) .non)]⟩
abbrev bz:aN:=⟨["word"],["word"],[],#[.f (.or (.q .Is (.v 0) .non) (.not (.cmp2 .LtE .LtE (.i 1) (.bf .len #[.v 0]) (.gl "MOST_CELLS")))) #[.r (.bl false)] .n,.r (.bf .all #[.lc (.q .In (.v 0) (.gl "LEAVE_OF")) [] (.seq (.v 0))])]⟩
abbrev aE:aN:=⟨["self","text"],["self","text"],[],#[.f (.not (.val (.isi (.v 1) (.ty "str")))) #[.rais (.make 4 #[.neg (.i 1)])] .n,.fld (.v 0) "queue" (.sm .split (.v 1) (.s " ")),.fld (.v 0) "at" (.i 0)]⟩
abbrev cw:aN:=⟨["self"],["self"],[],#[.r (.f (.q .Lt (.fld (.v 0) "at") (.bf .len #[.fld (.v 0) "queue"])) (.ix (.fld (.v 0) "queue") (.fld (.v 0) "at")) .non)]⟩
abbrev bq:aN:=⟨["self","stands"],["self","stands","word"],[],#[.f (.not (.val (.v 1))) #[.rais (.make 4 #[.fld (.v 0) "at"])] .n,.a 2 (.ix (.fld (.v 0) "queue") (.fld (.v 0) "at")),.augF (.v 0) "at" .Add (.i 1),.r (.v 2)]⟩
abbrev aT:aN:=⟨["self","low","high"],["self","low","high","number"],[],#[.a 3 (.k 10 #[.m (.v 0) "ahead" .n]),.e (.m (.v 0) "take" #[.and (.q .IsNot (.v 3) .non) (.cmp2 .LtE .LtE (.v 1) (.v 3) (.v 2))]),.r (.v 3)]⟩
abbrev aM:aN:=⟨["self","box"],["self","box","number"],[],#[.a 2 (.k 10 #[.m (.v 0) "ahead" .n]),.e (.m (.v 0) "take" #[.k 8 #[.v 1,.v 2]]),.r (.v 2)]⟩
abbrev aW:aN:=⟨["self"],["self"],[],#[.r (.lc (.ix (.gl "LEAVE_OF") (.v 0)) [] (.seq (.m (.v 0) "take" #[.k 11 #[.m (.v 0) "ahead" .n]])))]⟩
abbrev cp:aN:=⟨["self"],["self"],[],#[.r (.q .Eq (.fld (.v 0) "at") (.bf .len #[.fld (.v 0) "queue"]))]⟩
abbrev bZ:aN:=⟨["self"],["self"],[],#[.f (.not (.val (.m (.v 0) "ended" .n))) #[.rais (.make 4 #[.fld (.v 0) "at"])] .n]⟩
abbrev dv:aN:=⟨["reader"],["reader","at","boxes","leaves","cells"],[],#[.a 1 (.m (.v 0) "take_number" #[.i 0,.gl "MOST_ROWS"]),.a 2 (.bf .tuple #[.lc (.m (.v 1) "take_fitting" #[.v 0]) [0] (.seq (.gl "NAMES"))]),.a 3 (.m (.v 0) "take_leaves" .n),.a 4 (.lc (.m (.v 1) "take_number" #[.i 0,.gl "BOUND"]) [0] (.seq (.v 3))),.r (.tup #[.tup #[.v 1,.v 2,.v 4],.v 3])]⟩
abbrev bN:aN:=⟨["text"],["text","reader","told"],[],#[.a 1 (.make 6 #[.v 0]),.a 2 (.k 20 #[.v 1]),.e (.m (.v 1) "finish" .n),.r (.v 2)]⟩
abbrev ff:aN:=⟨["_law_script"],["_law_script","_law_cells_here","_law_fold","_law_cell"],[],#[.a 1 (.bf .list #[.sl (.v 0) .no (.yes (.i 63))]),.a 2 (.bf .len #[.v 1]),.for (.nm 3) (.seq (.v 1)) #[.a 2 (.bin .Mod (.bin .Add (.bin .Add (.bin .Mult (.v 2) (.i 48271)) (.bin .Mod (.v 3) (.i 2147483647))) (.i 1)) (.i 2147483629))],.r (.lst #[.v 1,.v 2,.i 0,.i 0,.i 0])]⟩
abbrev eU:aN:=⟨["_law_hand_here","_law_many"],["_law_hand_here","_law_many","_law_rest","_law_cell","_law_one","_law_two"],[],#[.augS (.v 0) (.i 4) .Add (.i 1),.a 2 (.ix (.v 0) (.i 3)),.a 3 (.ix (.v 0) (.i 1)),.f (.q .Gt (.v 2) (.i 0)) #[.sub (.v 0) (.i 3) (.bin .FloorDiv (.v 2) (.v 1)),.r (.bin .Mod (.v 2) (.v 1))] .n,.f (.q .Lt (.ix (.v 0) (.i 2)) (.bf .len #[.ix (.v 0) (.i 0)])) #[.a 3 (.ix (.ix (.v 0) (.i 0)) (.ix (.v 0) (.i 2))),.augS (.v 0) (.i 2) .Add (.i 1),.f (.q .GtE (.v 3) (.bin .Pow (.i 10) (.i 18))) #[.sub (.v 0) (.i 3) (.bin .FloorDiv (.v 3) (.v 1)),.r (.bin .Mod (.v 3) (.v 1))] .n] .n,.a 4 (.bin .Mod (.bin .Pow (.bin .Add (.bin .Mod (.v 3) (.i 998244353)) (.bin .Mult (.i 7919) (.ix (.v 0) (.i 4)))) (.i 5)) (.i 2147483647)),.a 5 (.bin .Mod (.bin .Pow (.bin .Add (.bin .Add (.v 4) (.bin .Mult (.i 104729) (.ix (.v 0) (.i 4)))) (.ix (.v 0) (.i 1))) (.i 3)) (.i 2147483629)),.r (.bin .Mod (.bin .FloorDiv (.v 5) (.i 7)) (.v 1))]⟩
abbrev cB:aN:=⟨["_law_hand_here"],["_law_hand_here","_law_way"],[],#[.a 1 (.k 23 #[.v 0,.i 4]),.f (.q .Eq (.v 1) (.i 0)) #[.r (.k 23 #[.v 0,.i 3])] .n,.f (.q .Eq (.v 1) (.i 1)) #[.r (.bin .Sub (.bin .Pow (.i 10) (.i 9)) (.k 23 #[.v 0,.i 2]))] .n,.f (.q .Eq (.v 1) (.i 2)) #[.r (.k 23 #[.v 0,.i 100])] .n,.r (.bin .Mod (.bin .Add (.bin .Mult (.k 23 #[.v 0,.i 100000]) (.i 10001)) (.k 23 #[.v 0,.i 10001])) (.bin .Add (.bin .Pow (.i 10) (.i 9)) (.i 1)))]⟩
abbrev dy:aN:=⟨["_law_hand_here","_law_most"],["_law_hand_here","_law_most","_law_way","_law_many"],[],#[.a 2 (.k 23 #[.v 0,.i 3]),.a 3 (.bin .Add (.i 1) (.k 23 #[.v 0,.v 1])),.f (.q .Eq (.v 2) (.i 0)) #[.r (.lc (.k 23 #[.v 1,.i 3]) [0] (.rng1 (.v 3)))] .n,.f (.q .Eq (.v 2) (.i 1)) #[.r (.lc (.bin .Add (.bin .Mult (.i 1000) (.v 0)) (.k 23 #[.v 1,.i 1000])) [0] (.rng1 (.v 3)))] .n,.r (.lc (.k 24 #[.v 1]) [0] (.rng1 (.v 3)))]⟩
abbrev cM:aN:=⟨["_law_hand_here","_law_many"],["_law_hand_here","_law_many","_law_leaves_here","_law_k","_law_word","_law_low","_law_cell"],[],#[.a 2 (.bin .Mult (.lst #[.s "open"]) (.v 1)),.for (.nm 3) (.rng1 (.ix (.lst #[.i 0,.i 0,.i 1,.i 2,.i 4]) (.k 23 #[.v 0,.i 5]))) #[.a 4 (.ix (.lst #[.s "look",.s "shut",.s "look",.s "open"]) (.k 23 #[.v 0,.i 4])),.a 5 (.k 23 #[.v 0,.v 1]),.for (.nm 6) (.rng2 (.v 5) (.bin .Add (.v 5) (.k 23 #[.v 0,.bin .Add (.bin .Sub (.v 1) (.v 5)) (.i 1)]))) #[.sub (.v 2) (.v 6) (.v 4)]],.r (.v 2)]⟩
abbrev cR:aN:=⟨["_law_word","_law_low","_law_high"],["_law_word","_law_low","_law_high","_law_figures"],[],#[.a 3 (.sl (.v 0) (.yes (.bf .int #[.q .Eq (.sl (.v 0) .no (.yes (.i 1))) (.s "-")])) .no),.f (.or (.not (.cmp2 .LtE .LtE (.i 1) (.bf .len #[.v 3]) (.i 10))) (.q .In (.bl false) (.lc (.q .In (.v 0) (.s "0123456789")) [] (.seq (.v 3))))) #[.r .non] .n,.f (.or (.and (.q .Eq (.ix (.v 3) (.i 0)) (.s "0")) (.q .NotEq (.v 0) (.s "0"))) (.not (.cmp2 .LtE .LtE (.v 1) (.bf .int #[.v 0]) (.v 2)))) #[.r .non] .n,.r (.bf .int #[.v 0])]⟩
abbrev az:aN:=⟨["_law_text"],["_law_text","_law_words","_law_ends","_law_numbers","_law_k","_law_number_here","_law_leaves_here","_law_cells_here","_law_given"],[],#[.a 1 (.sm .split (.v 0) (.s " ")),.a 2 (.lst #[.tup #[.i 0,.i 24],.tup #[.neg (.bin .Pow (.i 10) (.i 9)),.bin .Pow (.i 10) (.i 9)],.tup #[.neg (.bin .Pow (.i 10) (.i 9)),.bin .Pow (.i 10) (.i 9)],.tup #[.i 0,.bin .Pow (.i 10) (.i 9)],.tup #[.neg (.i 1),.i 1],.tup #[.i 0,.bin .Pow (.i 10) (.i 9)],.tup #[.i 0,.i 1]]),.a 3 (.lst .n),.for (.nm 4) (.rng1 (.i 7)) #[.a 5 .non,.f (.q .Lt (.v 4) (.bf .len #[.v 1])) #[.a 5 (.k 27 #[.ix (.v 1) (.v 4),.ix (.ix (.v 2) (.v 4)) (.i 0),.ix (.ix (.v 2) (.v 4)) (.i 1)])] .n,.f (.or (.q .Is (.v 5) .non) (.and (.q .Eq (.v 4) (.i 4)) (.q .Eq (.v 5) (.i 0)))) #[.r (.tup #[.s "none",.bf .min #[.v 4,.bf .len #[.v 1]]])] .n,.e (.lm .append (.v 3) #[.v 5])],.a 6 (.ix (.bin .Add (.v 1) (.lst #[.s ""])) (.bf .min #[.i 7,.bf .len #[.v 1]])),.f (.or (.not (.cmp2 .LtE .LtE (.i 1) (.bf .len #[.v 6]) (.i 60))) (.q .In (.bl false) (.lc (.q .In (.v 0) (.s "ols")) [] (.seq (.v 6))))) #[.r (.tup #[.s "none",.bf .min #[.i 7,.bf .len #[.v 1]]])] .n,.a 7 (.lst .n),.for (.nm 4) (.rng1 (.bf .len #[.v 6])) #[.f (.or (.q .GtE (.bin .Add (.i 8) (.v 4)) (.bf .len #[.v 1])) (.q .Is (.k 27 #[.ix (.v 1) (.bin .Add (.i 8) (.v 4)),.i 0,.bin .Pow (.i 10) (.i 9)]) .non)) #[.r (.tup #[.s "none",.bf .min #[.bin .Add (.i 8) (.v 4),.bf .len #[.v 1]]])] .n,.e (.lm .append (.v 7) #[.bf .int #[.ix (.v 1) (.bin .Add (.i 8) (.v 4))]])],.f (.q .Gt (.bf .len #[.v 1]) (.bin .Add (.i 8) (.bf .len #[.v 7]))) #[.r (.tup #[.s "none",.bin .Add (.i 8) (.bf .len #[.v 7])])] .n,.a 8 (.lc (.ix (.disp ["o","l","s"] #[.s "open",.s "look",.s "shut"]) (.v 0)) [] (.seq (.v 6))),.r (.tup #[.s "read",.tup #[.tup #[.ix (.v 3) (.i 0),.bf .tuple #[.sl (.v 3) (.yes (.i 1)) .no],.v 7],.v 8]])]⟩
abbrev cz:aN:=⟨["_law_text"],["_law_text","_law_found","e","_law_others"],[],#[.tryx #[.a 1 (.k 21 #[.v 0])] (.c 0 2 #[.a 3 (.isiT (.v 2) [2,3,5,1]),.f (.or (.not (.val (.isi (.v 2) (.own 4)))) (.or (.val (.v 3)) (.not (.val (.isi (.v 2) (.ty "ValueError")))))) #[.r (.tup #[.s "another",.i 0])] .n,.r (.tup #[.s "none",.fld (.v 2) "at"])] .n),.r (.tup #[.s "read",.v 1])]⟩
abbrev eZ:aN:=⟨["_law_hand_here"],["_law_hand_here","_law_cells_here","_law_leaves_here","_law_words"],[],#[.a 1 (.k 25 #[.v 0,.ix (.lst #[.i 4,.i 60]) (.k 23 #[.v 0,.i 2])]),.a 2 (.k 26 #[.v 0,.bf .len #[.v 1]]),.a 3 (.lst #[.bf .str #[.k 23 #[.v 0,.i 25]],.bf .str #[.k 23 #[.v 0,.i 61]],.bf .str #[.neg (.k 23 #[.v 0,.i 9])],.bf .str #[.k 23 #[.v 0,.i 61]]]),.a 3 (.bin .Add (.v 3) (.lst #[.ix (.lst #[.s "1",.s "-1"]) (.k 23 #[.v 0,.i 2]),.bf .str #[.k 24 #[.v 0]],.bf .str #[.k 23 #[.v 0,.i 2]]])),.e (.lm .append (.v 3) #[.sm .join (.s "") (.lc (.ix (.v 0) (.i 0)) [] (.seq (.v 2)))]),.r (.sm .join (.s " ") (.bin .Add (.v 3) (.lc (.bf .str #[.v 0]) [] (.seq (.v 1)))))]⟩
abbrev dq:aN:=⟨["_law_hand_here"],["_law_hand_here","_law_some"],[],#[.a 1 (.lst #[.s "",.s "-",.s "-0",.s "00",.s "01",.s "25",.s "24",.s "1000000000",.s "1000000001",.s "-1000000000",.s "-1000000001",.s "2",.s "-2"]),.a 1 (.bin .Add (.v 1) (.lst #[.s "+1",.s "1.0",.s "o",.s "ol",.s "x",.s "O",.bin .Mult (.s "ols") (.i 21),.bin .Mult (.s "olso") (.i 15),.s "12345678901",.s "0",.s "-1",.s "1_0"])),.r (.ix (.v 1) (.k 23 #[.v 0,.bf .len #[.v 1]]))]⟩
abbrev fe:aN:=⟨["_law_hand_here","_law_word"],["_law_hand_here","_law_word","_law_signs","_law_way","_law_at"],[],#[.a 2 (.s "abcdefghijklmnopqrstuvwxyzABCDEFGHIJKLMNOPQRSTUVWXYZ0123456789 !\"#$&'()*+,-./:;<=>?\x40[\\]^_`{|}~"),.a 3 (.k 23 #[.v 0,.i 3]),.a 4 (.k 23 #[.v 0,.bin .Add (.bf .len #[.v 1]) (.i 1)]),.f (.q .Eq (.v 3) (.i 0)) #[.r (.bin .Add (.sl (.v 1) .no (.yes (.v 4))) (.sl (.v 1) (.yes (.bin .Add (.v 4) (.i 1))) .no))] .n,.r (.bin .Add (.bin .Add (.sl (.v 1) .no (.yes (.v 4))) (.ix (.v 2) (.k 23 #[.v 0,.bf .len #[.v 2]]))) (.sl (.v 1) (.yes (.bin .Sub (.bin .Add (.v 4) (.v 3)) (.i 1))) .no))]⟩
abbrev cN:aN:=⟨["_law_hand_here","_law_text"],["_law_hand_here","_law_text","_law_way","_law_words","_law_at","_law_moved","_law_more"],[],#[.a 2 (.k 23 #[.v 0,.i 9]),.a 3 (.sm .split (.v 1) (.s " ")),.a 4 (.ix (.lst #[.k 23 #[.v 0,.bf .len #[.v 3]],.k 23 #[.v 0,.bf .min #[.i 9,.bf .len #[.v 3]]]]) (.k 23 #[.v 0,.i 2])),.f (.q .Lt (.v 2) (.i 2)) #[.sub (.v 3) (.v 4) (.k 32 #[.v 0,.ix (.v 3) (.v 4)])] #[.f (.q .Lt (.v 2) (.i 4)) #[.sub (.v 3) (.v 4) (.k 31 #[.v 0])] #[.f (.q .Eq (.v 2) (.i 4)) #[.a 3 (.bin .Add (.sl (.v 3) .no (.yes (.v 4))) (.sl (.v 3) (.yes (.bin .Add (.v 4) (.i 1))) .no))] #[.f (.q .Eq (.v 2) (.i 5)) #[.a 3 (.bin .Add (.bin .Add (.sl (.v 3) .no (.yes (.v 4))) (.lst #[.ix (.v 3) (.v 4),.ix (.v 3) (.v 4)])) (.sl (.v 3) (.yes (.bin .Add (.v 4) (.i 1))) .no))] #[.f (.q .Eq (.v 2) (.i 6)) #[.a 5 (.bin .Add (.sl (.v 3) (.yes (.bin .Add (.v 4) (.i 1))) (.yes (.bin .Add (.v 4) (.i 2)))) (.lst #[.ix (.v 3) (.v 4)])),.a 3 (.bin .Add (.bin .Add (.sl (.v 3) .no (.yes (.v 4))) (.v 5)) (.sl (.v 3) (.yes (.bin .Add (.v 4) (.i 2))) .no))] #[.f (.q .Eq (.v 2) (.i 7)) #[.a 6 (.k 23 #[.v 0,.i 3]),.f (.q .Eq (.v 6) (.i 0)) #[.a 3 (.sl (.v 3) .no (.yes (.v 4)))] #[.e (.lm .append (.v 3) #[.ix (.lst #[.s "0",.k 31 #[.v 0]]) (.bin .Sub (.v 6) (.i 1))])]] #[.sub (.v 3) (.bf .min #[.i 7,.bin .Sub (.bf .len #[.v 3]) (.i 1)]) (.ix (.lst #[.s "o",.bin .Mult (.s "ols") (.i 20),.bin .Mult (.s "o") (.i 61),.s "ol o",.s "",.bin .Mult (.s "s") (.i 60)]) (.k 23 #[.v 0,.i 6]))]]]]]],.r (.sm .join (.s " ") (.v 3))]⟩
abbrev eY:aN:=⟨["_law_script"],["_law_script","_law_hand_here","_law_turn","_law_spoils","_law_text","_law_k","_law_odd"],[],#[.a 1 (.k 22 #[.v 0]),.for (.nm 2) (.rng1 (.i 10)) #[.a 3 (.bin .Add (.i 1) (.k 23 #[.v 1,.i 2])),.a 4 (.k 30 #[.v 1]),.f (.q .NotEq (.k 29 #[.v 4]) (.k 28 #[.v 4])) #[.r (.bl false)] .n,.for (.nm 5) (.rng1 (.v 3)) #[.a 4 (.k 33 #[.v 1,.v 4])],.for (.nm 5) (.rng1 (.i 2)) #[.f (.q .NotEq (.k 29 #[.v 4]) (.k 28 #[.v 4])) #[.r (.bl false)] .n]],.for (.nm 6) (.seq (.lst #[.non,.i 5,.bl true,.lst .n,.lst #[.s "0"],.tup #[.s "0"],.dnew])) #[.f (.q .NotEq (.k 29 #[.v 6]) (.tup #[.s "none",.neg (.i 1)])) #[.r (.bl false)] .n],.r (.q .Eq (.k 29 #[.s ""]) (.tup #[.s "none",.i 0]))]⟩
abbrev tab:Tab where
  fns:=(c4::dW::cV::bj::ef::gc::du::eX::rJ::bL::cC::bz::aE::cw::bq::aT::aM::aW::cp::bZ::dv::bN::ff::eU::cB::dy::cM::cR::az::cz::eZ::dq::fe::cN::eY::[])
  gfn:=[("is_whole",5),("is_content",6),("is_number",7),("fits",8),("is_written",9),("number_of",10),("are_letters",11),("state_from",20),("read_state",21),("_law_hand",22),("_law_draw",23),("_law_content",24),("_law_cells",25),("_law_leaves",26),("_law_number",27),("_law_read",28),("_law_told",29),("_law_good",30),("_law_other",31),("_law_sign",32),("_law_spoilt",33),("law",34)]
  gcl:=[("HaulError",0),("NoStore",1),("NoFit",2),("NoPlace",3),("NoText",4),("NoRow",5),("Reader",6)]
  gbl:=["ValueError","all","bool","int","isinstance","len","list","min","range","str","tuple"]
  gbi:=["HaulError"]
  na:=[(1,"at"),(2,"box"),(2,"number"),(3,"at"),(4,"at"),(5,"row"),(6,"at"),(6,"queue")]
  me:=[((6,"ahead"),13),((6,"ended"),18),((6,"finish"),19),((6,"take"),14),((6,"take_fitting"),16),((6,"take_leaves"),17),((6,"take_number"),15)]
  ini:=[(1,0),(2,1),(3,2),(4,3),(5,4),(6,12)]
  ini0:=[]
  inip:=[]
  oc:=[6]
  xc:=[0,1,2,3,4,5]
  sub:=(((0,0),true)::((0,2),false)::((0,3),false)::((0,5),false)::((0,1),false)::((0,4),false)::((1,0),true)::((1,2),false)::((1,3),false)::((1,5),false)::((1,1),true)::((1,4),false)::((2,0),true)::((2,2),true)::((2,3),false)::((2,5),false)::((2,1),false)::((2,4),false)::((3,0),true)::((3,2),false)::((3,3),true)::((3,5),false)::((3,1),false)::((3,4),false)::((4,0),true)::((4,2),false)::((4,3),false)::((4,5),false)::((4,1),false)::((4,4),true)::((5,0),true)::((5,2),false)::((5,3),false)::((5,5),true)::((5,1),false)::((5,4),false)::[])
  subT:=[((0,"ValueError"),true),((1,"ValueError"),true),((2,"ValueError"),true),((3,"ValueError"),true),((4,"ValueError"),true),((5,"ValueError"),true)]
  subB:=[(("NoneType","bool"),false),(("NoneType","int"),false),(("NoneType","str"),false),(("bool","bool"),true),(("bool","int"),true),(("bool","str"),false),(("int","bool"),false),(("int","int"),true),(("int","str"),false),(("str","bool"),false),(("str","int"),false),(("str","str"),true),(("list","bool"),false),(("list","int"),false),(("list","str"),false),(("tuple","bool"),false),(("tuple","int"),false),(("tuple","str"),false),(("dict","bool"),false),(("dict","int"),false),(("dict","str"),false)]
  subO:=[]
/-- what the proofs ask of the addresses -/
structure Ro (K:W.Frag) (R:Rt):Prop where
  hK:R.K=K
  g_BOUND:R.gl "BOUND"=some (.int 1000000000)
  g_MOST_ROWS:R.gl "MOST_ROWS"=some (.int 24)
  g_MOST_CELLS:R.gl "MOST_CELLS"=some (.int 60)
  g_MOST_FIGURES:R.gl "MOST_FIGURES"=some (.int 10)
  g_FIGURES:R.gl "FIGURES"=some (.str "0123456789")
  g_LEAVE_OF:∃ a,R.gl "LEAVE_OF"=some (.ref a)/\ug K a [("o","open"),("l","look"),("s","shut")]
  g_NAMES:∃ a,R.gl "NAMES"=some (.ref a)/\∀ H,bY K H a [.str "here",.str "there",.str "left",.str "way",.str "sign",.str "met"]
end My
set_option Elab.async false
set_option maxHeartbeats 8000000
namespace My
open PySem L2 L3
open L2.V renaming ref→tz,int→ul,str→ut,non→v0
open L2.HO renaming lst→v6,tup→wf,ins→wn
local macro_rules|`(tactic|delta $x:ident)=>`(tactic|refine wc (d:=$x) nofun rfl rfl ?_)
variable {h a:Addr}{m i r:Int}{ns:List Int}{v:V}{t:String}{n j c:Nat}{fs:List (Str×V)}{x w z:Str}{G:Gx}{ws:List Str}{xs:List V}{P:V->Prop}
section
variable {K:W.Frag}{R:Rt}{k:Nat}{H:Hp}{Q:VK}{E:XK}{O Γ' Δ:List aB}
local macro_rules| `(tactic|walk_at "w")=>`(tactic|conv=>whnf)
local macro_rules| `(tactic|left)=>`(tactic|walk_at "w")
local macro_rules| `(tactic|symm)=>`(tactic|((with_reducible (repeat(first|exact aD.e|apply aD.t)));done))
local macro_rules| `(tactic|ac_rfl)=>`(tactic|((with_reducible (repeat(first|exact cA.e|apply cA.t)));done))
local macro_rules| `(tactic|ac_nf)=>`(tactic|first|(with_reducible exact Sub.refl)|(refine' Sub.cons ?h ?r;(case h=>symm);(case r=>ac_nf))|(with_reducible exact Sub.nil)|(with_reducible apply Sub.drop;(ac_nf)))
local macro_rules| `(tactic|walk_at "sp")=>`(tactic|(refine Sep.sub ?_ (by with_reducible assumption);(ac_nf)))
local macro_rules| `(tactic|grind)=>`(tactic|first|exact Sep.get (by with_reducible assumption) (by symm)|exact Sep.fw (by with_reducible assumption) (by symm))
local macro_rules| `(tactic|walk_at "ar")=>`(tactic|first|lia|omega|decide|exact nb rfl|(unfold oi;omega)|(unfold uM;omega)|(unfold uM;decide)|(unfold oi;decide)|(simp only[ce,length_set,List.length_replicate];omega))
local macro_rules| `(tactic|walk_at "ls")=>`(tactic|first|(conv=>lhs;simp only[List.set_cons_succ,List.set_cons_zero,Int.reduceToNat])|rfl)
local macro_rules| `(tactic|walk_at "pf")=>`(tactic|first|(conv=>lhs;simp (decide:=true) only [bt,if_true,if_false])|rfl)
local macro_rules| `(tactic|walk_at "st")=>`(tactic|first
  |(with_reducible refine And.intro rfl ?_)
  |(with_reducible refine cP rfl ?_)
  |(with_reducible refine a7 rfl ?_)
  |(with_reducible refine v8 ?_)
  |((with_reducible refine' ba ?e ?v ?_);(case e=>grind);(case v=>exact rfl))
  |((with_reducible refine' xj ?e ?v ?_);(case e=>grind);(case v=>exact rfl))
  |((with_reducible refine' zq ?e ?i ?v ?_);(case e=>grind);(case i=>omega);(case v=>exact rfl))
  |(with_reducible refine xJ rfl ?_)
  |(with_reducible refine bf_max rfl ?_)
  |((with_reducible refine' aw ?e ?_);(case e=>grind))
  |((with_reducible refine' bf_lenT ?e ?_);(case e=>grind))
  |((with_reducible refine' kC ?s ?r ?j ?x (λH hs=>?_));(case s=>with_reducible assumption);(case r=>ac_rfl);(case j=>exact rfl);(case x=>walk_at "ls"))
  |((with_reducible refine' jn ?s ?l (λp H hs=>?_));(case s=>with_reducible assumption);(case l=>exact nb rfl))
  |((with_reducible refine' vZ ?s ?l (λp H hs=>?_));(case s=>with_reducible assumption);(case l=>exact nb rfl))
  |((with_reducible refine' wJ ?s (λp H hs=>?_));(case s=>with_reducible assumption))
  |((with_reducible refine' tZ ?e ?_);(case e=>grind))
  |((with_reducible refine' it_e ?e ?_);(case e=>grind))
  |((with_reducible refine' dD ?s ?e ?f ?l (λp H hs=>?_));(case s=>with_reducible assumption);(case e=>grind);(case f=>grind);(case l=>walk_at "ar"))
  |((with_reducible refine' zx ?s ?e ?f ?g ?l (λp H hs=>?_));(case s=>with_reducible assumption);(case e=>grind);(case f=>walk_at "ar");(case g=>walk_at "ar");(case l=>walk_at "ar"))
  |((with_reducible refine' yZ ?s ?r ?o ?n ?l ?x (λH hs=>?_));(case s=>with_reducible assumption);(case r=>ac_rfl);(case o=>exact rfl);(case n=>exact rfl);(case l=>walk_at "ar");(case x=>walk_at "pf"))
  |((with_reducible refine' b6 ?e ?o ?n ?l ?_);(case e=>grind);(case o=>exact rfl);(case n=>exact rfl);(case l=>exact rfl))
  |((with_reducible refine' zT ?e ?o ?n ?l ?_);(case e=>grind);(case o=>exact rfl);(case n=>exact rfl);(case l=>exact rfl))
  |((with_reducible refine' yV ?e ?o ?b ?_);(case e=>grind);(case o=>exact rfl);(case b=>exact rfl))
  |((with_reducible refine' xD ?e ?o ?b ?_);(case e=>grind);(case o=>exact rfl);(case b=>exact rfl))
  |((with_reducible refine' mh ?t ?b ?_);(case t=>exact rfl);(case b=>exact rfl))
  |((with_reducible refine' a3 ?a ?b ?_);(case a=>exact rfl);(case b=>exact rfl))
  |((with_reducible refine' sZ ?a ?b ?_);(case a=>exact rfl);(case b=>exact rfl))
  |((with_reducible refine' tj ?s ?e (λp H hs=>?_));(case s=>with_reducible assumption);(case e=>grind))
  |((with_reducible refine' gS ?s ?e (λp H hs=>?_));(case s=>with_reducible assumption);(case e=>grind))
  |(refine And.intro (by walk_at "ar") ?_))
local macro_rules| `(tactic|walk_at "go")=>`(tactic|(walk_at "w";repeat(walk_at "st";walk_at "w")))
local macro_rules| `(tactic|right)=>`(tactic|walk_at "go")
abbrev hand (h:Addr)(m:Int):aB:=ex λx:Addr×List Int×Int×Int×Int×Int=>kK (pt h (v6 [tz x.1,ul x.2.2.1,ul x.2.2.2.1,ul x.2.2.2.2.1,ul x.2.2.2.2.2])) (kK (pt x.1 (v6 (x.2.1.map ul)))
 (pu (x.2.1.length<=63/\0<=x.2.2.1/\x.2.2.1<2147483629/\0<=x.2.2.2.1/\0<=x.2.2.2.2.1/\0<=x.2.2.2.2.2/\x.2.2.2.2.2<=m)))
def qG (s:Sep (hand h m::O) H):∃ (c:Addr) (ns:List Int) (fo i r n:Int),Sep (pt h (v6 [tz c,ul fo,ul i,ul r,ul n])::pt c (v6 (ns.map ul))::O) H/\ns.length<=63/\0<=fo/\fo<2147483629/\0<=i/\0<=r/\0<=n/\n<=m:=by
 obtain⟨⟨c,ns,fo,i,r,n⟩,s⟩:=Sep.AN.mp s;have s2:=Sep.star.mp ((Sep.star.mp s).pull .k1);have p:=(s2.pull .k1).pure;exact⟨c,ns,fo,i,r,n,((s2.pull .k1).drop).pull .k1,p⟩
def d7 {c:Addr}{fo n:Int}(s:Sep (pt h (v6 [tz c,ul fo,ul i,ul r,ul n])::pt c (v6 (ns.map ul))::O) H)(p:ns.length<=63/\0<=fo/\fo<2147483629/\0<=i/\0<=r/\0<=n/\n<=m):Sep (hand h m::O) H:=by
 refine Sep.AN.mpr ⟨⟨c,ns,fo,i,r,n⟩,Sep.star.mpr ?_⟩;exact(Sep.star.mpr (((s.pull .k1).pull .e |> λs=>(Sep.Br p s).pull .k1))).pull .k1
def Ax:(10:Int) ^ Int.toNat 18=1000000000000000000:=by decide
def k4 {n:Int}(hk:1<=k)(s:Sep (hand h m::O) H)(hm:m<=1099511627776)(hn0:0<n)(hn1:n<1073741824)
  (q:∀ (r:Int) (H':Hp),0<=r->r<n->Sep (hand h (m+1)::O) H'->Q (ul r) H'):ab tab R k 23 [tz h,ul n] H Q E:=by
 obtain⟨c,ns,fo,i,r,j,hs,h63,f0,f1,i0,r0,k0,k1⟩:=qG s;clear s;have nn:n≠0:=by omega
 delta eU;right;refine ay (λhr=>?_) (λhr=>?_)
 .right;rename_i H1 hs1 H2 hs2;exact q _ _ (Int.emod_nonneg _ nn) (Int.emod_lt_of_pos _ hn0) (d7 hs2 ⟨h63,f0,f1,i0,Int.ediv_nonneg r0 nofun,by omega,by omega⟩)
 right;refine ay (λhc=>?_) (λhc=>?_)
 .right;obtain⟨z,hz⟩:∃ z,fg (ns.map ul) i=some (ul z):=pw i0 (by rw[ce]at hc;exact hc);refine ba (by grind) hz ?_;right;refine ay (λhz18=>?_) (λhz18=>?_)
  .rw[Ax]at hz18;right;rename_i H1 hs1 H2 hs2 H3 hs3;exact q _ _ (Int.emod_nonneg _ nn) (Int.emod_lt_of_pos _ hn0) (d7 hs3 ⟨h63,f0,f1,by omega,Int.ediv_nonneg nofun nofun,by omega,by omega⟩)
  .right;rename_i H1 hs1 H2 hs2;exact q _ _ (Int.emod_nonneg _ nn) (Int.emod_lt_of_pos _ hn0) (d7 hs2 ⟨h63,f0,f1,by omega,r0,by omega,by omega⟩)
 .right;rename_i H1 hs1;exact q _ _ (Int.emod_nonneg _ nn) (Int.emod_lt_of_pos _ hn0) (d7 hs1 ⟨h63,f0,f1,by omega,r0,by omega,by omega⟩)
def w9 (hk:1<=k)(s:Sep O H)(hS:aA R.K H a (ns.map ul))(h63:ns.length<=63)(q:∀ h H',Sep (hand h 0::O) H'->Q (tz h) H'):ab tab R k 22 [tz a] H Q E:=by
 delta ff;right;refine BK s hS (λp H1 hs1=>?_);rw[Av ns h63]at hs1;right;rename_i c H2 hs2;refine mJ (xs:=ns.map ul) (λj U H=>∃ (fo:Int) (v:Option V),U=[some (tz a),some (tz c),some (ul fo),v]/\0<=fo/\fo<2147483629/\Sep (pt c (v6 (ns.map ul))::pt p (v6 (ns.map ul))::O) H) ?_ ?_ ?_ ?_
 .exact⟨_,none,rfl,by rw[ce];omega,by rw[ce];omega,hs2⟩
 .rintro j U H ⟨fo,v,rfl,h0,h2,hs⟩;exact aA.of hs.at
 .rintro j x U H hx ⟨fo,v,rfl,h0,h2,hs⟩;obtain⟨z,rfl⟩:=kM hx;right;exact⟨_,_,rfl,by omega,by omega,hs⟩
 .rintro U H ⟨fo,v,rfl,h0,h2,hs⟩;right;rename_i l H3 hs3;exact q l _ (d7 ((hs3.pull .k2).drop) ⟨h63,h0,h2,by omega,by omega,by omega,by omega⟩)
def au {n:Int}(s:Sep (hand h m::O) H)(e:m<=n):Sep (hand h n::O) H:=by
 obtain⟨c,ns,fo,i,r,j,hs,h63,f0,f1,i0,r0,k0,k1⟩:=qG s;exact d7 hs ⟨h63,f0,f1,i0,r0,k0,by omega⟩
inductive Kd (H:Hp):V->String->Prop where
 |non:Kd H v0 "NoneType"
 |bl (b:Bool):Kd H (.bl b) "bool"
 |int (i:Int):Kd H (ul i) "int"
 |str (x:Str):Kd H (ut x) "str"
 |lst {a:Addr}{xs:List V}(e:H a=some (v6 xs)):Kd H (tz a) "list"
 |tup {a:Addr}{xs:List V}(e:H a=some (wf xs)):Kd H (tz a) "tuple"
 |dct {a:Addr}{kvs:List (Key×V)}(e:Rd H a (.dK kvs)):Kd H (tz a) "dict"
def jN (h:tyName v H=some t):Kd H v t:=by
 unfold tyName at h
 split at h
 .cases h;exact .non
 .cases h;exact .bl _
 .cases h;exact .int _
 .cases h;exact .str _
 .split at h
  .rename_i e;cases h;exact .lst e
  .rename_i e;cases h;exact .tup e
  .rename_i e;cases h;exact .dct (.inl e)
  .rename_i e;cases h;exact .dct (.inr ⟨_,e⟩)
  .cases h
 .cases h
abbrev xR:V->Bool
 | ul _=>true
 |_=>false
abbrev rZ:V->Bool
 | ul i=>decide (0<=i)&&decide (i<=1000000000)
 |_=>false
def bR (hk:1<=k)(ht:tyName v H=some t)(q:Q (.bl (xR v)) H):ab tab R k 5 [v] H Q E:=by
 delta gc;right;cases jN ht
 all_goals
  refine mh ht rfl ?_;right
  first
   |exact q
   |(refine mh ht rfl ?_;right;exact q)
def dF (ro:Ro K R)(hk:2<=k)(ht:tyName v H=some t)(q:Q (.bl (rZ v)) H):ab tab R k 6 [v] H Q E:=by
 delta du;right;refine bR nofun ht ?_;cases jN ht
 case int i=>
  right;refine ay (λh0=>?_) (λh0=>?_)
  .left;simp only[ro.g_BOUND];right;have e:rZ (ul i)=decide (i<=1000000000):=by simp[rZ,h0]
   rw[e]at q;exact q
  .right;have e:rZ (ul i)=false:=by simp[rZ,h0]
   rw[e]at q;exact q
 all_goals
  right;exact q
def sA {x:V}:(s0 (Int.toNat (n:Int)) [x]).flatten=s0 n x:=by
 rw[pi]
 induction n with
 |zero=>rfl
 |succ n ih=>rw[replicate_succ,flatten_cons,ih];rfl
abbrev qX (C:Addr)(fs:List (Str×V))(x:Addr)(fr:Bool):aB:=ex λd:Addr=>kK (pt x (.exc C (some d) fs fr)) (pt d (.own x))
def qV {C x d:Addr}{fr:Bool}(s:Sep (pt x (.exc C (some d) fs fr)::pt d (.own x)::O) H):Sep (qX C fs x fr::O) H:=Sep.AN.mpr ⟨d,Sep.star.mpr s⟩
def vh {C x:Addr}{fr:Bool}(s:Sep (qX C fs x fr::O) H):∃ d,Sep (pt x (.exc C (some d) fs fr)::pt d (.own x)::O) H:=let⟨d,s⟩:=Sep.AN.mp s;⟨d,Sep.star.mp s⟩
abbrev gf (w:Str):Bool:="open" ==w||("look" ==w||("shut" ==w||false))
def ph:(10:Int) ^ Int.toNat 9=1000000000:=by decide
local macro_rules| `(tactic|walk_at "dr")=>`(tactic|(refine' k4 ?k ?s ?m ?a ?b (λr H hr0 hr1 hs=>?_);(case s=>walk_at "sp");(case k=>exact nofun);(case m=>omega);(case a=>walk_at "ar");(case b=>walk_at "ar")))
local macro_rules| `(tactic|walk_at "gd")=>`(tactic|(walk_at "w";repeat(first|(walk_at "st";walk_at "w")|(walk_at "dr";walk_at "w"))))
def ic (hk:2<=k)(s:Sep (hand h m::O) H)(hm:m<=1099511000000)(q:∀ i H',0<=i->i<=1000000000->Sep (hand h (m+3)::O) H'->Q (ul i) H'):ab tab R k 24 [tz h] H Q E:=by
 delta cB;walk_at "gd";refine a6 (λh0=>?_) (λh0=>?_)
 .walk_at "gd";rename_i r H2 hr0 hr1 hs2;exact q _ _ nofun nofun (au hs2 nofun)
 walk_at "gd";refine a6 (λh1=>?_) (λh1=>?_)
 .walk_at "gd";rename_i r H2 hr0 hr1 hs2;exact q _ _ (by rw[ph];omega) (by rw[ph];omega) (au hs2 nofun)
 walk_at "gd";refine a6 (λh2=>?_) (λh2=>?_)
 .walk_at "gd";rename_i r H2 hr0 hr1 hs2;exact q _ _ nofun nofun (au hs2 nofun)
 walk_at "gd";rename_i r H2 hr0 hr1 hs2 r' H3 hr0' hr1' hs3;rw[ph];exact q _ _ nofun nofun (au hs3 nofun)
abbrev cU (ns:List Int):Prop:=∀ i ∈ ns,0<=i/\i<=1000000000
def lp (h:cU ns)(h0:0<=i)(h1:i<=1000000000):cU (ns++[i]):=λj hj=>by
 rcases mem_append.mp hj with hj|hj
 .exact h j hj
 .rw[mem_singleton.mp hj];exact⟨h0,h1⟩
def uL {M:Int}(hk:3<=k)(s:Sep (hand h m::O) H)(hm:m<=1099510000000)(hM0:1<=M)(hM1:M<=60)(q:∀ p ns H',1<=ns.length->(ns.length:Int)<=M->cU ns->Sep (pt p (v6 (ns.map ul))::hand h (m+300)::O) H'->Q (tz p) H'):ab tab R k 25 [tz h,ul M] H Q E:=by
 delta dy;walk_at "gd";rename_i wy H1 wy0 wy1 hs1 mn H2 mn0 mn1 hs2;have st:∀ {D:Addr},H2 D=none->(∃ ns,([]:List V)=ns.map ul/\cU ns)/\Sep (pt D (v6 [])::hand h (m+2+4*((([]:List V).length:Nat):Int))::O) (upd H2 D (v6 [])):=λ{D} hD=>by
  refine⟨⟨[],rfl,λi hi=>absurd hi (by simp)⟩,?_⟩;have s1:=hs2.new (o:=v6 []) hD;exact(au (s1.pull .k1) (by simp;omega)).pull .k1
 have sp:∀ {D:Addr}{ys:List V}{i n:Int}{x:Option V}{rest:St}{H:Hp},((ys.length:Nat):Int)<1+mn->(∃ ns,ys=ns.map ul/\cU ns)->0<=i->i<=1000000000->n<=m+2+4*((ys.length+1:Nat):Int)->Sep (hand h n::pt D (v6 ys)::O) H->fX (λD ys H=>(∃ ns,ys=ns.map ul/\cU ns)/\Sep (pt D (v6 ys)::hand h (m+2+4*((ys.length:Nat):Int))::O) H) D ys rest x (ul i) H:=λ{D ys i n x rest H} hl hI h0 h1 hn hs=>by
  obtain⟨ns,e,hc⟩:=hI;refine fX.mk (by grind) nofun ⟨⟨ns++[i],by rw[e];simp,lp hc h0 h1⟩,?_⟩;have hs7:=(hs.pull .k1).set (o':=v6 (ys++[ul i])) rfl;refine(au (hs7.pull .k1) ?_).pull .k1;rw[ci];exact hn
 have fi:∀ {D:Addr}{ys:List V}{H:Hp},ys.length=(1+mn).toNat->((∃ ns,ys=ns.map ul/\cU ns)/\Sep (pt D (v6 ys)::hand h (m+2+4*((ys.length:Nat):Int))::O) H)->Q (tz D) H:=λ{D ys H} hl hI=>by
  obtain⟨⟨ns,rfl,hc⟩,hs⟩:=hI;rw[ce]at hl;refine q D ns H nofun nofun hc ?_;exact(au (hs.pull .k1) (by rw[ce];omega)).pull .k1
 refine a6 (λh0=>?_) (λh0=>?_)
 .walk_at "gd";refine lq (n:=(1+mn).toNat) nofun (λD ys H=>(∃ ns,ys=ns.map ul/\cU ns)/\Sep (pt D (v6 ys)::hand h (m+2+4*((ys.length:Nat):Int))::O) H) (λD hD=>st hD) (λD ys H hl hI=>?_) (λD ys H hl hI=>fi hl hI);obtain⟨hI,hs⟩:=hI;walk_at "gd";rename_i r H6 r0 r1 hs6;exact sp nofun hI nofun nofun nofun hs6
 walk_at "gd";refine a6 (λh1=>?_) (λh1=>?_)
 .walk_at "gd";refine lq (n:=(1+mn).toNat) nofun (λD ys H=>(∃ ns,ys=ns.map ul/\cU ns)/\Sep (pt D (v6 ys)::hand h (m+2+4*((ys.length:Nat):Int))::O) H) (λD hD=>st hD) (λD ys H hl hI=>?_) (λD ys H hl hI=>fi hl hI);obtain⟨hI,hs⟩:=hI;walk_at "gd";rename_i r H6 r0 r1 hs6;exact sp nofun hI nofun nofun nofun hs6
 walk_at "gd";refine lq (n:=(1+mn).toNat) nofun (λD ys H=>(∃ ns,ys=ns.map ul/\cU ns)/\Sep (pt D (v6 ys)::hand h (m+2+4*((ys.length:Nat):Int))::O) H) (λD hD=>st hD) (λD ys H hl hI=>?_) (λD ys H hl hI=>fi hl hI);obtain⟨hI,hs⟩:=hI;walk_at "gd";refine ic nofun (hs.pull .k1) nofun (λi H i0 i1 hs=>?_);exact sp nofun hI i0 i1 nofun hs
abbrev yE:List Str:=["here","there","left","way","sign","met"]
abbrev k8:V->Bool
 | ul i=>decide (-1000000000<=i)&&decide (i<=1000000000)
 |_=>false
abbrev nK (a b:Int):V->Bool
 | ul i=>i ==a||i ==b
 |_=>false
abbrev bI:Nat->V->Bool
 |0,v=>k8 v
 |1,v=>k8 v
 |3,v=>nK 1 (-1) v
 |5,v=>nK 0 1 v
 |_,v=>rZ v
def fc (ro:Ro K R)(hk:2<=k)(ht:tyName v H=some t)(q:Q (.bl (k8 v)) H):ab tab R k 7 [v] H Q E:=by
 delta eX;right;refine bR nofun ht ?_;cases jN ht
 case int i=>
  left;refine cP rfl ?_;left;simp only[ro.g_BOUND];right;refine ay (λh0=>?_) (λh0=>?_)
  .left;simp only[ro.g_BOUND];right;have e:k8 (ul i)=decide (i<=1000000000):=by simp[k8,h0]
   rw[e]at q;exact q
  .right;have e:k8 (ul i)=false:=by simp[k8,h0]
   rw[e]at q;exact q
 all_goals
  right;exact q
def rm (h:yE[j]? =some x):(j=0/\x="here")\/(j=1/\x="there")\/(j=2/\x="left")\/(j=3/\x="way")\/(j=4/\x="sign")\/(j=5/\x="met"):=by
 rcases j with _|_|_|_|_|_|j
 .cases h;exact .inl ⟨rfl,rfl⟩
 .cases h;exact .inr (.inl ⟨rfl,rfl⟩)
 .cases h;exact .inr (.inr (.inl ⟨rfl,rfl⟩))
 .cases h;exact .inr (.inr (.inr (.inl ⟨rfl,rfl⟩)))
 .cases h;exact .inr (.inr (.inr (.inr (.inl ⟨rfl,rfl⟩))))
 .cases h;exact .inr (.inr (.inr (.inr (.inr ⟨rfl,rfl⟩))))
 .exact absurd h (by simp[yE])
local macro_rules| `(tactic|walk_at "sc")=>`(tactic|first|(refine cP (by decide+kernel) ?_;walk_at "go")|(refine a7 (by decide+kernel) ?_;walk_at "go"))
def pB (ro:Ro K R)(hk:3<=k)(hj:yE[j]? =some x)(ht:tyName v H=some t)(q:Q (.bl (bI j v)) H):ab tab R k 8 [ut x,v] H Q E:=by
 delta rJ;rcases rm hj with⟨rfl,rfl⟩|⟨rfl,rfl⟩|⟨rfl,rfl⟩|⟨rfl,rfl⟩|⟨rfl,rfl⟩|⟨rfl,rfl⟩
 all_goals right
 all_goals repeat walk_at "sc"
 .exact fc ro nofun ht q
 .exact fc ro nofun ht q
 .exact dF ro nofun ht q
 .refine bR nofun ht ?_;cases jN ht
  case int i=>
   right;refine a6 (λh0=>?_) (λh0=>?_)
   .right;have e:bI 3 (ul i)=true:=by simp[bI,nK,h0]
    rw[e]at q;exact q
   .right;have e:bI 3 (ul i)=(i == -1):=by simp[bI,nK,h0]
    rw[e]at q;exact q
  all_goals
   right;exact q
 .exact dF ro nofun ht q
 .refine bR nofun ht ?_;cases jN ht
  case int i=>
   right;refine a6 (λh0=>?_) (λh0=>?_)
   .right;have e:bI 5 (ul i)=true:=by simp[bI,nK,h0]
    rw[e]at q;exact q
   .right;have e:bI 5 (ul i)=(i ==1):=by simp[bI,nK,h0]
    rw[e]at q;exact q
  all_goals
   right;exact q
abbrev b2i (c:Bool):Int:=match c with
 |true=>1
 |false=>0
def uS {c:Bool}(q:Q (ul (b2i c)) H):gN G .int [.bl c] H Q:=by
 unfold gN;refine .inl (.inr ⟨c,rfl,?_⟩);cases c<;>exact q
local macro_rules| `(tactic|walk_at "ag")=>`(tactic|first|refine wargs2 (vs':=[_,_]) rfl ?_|refine wargs2 (vs':=[_,_,_]) rfl ?_|refine wargs2 (vs':=[_]) rfl ?_|refine wargs2 (vs':=[_,_,_,_]) rfl ?_)
local macro_rules| `(tactic|walk_at "mt")=>`(tactic|first|((with_reducible refine' meth_go Ob_bx ?s ?p ?m ?f ?_);(case s=>with_reducible assumption);(case p=>symm);(case m=>exact rfl);(case f=>exact rfl))|((with_reducible refine' meth_go Ob_sto ?s ?p ?m ?f ?_);(case s=>with_reducible assumption);(case p=>symm);(case m=>exact rfl);(case f=>exact rfl)))
local macro_rules| `(tactic|walk_at "hq")=>`(tactic|((with_reducible (first|refine' ho_h ?r ?k ?s ?p ?_|refine' ho_t ?r ?k ?s ?p ?_|refine' ho_l ?r ?k ?s ?p ?_|refine' ho_w ?r ?k ?s ?p ?_|refine' ho_s ?r ?k ?s ?p ?_|refine' ho_m ?r ?k ?s ?p ?_));(case r=>with_reducible assumption);(case k=>exact nofun);(case s=>with_reducible assumption);(case p=>symm)))
local macro_rules| `(tactic|walk_at "gq")=>`(tactic|((with_reducible (first|refine' gi_h ?r ?k ?s ?p ?i (λH hs=>?_)|refine' gi_t ?r ?k ?s ?p ?i (λH hs=>?_)|refine' gi_l ?r ?k ?s ?p ?i (λH hs=>?_)|refine' gi_m ?r ?k ?s ?p ?i (λH hs=>?_)));(case r=>with_reducible assumption);(case k=>exact nofun);(case s=>with_reducible assumption);(case p=>ac_rfl);(case i=>omega)))
local macro_rules| `(tactic|walk_at "ws")=>`(tactic|(walk_at "w";repeat(first|(walk_at "st";walk_at "w")|(walk_at "mt";walk_at "w")|(walk_at "ag";(walk_at "hq");walk_at "w")|(walk_at "ag";(walk_at "gq");walk_at "w"))))
local macro_rules| `(tactic|walk_at "sc")=>`(tactic|first|(refine cP (by decide+kernel) ?_;walk_at "go")|(refine a7 (by decide+kernel) ?_;walk_at "go"))
abbrev dr (ws:List Str):Prop:=∀ w ∈ ws,gf w=true
def kf (h:dr ws)(hw:gf w=true):dr (ws.set n w):=λx hx=>by
 rcases List.mem_or_eq_of_mem_set hx with hx|rfl
 .exact h x hx
 .exact hw
def oE (hk:2<=k)(hm:m<=1099511000000)(h1:1<=n)(h60:n<=60)(s:Sep (hand h m::O) H)
  (q:∀ p ws H',ws.length=n->dr ws->Sep (pt p (v6 (ws.map ut))::hand h (m+20)::O) H'->Q (tz p) H'):ab tab R k 26 [tz h,ul n] H Q E:=by
 delta cM;walk_at "gd";rename_i l H1 hs1 b H2 hs2 l2 H3 hs3 r H4 r0 r1 hs4;rw[sA,show s0 n (ut "open")=(s0 n ("open":Str)).map ut by rw[List.map_replicate]]at hs4;obtain⟨v,hv,hmem⟩:=dB (xs:=[ul 0,ul 0,ul 1,ul 2,ul 4]) r0 (by simpa using r1);refine ba (by grind) hv ?_;obtain⟨M,rfl,M0,M1⟩:∃ M:Int,v=ul M/\0<=M/\M<=4:=by
  simp only[lf,not_mem_nil,or_false]at hmem;rcases hmem with rfl|rfl|rfl|rfl|rfl
  .exact⟨_,rfl,by omega,by omega⟩
  .exact⟨_,rfl,by omega,by omega⟩
  .exact⟨_,rfl,by omega,by omega⟩
  .exact⟨_,rfl,by omega,by omega⟩
  .exact⟨_,rfl,by omega,by omega⟩
 have hs5:Sep (pt b (v6 ((s0 n ("open":Str)).map ut))::hand h (m+1)::O) H4:=hs4.sub (by ac_nf);clear hs1 hs2 hs3 hs4 hv hmem;walk_at "gd";refine bK (n:=M.toNat) (λj U H=>∃ y3 y4 y5 y6,∃ ws:List Str,U=[some (tz h),some (ul n),some (tz b),y3,y4,y5,y6]/\ws.length=n/\dr ws/\Sep (pt b (v6 (ws.map ut))::hand h (m+1+3*(j:Int))::O) H) ?_ ?_ ?_
 .refine⟨_,_,_,_,_,rfl,List.length_replicate ..,λw hw=>?_,(au (n:=m+1+3*((0:Nat):Int)) (hs5.pull .k1) nofun).pull .k1⟩;rw[(List.mem_replicate.mp hw).2]
  decide
 .rintro j U H hj ⟨y3,y4,y5,y6,ws,rfl,hl,hw,hs⟩;clear hs5;walk_at "gd";rename_i l4 H5 hs5 x H6 x0 x1 hs6;obtain⟨v,hv,hmem⟩:=dB (xs:=[ut "look",ut "shut",ut "look",ut "open"]) x0 (by simpa using x1);refine ba (by grind) hv ?_;obtain⟨wd,rfl,hwd⟩:∃ wd,v=ut wd/\gf wd=true:=by
   simp only[lf,not_mem_nil,or_false]at hmem;rcases hmem with rfl|rfl|rfl|rfl<;>exact⟨_,rfl,by decide⟩
  walk_at "gd";rename_i lo H7 lo0 lo1 hs7 d H8 d0 d1 hs8;have hs9:Sep (pt b (v6 (ws.map ut))::hand h (m+1+3*((j+1:Nat):Int))::O) H8:=(au (n:=m+1+3*((j+1:Nat):Int)) (hs8.pull (A:=hand h (m+1+3*(j:Int)+1+1+1)) (by symm)) nofun).sub (by ac_nf);clear hs hs5 hs6 hs7 hs8 hv hmem;refine bK (λi U H=>∃ y6,∃ ws:List Str,U=[some (tz h),some (ul n),some (tz b),some (ul (0+(j:Int))),some (ut wd),some (ul lo),y6]/\ws.length=n/\dr ws/\Sep (pt b (v6 (ws.map ut))::hand h (m+1+3*((j+1:Nat):Int))::O) H) ?_ ?_ ?_
  .exact⟨_,ws,rfl,hl,hw,hs9⟩
  .rintro i U H hi ⟨y6,ws,rfl,hl,hw,hs⟩;right;refine kC hs (by ac_rfl) (lb nofun (by rw[ce];omega)) rfl (λH hs=>?_);right;rw[<-List.map_set]at hs;exact⟨_,_,rfl,by rw[length_set];exact hl,kf hw hwd,hs⟩
  .rintro U H ⟨y6,ws,rfl,hl,hw,hs⟩;right;exact⟨_,_,_,_,ws,rfl,hl,hw,hs⟩
 .rintro U H ⟨y3,y4,y5,y6,ws,rfl,hl,hw,hs⟩;right;exact q b ws H hl hw ((au (n:=m+20) (hs.pull .k1) nofun).pull .k1)
abbrev nE (n:Nat):List Nat:=(Nat.toDigits 10 n).map Char.toNat
def sW:∀ d:Nat,d<10->(Nat.digitChar d).toNat=48+d:=by decide
def iJ (h:n<10):nE n=[48+n]:=by
 unfold nE;rw[Nat.toDigits_of_lt_base h,List.map_singleton,sW n h]
def jx (h:10<=n):nE n=nE (n / 10)++[48+n % 10]:=by
 have hm:n % 10<10:=Nat.mod_lt n (by decide);have t:Nat.toDigits 10 (n / 10)++Nat.toDigits 10 (n % 10)=Nat.toDigits 10 (10*(n / 10)+n % 10):=Nat.toDigits_append_toDigits (by decide) nofun hm;rw[Nat.div_add_mod]at t;rw[<-iJ hm];unfold nE;rw[<-t,dL]
def p9:∀ {n:Nat},∃ c r,nE n=c::r/\48<=c:=by
 intro n
 induction n using Nat.strongRecOn with
 |_ n ih=>
  by_cases h:n<10
  .exact⟨_,_,iJ h,by omega⟩
  .obtain⟨c,r,e,hc⟩:=ih (n / 10) nofun;exact⟨c,_,by rw[jx nofun,e];rfl,hc⟩
def uE (m:Nat):(Str.ofString (toString (m:Int))).cps.toList=nE m:=W.KIN.signs_num m
def ue (m:Nat):(Str.ofString (toString (Int.negSucc m))).cps.toList=45::nE (m+1):=by
 rw[PyProof.Rows.signs_ofString];show(("-"++Nat.repr (m+1)).toList).map Char.toNat=_;rw[String.toList_append,Nat.toList_repr,dL]
 rfl
abbrev gF:Str:=⟨#[32]⟩
def join_cons {s y:Str}{r:List Str}:(Str.join s (x::y::r)).cps.toList=x.cps.toList++(s.cps.toList++(Str.join s (y::r)).cps.toList):=by
 show(x++s++Str.join s (y::r):Str).cps.toList=_;rw[W.KT.app_list,W.KT.app_list,io]
def ky (x:Str)(c:Nat):Txt.split x ⟨#[c]⟩≠[]:=by
 intro h;have e:x=Str.empty:=(StrLaws.join_split x ⟨#[c]⟩).symm.trans (by rw[h];rfl);subst e;have h0:Txt.split Str.empty ⟨#[c]⟩=[Str.empty]:=if_pos (by rw[show decide (Str.empty.length<(⟨#[c]⟩:Str).length)=true from rfl,Bool.true_or]);rw[h0]at h;cases h
abbrev nw (i:Int):Str:=Str.ofString (toString i)
def xy (n:Nat):nE n≠[]:=λh=>by
 obtain⟨c,r,e,_⟩:=p9 (n:=n);rw[e]at h;cases h
def iZ:∀ (k n:Nat),n<10 ^ (k+1)->(nE n).length<=k+1
 |0,n,h=>by rw[iJ (by simpa using h)];exact pc _
 |k+1,n,h=>by
  by_cases g:n<10
  .rw[iJ g];exact Nat.succ_le_succ (Nat.zero_le _)
  .rw[jx nofun,ci];have:=iZ k (n / 10) (by rw[Nat.div_lt_iff_lt_mul (by decide)];rw[<-Nat.pow_succ];exact h);exact Nat.succ_le_succ this
def xt (m:Nat):(nw (m:Int)).cps.toList=nE m:=uE m
def xk (m:Nat):(nw (Int.negSucc m)).cps.toList=45::nE (m+1):=ue m
def vO (h:i.natAbs<=1000000000):(nw i).length<=11/\1<=(nw i).length:=by
 have e:(nw i).length=(nw i).cps.toList.length:=Array.length_toList.symm;rw[e];cases i with
 |ofNat m=>
  have:=iZ 9 m (by simp at h;omega);rw[show(nw (Int.ofNat m)).cps.toList=nE m from xt m];have:=length_pos_iff.mpr (xy m)
  omega
 |negSucc m=>
  have:=iZ 9 (m+1) (by simp[Int.natAbs]at h;omega);rw[xk,length_cons]
  omega
def pq (h0:0<=r)(h1:r<xs.length)(h:∀ v ∈ xs,P v):∃ v,fg xs r=some v/\P v:=by
 obtain⟨v,hv,hm⟩:=dB h0 h1;exact⟨v,hv,h v hm⟩
abbrev inR (lo hi:Int)(v:V):Prop:=∃ i,v=ul i/\lo<=i/\i<=hi
def inR.mk {lo hi:Int}(h0:lo<=i)(h1:i<=hi):inR lo hi (ul i):=⟨i,rfl,h0,h1⟩
def B1 {a b:V}(ha:P a)(hb:P b):∀ v ∈ [a,b],P v:=λv hv=>by
 simp only[lf,not_mem_nil,or_false]at hv;rcases hv with rfl|rfl<;>assumption
abbrev aX:Nat->gT->gT
 |0,b=>b
 |n+1,.cons _ r=>aX n r
 |_+1,.nil=>.nil
def Ab {i j:Str}{b:Bool}(e:(!(Builtin.Str.occurrences j i 0 j.length 1).isEmpty)=b)(q:Q (.bl b) H):qr K false (ut i) (ut j) H Q:=by unfold qr;exact⟨i,rfl,by rw[if_neg (by decide),e];exact q⟩
def bO (hz:z.length<=100000)(q:Q (ul z.length) H):gN G .len [ut z] H Q:=by unfold gN;exact⟨_,z.length,rfl,⟨dI nofun,rfl⟩,q⟩
abbrev jc (c:Nat):Bool:=decide (48<=c)&&decide (c<=57)
abbrev gJ:List Nat->List Nat
 |45::r=>r
 |l=>l
abbrev lE (l F:List Nat):Bool:=decide (1<=F.length)&&(decide (F.length<=10)&&(F.all jc&&(decide (l=[48])|| !(F[0]? ==some 48))))
abbrev nZ (w:Str):Bool:=lE w.cps.toList (gJ w.cps.toList)
abbrev lg:List Nat->Int
 |45::r=>-((PySem.NumText.digitsVal r:Nat):Int)
 |l=>((PySem.NumText.digitsVal l:Nat):Int)
abbrev c5 (w:Str):Option Int:=if nZ w then some (lg w.cps.toList) else none
abbrev iO:Option Int->V
 |some i=>ul i
 |none=>v0
def l9 {y:Str}(e:y=⟨#[c]⟩):Txt.startswith z y=(z.cps.toList[0]? ==some c):=by
 subst e;unfold Txt.startswith
 rw[Bool.eq_iff_iff,li,decide_eq_true_eq,StrLaws.subAt_one,beq_iff_eq]
def kq {r:List Nat}(e:z.cps.toList=c::r):(dk z (some 1) none).cps.toList=r:=by
 have hl:z.length=r.length+1:=by
  have:z.cps.toList.length=z.length:=Array.length_toList;rw[<-this,e,length_cons]
 show((z.cps.toList.drop (HT.bB z.length 0 (some 1))).take (HT.bB z.length z.length none-HT.bB z.length 0 (some 1))).toArray.toList=r;have h1:HT.bB z.length 0 (some 1)=1:=by
  show(if(1:Int)<0 then((1:Int)+(z.length:Int)).toNat else min (1:Int).toNat z.length)=1;rw[if_neg (by decide)];have:(1:Int).toNat=1:=rfl
  omega
 rw[h1,show HT.bB z.length z.length none=z.length from rfl,e,List.drop_one,List.tail_cons,hl];exact take_of_length_le nofun
def Bw:("0123456789":Str).cps.toList=[48,49,50,51,52,53,54,55,56,57]:=by decide+kernel
def mi (q:Q (.bl (jc c)) H):qr K false (ut ⟨#[c]⟩) (ut ("0123456789":Str)) H Q:=by
 refine Ab (b:=jc c) ?_ q;rw[StrLaws.found_one,Bw];unfold jc;rw[Bool.eq_iff_iff,decide_eq_true_eq,li,decide_eq_true_eq,decide_eq_true_eq];simp only[lf,not_mem_nil,or_false]
 omega
def bW (w:Str):w.length=w.cps.toList.length:=Array.length_toList.symm
def vk {f:Str}{F:List Nat}(ro:Ro K R)(z:Sep O H)(hfl:f.length<=100000)(hf:f.cps.toList=F)(q:∀ H',Sep O H'->Q (.bl (lE w.cps.toList F)) H'):
  wB (aX 1 bL.body) ⟨tab,R,ab tab R (k-1),true⟩ { nx:=λ_ H'=>Q v0 H',rt:=Q } (λ_=>E) [some (ut w),some (ut f)] H:=by
 have hl:f.length=F.length:=by rw[<-hf];exact bW f
 right;refine bO (z:=f) nofun ?_;right;refine ay (λg1=>?_) (λg1=>?_)
 rotate_left
 .right;refine cast (congrArg (λb=>Q (.bl b) H) ?_) (q _ z);unfold lE;rw[decide_eq_false nofun]
  rfl
 right;simp only[ro.g_MOST_FIGURES];right;refine ay (λg2=>?_) (λg2=>?_)
 rotate_left
 .right;refine cast (congrArg (λb=>Q (.bl b) H) ?_) (q _ z);unfold lE;rw[decide_eq_true nofun,decide_eq_false nofun]
  rfl
 right;refine eD (z:=f) (by show f.length<=1000;omega) (λD ys H=>ys=(F.map λc=>V.bl (jc c)).take ys.length/\Sep (pt D (v6 ys)::O) H) (λD hD=>⟨rfl,z.new (o:=v6 []) hD⟩) (λD ys c H hc hI=>?_) (λD ys H hl2 hI=>?_)
 .obtain⟨e,z1⟩:=hI;have hcm:F[ys.length]? =some c:=by rw[<-hf,Array.getElem?_toList];exact hc
  right;simp only[ro.g_FIGURES];left;refine mi ?_;have hyl:ys.length<F.length:=(sn.mp hcm).1;refine fX.mk z1.at nofun ⟨?_,z1.set rfl⟩;rw[ci,f8,take_add_one,<-e,ii,hcm]
  rfl
 .obtain⟨e,z1⟩:=hI;rw[hl2,show f.cps.size=F.length from hl,take_of_length_le (by rw[ce];exact pc _)]at e;subst e;left;refine qR (bs:=F.map jc) (K:=K) rfl (by rw[z1.at,List.map_map];rfl) ?_;have z2:=z1.drop;rw[show(F.map jc).all id=F.all jc by rw[List.all_map];rfl]
  by_cases g3:F.all jc=true
  .rw[g3];right;have e0:lE w.cps.toList F=(decide (w.cps.toList=[48])|| !(F[0]? ==some 48)):=by
    unfold lE;rw[decide_eq_true nofun,decide_eq_true nofun,g3]
    rfl
   rw[e0]at q;have e1:gR (ut w) (ut (Str.ofString "0"))=decide (w.cps.toList=[48]):=by
    show(w ==Str.ofString "0")=_;rw[Bool.eq_iff_iff,beq_iff_eq,decide_eq_true_eq];refine⟨λe=>by rw[e];decide+kernel,λe=>PyProof.Rows.ext_toList (e.trans (by decide+kernel))⟩
   rw[e1]
   by_cases g4:w.cps.toList=[48]
   .rw[decide_eq_true g4]at q⊢;refine cP rfl ?_;right;exact q _ z2
   .rw[decide_eq_false g4]at q⊢;refine a7 rfl ?_;right;refine⟨_,rfl,?_⟩;left;refine g6 ?_;right;rw[l9 (c:=48) (by decide+kernel),hf];exact q _ z2
  .have g3:F.all jc=false:=by simpa using g3
   rw[g3];right;refine cast (congrArg (λb=>Q (.bl b) H) ?_) (q _ z2);unfold lE;rw[decide_eq_true nofun,decide_eq_true nofun,g3]
   rfl
def zP (ro:Ro K R)(hk:1<=k)(z:Sep O H)(hw:w.length<=100000)(q:∀ H',Sep O H'->Q (.bl (nZ w)) H'):ab tab R k 9 [ut w] H Q E:=by
 delta bL;right;refine⟨_,rfl,?_⟩;left;refine g6 ?_;rw[l9 (c:=45) (by decide+kernel)];unfold nZ at q
 by_cases h:∃ r,w.cps.toList=45::r
 .obtain⟨r,e⟩:=h;have e2:=kq e;have e3:=dR w (some 1) none;rw[show(w.cps.toList[0]? ==some 45)=true by rw[e];rfl];refine cP rfl ?_;left;refine v9 (z:=w) nofun ?_;left;refine vk (w:=w) (k:=k) ro z nofun e2 (λH' z'=>?_);rw[show gJ w.cps.toList=r by rw[e];rfl]at q;exact q H' z'
 .have g:(w.cps.toList[0]? ==some 45)=false:=beq_eq_false_iff_ne.mpr λe=>h (by
   cases hL:w.cps.toList with
   |nil=>rw[hL]at e;cases e
   |cons c r=>rw[hL]at e;exact⟨r,by rw[show c=45 from Option.some.inj e]⟩)
  rw[g];refine a7 rfl ?_;left;refine vk (w:=w) (f:=w) (k:=k) ro z hw rfl (λH' z'=>?_);have e:gJ w.cps.toList=w.cps.toList:=by
   cases hL:w.cps.toList with
   |nil=>rfl
   |cons c r=>
    unfold gJ
    split
    .rename_i hh;exact absurd ⟨_,hL.trans hh⟩ h
    .rfl
  rw[e]at q;exact q H' z'
def iQ (h:nZ w=true):PySem.intText? w=some (lg w.cps.toList)/\w.length<=11:=by
 have hlw:=bW w;unfold nZ lE at h;simp only[li,decide_eq_true_eq]at h;obtain⟨h1,h2,h3,_⟩:=h;have ad:∀ F:List Nat,F.all jc=true->PySem.NumText.AllDigits F:=λF hF c hc=>by
  have:=all_eq_true.mp hF c hc;unfold jc at this;simpa using this
 by_cases g:∃ r,w.cps.toList=45::r
 .obtain⟨r,e⟩:=g;rw[e]at h1 h2 h3 hlw;have h1:1<=r.length:=h1;have h2:r.length<=10:=h2;rw[length_cons]at hlw;refine⟨?_,by omega⟩;rw[PySem.intText_neg e (ad r h3) (length_pos_iff.mp h1) nofun,e]
  rfl
 .have e:gJ w.cps.toList=w.cps.toList/\lg w.cps.toList=((PySem.NumText.digitsVal w.cps.toList:Nat):Int):=by
   cases hL:w.cps.toList with
   |nil=>exact⟨rfl,rfl⟩
   |cons c r=>
    constructor
    .unfold gJ
     split
     .rename_i hh;exact absurd ⟨_,hL.trans hh⟩ g
     .rfl
    .unfold lg
     split
     .rename_i hh;exact absurd ⟨_,hL.trans hh⟩ g
     .rfl
  rw[e.1]at h1 h2 h3;refine⟨?_,by omega⟩;rw[PySem.intText_digits (ad _ h3) (length_pos_iff.mp h1) nofun,e.2]
def tH (ro:Ro K R)(hk:2<=k)(z:Sep O H)(hw:w.length<=100000)(q:∀ H',Sep O H'->Q (iO (c5 w)) H'):ab tab R k 10 [ut w] H Q E:=by
 delta cC;right;refine fB ?_;right;refine zP ro nofun z hw λH1 z1=>?_
 unfold c5 at q
 by_cases h:nZ w=true
 .obtain⟨e1,e2⟩:=iQ h;rw[h]at q⊢;right;refine cF (z:=w) e1 nofun ?_;right;exact q _ z1
 .have h:nZ w=false:=by simpa using h
  rw[h]at q⊢;right;exact q _ z1
def xW (hk:2<=k)(q:Q v0 H):ab tab R k 10 [v0] H Q E:=by
 delta cC;right;refine fB ?_;right;exact q
abbrev fv (R:Rt)(dx q:Addr)(n:Nat):HO:=wn (R.cad 6) dx [("queue",tz q),("at",ul (n:Int))]
abbrev aK (ws:List Str):HO:=v6 (ws.map ut)
def vE (h:ws[n]? =some w):fg (ws.map ut) (n:Int)=some (ut w):=by
 have hn:n<ws.length:=(sn.mp h).1;have e:nj ws.length (n:Int)=some n:=by unfold nj;simp;omega
 unfold fg;simp[h,ce,e]
def bA {x:Addr}(hk:1<=k)(s:Sep (pt x (.exc (R.cad 4) none [] true)::O) H)(q:∀ d H',Sep (pt x (.exc (R.cad 4) (some d) [("at",v)] true)::pt d (.own x)::O) H'->Q v0 H'):ab tab R k 3 [tz x,v] H Q E:=by
 delta bj;right;refine⟨_,4,_,_,_,_,rfl,by grind,rfl,?_⟩;right;refine zu s rfl rfl (λd H hs=>?_);right;exact q d H hs
abbrev wO:Option Str->V
 |some w=>ut w
 |none=>v0
section
variable {a dx qa:Addr}{n:Nat}{ws:List Str}{w:Str}
def f9 (hk:1<=k)(z:Sep (pt a (fv R dx qa n)::pt qa (aK ws)::O) H)(q:Q (wO ws[n]?) H):ab tab R k 13 [tz a] H Q E:=by
 delta cw;have e1:=z.at;have e2:=(z.pull .k1).at;unfold fv at e1;unfold aK at e2;right;refine b6 e1 rfl rfl rfl ?_;right;refine b6 e1 rfl rfl rfl ?_;right;refine aw e2 ?_;right
 by_cases hn:n<ws.length
 .obtain⟨w,hw⟩:∃ w,ws[n]? =some w:=⟨_,jp hn⟩;rw[hw]at q;refine cP (decide_eq_true (by rw[ce];omega)) ?_;right;refine b6 e1 rfl rfl rfl ?_;right;refine b6 e1 rfl rfl rfl ?_;right;refine ba e2 (vE hw) ?_;right;exact q
 .rw[List.getElem?_eq_none nofun]at q;refine a7 (decide_eq_false (by rw[ce];omega)) ?_;right;exact q
def kH (hk:1<=k)(z:Sep (pt a (fv R dx qa n)::pt qa (aK ws)::O) H)(hw:ws[n]? =some w)(q:∀ H',Sep (pt a (fv R dx qa (n+1))::pt qa (aK ws)::O) H'->Q (ut w) H'):ab tab R k 14 [tz a,.bl true] H Q E:=by
 delta bq;have e1:=z.at;have e2:=(z.pull .k1).at;unfold fv at e1;unfold aK at e2;right;refine b6 e1 rfl rfl rfl ?_;right;refine b6 e1 rfl rfl rfl ?_;right;refine ba e2 (vE hw) ?_;right;refine b6 e1 rfl rfl rfl ?_;right;refine yZ z .e rfl rfl (by show 2<1000;omega) (fs':=[("queue",tz qa),("at",ul ((n+1:Nat):Int))]) ?_ λH1 z1=>?_
 .rfl
 right;exact q _ z1
def bP (hk:2<=k)(z:Sep (pt a (fv R dx qa n)::pt qa (aK ws)::O) H)(r:∀ e H',Sep (qX (R.cad 4) [("at",ul (n:Int))] e false::O) H'->E e H'):ab tab R k 14 [tz a,.bl false] H Q E:=by
 delta bq;have e1:=z.at;unfold fv at e1;have z1:=z.drop.drop;right;refine b6 e1 rfl rfl rfl ?_;right;exact λe he=>bA nofun (z1.new he) (λd H3 hs3=>⟨rfl,kL (G:=⟨tab,R,ab tab R (k-1),true⟩) hs3 .e rfl (λH4 hs4=>r e H4 (qV hs4))⟩)
end
abbrev numAt (ws:List Str)(n:Nat):Option Int:=ws[n]?.bind c5
section
variable {a dx qa:Addr}{n:Nat}{ws:List Str}{w:Str}
def mV (ro:Ro K R)(hk:2<=k)(hs:∀ w ∈ ws,w.length<=100000) (z:Sep O H) (q:∀ H',Sep O H'->Q (iO (numAt ws n)) H'):ab tab R k 10 [wO ws[n]?] H Q E:=by
 unfold numAt at q;cases e:ws[n]? with
 |none=>
  rw[e]at q;exact xW hk (q _ z)
 |some w=>
  rw[e]at q;exact tH ro hk z (hs w (cr e)) q
def gi (h:numAt ws n=some i):∃ w,ws[n]? =some w:=by
 unfold numAt at h;cases e:ws[n]? with
 |none=>rw[e]at h;cases h
 |some w=>exact⟨w,rfl⟩
def gk {lo hi:Int}(ro:Ro K R)(hk:3<=k)(hs:∀ w ∈ ws,w.length<=100000) (z:Sep (pt a (fv R dx qa n)::pt qa (aK ws)::O) H)
  (q:∀ i H',numAt ws n=some i->lo<=i->i<=hi->Sep (pt a (fv R dx qa (n+1))::pt qa (aK ws)::O) H'->Q (ul i) H')
  (r:(∀ i,numAt ws n=some i->¬ (lo<=i/\i<=hi))->∀ e H',Sep (qX (R.cad 4) [("at",ul (n:Int))] e false::O) H'->E e H'):ab tab R k 15 [tz a,ul lo,ul hi] H Q E:=by
 delta aT;right;refine⟨_,6,_,_,_,rfl,z.at,rfl,rfl,?_⟩;right;refine f9 nofun z ?_;right;refine mV ro nofun hs z λH1 z1=>?_
 cases e:numAt ws n with
 |none=>
  right;refine⟨_,6,_,_,_,rfl,z1.at,rfl,rfl,?_⟩;right;refine fB ?_;right;exact bP nofun z1 (r λi h=>by rw[e]at h;cases h)
 |some i=>
  obtain⟨w,hw⟩:=gi e;right;refine⟨_,6,_,_,_,rfl,z1.at,rfl,rfl,?_⟩;right;refine fB ?_;right;refine ay (λh1=>?_) (λh1=>?_)
  .right
   by_cases h2:i<=hi
   .have e2:((λ(i j:Int)=>decide (i<=j)) i hi)=true:=decide_eq_true h2;rw[e2];refine kH nofun z1 hw λH2 z2=>?_
    right;exact q i _ e h1 h2 z2
   .have e2:((λ(i j:Int)=>decide (i<=j)) i hi)=false:=decide_eq_false h2;rw[e2];exact bP nofun z1 (r λj h hh=>by rw[e]at h;cases h;exact h2 hh.2)
  .right;exact bP nofun z1 (r λj h hh=>by rw[e]at h;cases h;exact h1 hh.1)
end
section
variable {a dx qa:Addr}{n:Nat}{ws:List Str}{w:Str}
def kW (ro:Ro K R)(hk:4<=k)(hj:yE[j]? =some x)(hs:∀ w ∈ ws,w.length<=100000) (z:Sep (pt a (fv R dx qa n)::pt qa (aK ws)::O) H)
  (q:∀ i H',numAt ws n=some i->bI j (ul i)=true->Sep (pt a (fv R dx qa (n+1))::pt qa (aK ws)::O) H'->Q (ul i) H')
  (r:(∀ i,numAt ws n=some i->bI j (ul i)=false)->∀ e H',Sep (qX (R.cad 4) [("at",ul (n:Int))] e false::O) H'->E e H'):ab tab R k 16 [tz a,ut x] H Q E:=by
 delta aM;right;refine⟨_,6,_,_,_,rfl,z.at,rfl,rfl,?_⟩;right;refine f9 nofun z ?_;right;refine mV ro nofun hs z λH1 z1=>?_
 cases e:numAt ws n with
 |none=>
  right;refine⟨_,6,_,_,_,rfl,z1.at,rfl,rfl,?_⟩;right;refine pB ro nofun hj (t:="NoneType") rfl ?_;rw[show bI j (iO none)=false by rcases rm hj with⟨rfl,_⟩|⟨rfl,_⟩|⟨rfl,_⟩|⟨rfl,_⟩|⟨rfl,_⟩|⟨rfl,_⟩<;>rfl];right;exact bP nofun z1 (r λi h=>by rw[e]at h;cases h)
 |some i=>
  obtain⟨w,hw⟩:=gi e;right;refine⟨_,6,_,_,_,rfl,z1.at,rfl,rfl,?_⟩;right;refine pB ro nofun hj (t:="int") rfl ?_
  by_cases h2:bI j (ul i)=true
  .rw[show bI j (iO (some i))=true from h2];right;refine kH nofun z1 hw λH2 z2=>?_
   right;exact q i _ e h2 z2
  .have h2:bI j (ul i)=false:=by simpa using h2
   rw[show bI j (iO (some i))=false from h2];right;exact bP nofun z1 (r λj h=>by rw[e]at h;cases h;exact h2)
def oY (hk:3<=k)(z:Sep (pt a (fv R dx qa n)::pt qa (aK ws)::O) H)(q:n=ws.length->Q v0 H)(r:n≠ws.length->∀ e H',Sep (qX (R.cad 4) [("at",ul (n:Int))] e false::O) H'->E e H'):ab tab R k 19 [tz a] H Q E:=by
 delta bZ;have e1:=z.at;have e2:=(z.pull .k1).at;unfold fv at e1;unfold aK at e2;have z1:=z.drop.drop;right;refine⟨_,6,_,_,_,rfl,z.at,rfl,rfl,?_⟩;right;delta cp;right;refine b6 e1 rfl rfl rfl ?_;right;refine b6 e1 rfl rfl rfl ?_;right;refine aw e2 ?_;right
 by_cases h:n=ws.length
 .refine cP (by show((n:Int) ==((ws.map ut).length:Int))=true;rw[ce,h];exact beq_self_eq_true _) ?_;right;exact q h
 .refine a7 (by show((n:Int) ==((ws.map ut).length:Int))=false;rw[ce];exact beq_eq_false_iff_ne.mpr nofun) ?_;right;refine b6 e1 rfl rfl rfl ?_;right;exact λe he=>bA nofun (z1.new he) (λd H3 hs3=>⟨rfl,kL (G:=⟨tab,R,ab tab R (k-1),true⟩) hs3 .e rfl (λH4 hs4=>r h e H4 (qV hs4))⟩)
end
abbrev jv (c:Nat):Option Str:=if c=111 then some "open" else if c=108 then some "look" else if c=115 then some "shut" else none
abbrev aH (w:Str):Bool:=decide (1<=w.length)&&(decide (w.length<=60)&&w.cps.toList.all λc=>(jv c).isSome)
def lP {d:Nat}{y:Str}(e:y=⟨#[d]⟩):((⟨#[c]⟩:Str) ==y)=decide (c=d):=by
 subst e;rw[Bool.eq_iff_iff,beq_iff_eq,decide_eq_true_eq];constructor
 .intro h
  injection h with h
  have:=congrArg Array.toList h;simpa using this
 .rintro rfl;rfl
def km (c:Nat):([("o","open"),("l","look"),("s","shut")]:List (Str×Str)).lookup ⟨#[c]⟩=jv c:=by
 simp only[lookup_cons,List.lookup_nil];rw[lP (d:=111) (by decide+kernel),lP (d:=108) (by decide+kernel),lP (d:=115) (by decide+kernel)];unfold jv
 by_cases h1:c=111
 .simp[h1]
 .by_cases h2:c=108
  .simp[h2]
  .by_cases h3:c=115
   .simp[h3]
   .simp[h1,h2,h3]
section
variable {a dx qa:Addr}{n:Nat}{ws:List Str}{w:Str}
def kO (ro:Ro K R)(hk:1<=k)(hw:w.length<=100000)(z:Sep O H)(q:∀ H',Sep O H'->Q (.bl (aH w)) H'):ab tab R k 11 [ut w] H Q E:=by
 have hz:w.cps.size=w.length:=rfl;delta bz;right;refine cZ ?_;right;refine bO (z:=w) nofun ?_;right;refine ay (λg1=>?_) (λg1=>?_)
 rotate_left
 .right;refine cast (congrArg (λb=>Q (.bl b) H) ?_) (q _ z);unfold aH;rw[decide_eq_false nofun]
  rfl
 right;simp only[ro.g_MOST_CELLS];right;refine ay (λg2=>?_) (λg2=>?_)
 rotate_left
 .right;refine cast (congrArg (λb=>Q (.bl b) H) ?_) (q _ z);unfold aH;rw[decide_eq_true nofun,decide_eq_false nofun]
  rfl
 right;refine eD (z:=w) nofun (λD ys H=>ys=(w.cps.toList.map λc=>V.bl (jv c).isSome).take ys.length/\Sep (pt D (v6 ys)::O) H) (λD hD=>⟨rfl,z.new (o:=v6 []) hD⟩) (λD ys c H hc hI=>?_) (λD ys H hl hI=>?_)
 .obtain⟨e,z1⟩:=hI;obtain⟨g,eg,hg⟩:=ro.g_LEAVE_OF;have hcm:w.cps.toList[ys.length]? =some c:=by rw[Array.getElem?_toList];exact hc
  have hyl:ys.length<w.cps.size:=(Array.getElem?_eq_some_iff.mp hc).1;right;simp only[eg];left;refine Bv (ro.hK▸hg) ?_;rw[km];refine fX.mk z1.at nofun ⟨?_,z1.set rfl⟩;rw[ci,f8,take_add_one,<-e,ii,hcm]
  rfl
 .obtain⟨e,z1⟩:=hI;rw[hl,take_of_length_le (by rw[ce,Array.length_toList];exact pc _)]at e;subst e;left;refine qR (bs:=w.cps.toList.map λc=>(jv c).isSome) (K:=K) rfl (by rw[z1.at,List.map_map];rfl) ?_;refine cast (congrArg (λb=>Q (.bl b) H) ?_) (q _ z1.drop);unfold aH;rw[decide_eq_true nofun,decide_eq_true nofun,List.all_map]
  rfl
def lS (hk:1<=k)(q:Q (.bl false) H):ab tab R k 11 [v0] H Q E:=by
 delta bz;right;refine cZ ?_;right;exact q
end
abbrev kG (w:Str):List Str:=w.cps.toList.map λc=>(jv c).getD "open"
def dw (w:Str):(kG w).length=w.length:=by unfold kG;rw[ce,bW]
section
variable {a dx qa:Addr}{n:Nat}{ws:List Str}{w:Str}
def nr (ro:Ro K R)(hk:3<=k)(hs:∀ w ∈ ws,w.length<=100000) (z:Sep (pt a (fv R dx qa n)::pt qa (aK ws)::O) H)
  (q:∀ w l H',ws[n]? =some w->aH w=true->Sep (pt l (aK (kG w))::pt a (fv R dx qa (n+1))::pt qa (aK ws)::O) H'->Q (tz l) H')
  (r:(∀ w,ws[n]? =some w->aH w=false)->∀ e H',Sep (qX (R.cad 4) [("at",ul (n:Int))] e false::O) H'->E e H'):ab tab R k 17 [tz a] H Q E:=by
 delta aW;right;refine⟨_,6,_,_,_,rfl,z.at,rfl,rfl,?_⟩;right;refine⟨_,6,_,_,_,rfl,z.at,rfl,rfl,?_⟩;right;refine f9 nofun z ?_;right;cases e:ws[n]? with
 |none=>
  refine lS nofun ?_;right;exact bP nofun z (r λw h=>by rw[e]at h;cases h)
 |some w=>
  refine kO ro nofun (hs w (cr e)) z λH1 z1=>?_
  by_cases g:aH w=true
  .rw[g];have g2:=g;unfold aH at g2;simp only[li,decide_eq_true_eq]at g2;obtain⟨g3,g4,g5⟩:=g2;have hz:w.cps.size=w.length:=rfl;right;refine kH nofun z1 e λH2 z2=>?_
   refine eD (z:=w) nofun (λD ys H=>ys=((kG w).map ut).take ys.length/\Sep (pt D (v6 ys)::pt a (fv R dx qa (n+1))::pt qa (aK ws)::O) H) (λD hD=>⟨rfl,z2.new (o:=v6 []) hD⟩) (λD ys c H hc hI=>?_) (λD ys H hl hI=>?_)
   .obtain⟨e1,z3⟩:=hI;obtain⟨g,eg,hg⟩:=ro.g_LEAVE_OF;have hcm:w.cps.toList[ys.length]? =some c:=by rw[Array.getElem?_toList];exact hc
    have hyl:ys.length<w.cps.size:=(Array.getElem?_eq_some_iff.mp hc).1;have hc2:=all_eq_true.mp g5 c (cr hcm);obtain⟨l,el⟩:=Option.isSome_iff_exists.mp hc2;right;simp only[eg];left;refine Bd (ro.hK▸hg) ((km c).trans el) ?_;refine fX.mk z3.at nofun ⟨?_,z3.set rfl⟩;unfold kG at e1⊢;rw[ci,f8,take_add_one,<-e1,ii,ii,hcm];show ys++[ut l]=ys++[ut ((jv c).getD "open")];rw[el]
    rfl
   .obtain⟨e1,z3⟩:=hI;rw[hl,take_of_length_le (by rw[ce,dw];omega)]at e1;subst e1;exact q w _ _ e g z3
  .have g:aH w=false:=by simpa using g
   rw[g];right;exact bP nofun z1 (r λw' h=>by rw[e]at h;cases h;exact g)
end
abbrev dn (lo hi i:Int):Bool:=decide (lo<=i)&&decide (i<=hi)
abbrev okN (ws:List Str):Nat->Bool
 |0=>(numAt ws 0).any (dn 0 24)
 |k+1=>if k<6 then(numAt ws (k+1)).any (λi=>bI k (ul i)) else if k=6 then(ws[7]?).any aH else(numAt ws (k+1)).any (dn 0 1000000000)
abbrev bT (ws:List Str):Nat:=((ws[7]?).map Str.length).getD 0
abbrev hR (ws:List Str)(k:Nat):Int:=(numAt ws k).getD 0
abbrev kz (ws:List Str):List Int:=(List.range 6).map λj=>hR ws (j+1)
abbrev rY (ws:List Str):List Str:=kG ((ws[7]?).getD Str.empty)
abbrev oZ (ws:List Str):List Int:=(List.range (bT ws)).map λj=>hR ws (8+j)
abbrev ya (T S B C L:Addr)(at_:Int)(bs:List Int)(lv:List Str)(cs:List Int)(O:List aB):List aB:=
 pt T (wf [tz S,tz L])::pt S (wf [ul at_,tz B,tz C])::tu B (bs.map ul)::pt C (v6 (cs.map ul))::pt L (aK lv)::O
def kg {α:Type}{f:Nat->α}{m:Nat}(h:n<m):((List.range m).map f).take (n+1)=((List.range m).map f).take n++[f n]:=by
 rw[take_add_one,ii,List.getElem?_range h]
 rfl
section
variable {a dx qa:Addr}{ws:List Str}
def ou (ro:Ro K R)(hk:6<=k)(hs:∀ w ∈ ws,w.length<=100000) (z:Sep (pt a (fv R dx qa 0)::pt qa (aK ws)::O) H)
  (q:∀ T S B C L H',(∀ j,j<8+bT ws->okN ws j=true)->Sep (ya T S B C L (hR ws 0) (kz ws) (rY ws) (oZ ws) (pt a (fv R dx qa (8+bT ws))::pt qa (aK ws)::O)) H'->Q (tz T) H')
  (r:∀ n e Δ H',(∀ j,j<n->okN ws j=true)->okN ws n=false->(7<n->n<8+bT ws)->Sep (qX (R.cad 4) [("at",ul (n:Int))] e false::(Δ++O)) H'->E e H'):ab tab R k 20 [tz a] H Q E:=by
 delta dv;right;refine⟨_,6,_,_,_,rfl,z.at,rfl,rfl,?_⟩;right;simp only[ro.g_MOST_ROWS];right;refine gk ro nofun hs z (λi H1 e0 i0 i1 z1=>?_) (λhno e H' z'=>r 0 e [] H' (λj hj=>absurd hj (Nat.not_lt_zero _)) ?_ (λh=>absurd h (by decide)) z')
 rotate_left
 .show(numAt ws 0).any (dn 0 24)=false;cases e0:numAt ws 0 with
  |none=>rfl
  |some i=>
   have:=hno i e0;show dn 0 24 i=false;unfold dn;rw[Bool.eq_false_iff];simpa using this
 have ok0:okN ws 0=true:=by
  show(numAt ws 0).any (dn 0 24)=true;rw[e0];show dn 0 24 i=true;unfold dn;rw[decide_eq_true i0,decide_eq_true i1]
  rfl
 have en:hR ws 0=i:=by unfold hR;rw[e0];rfl
 rw[<-en];right;obtain⟨nm,en1,hn⟩:=ro.g_NAMES;simp only[en1];rw[<-ro.hK]at hn;right;refine yW (hn H1) ?_;refine w8 (xs:=yE.map ut) (nb rfl) (λD ys H=>(∀ j,j<ys.length+1->okN ws j=true)/\ys=((kz ws).map ul).take ys.length/\Sep (pt a (fv R dx qa (ys.length+1))::pt qa (aK ws)::pt D (v6 ys)::O) H) (λD ys H _=>hn H) (λD hD=>⟨λj hj=>by rw[show j=0 by simpa using hj];exact ok0,rfl,(z1.new (o:=v6 []) hD).sub (.cons .k1 (.cons .k1 (.cons .e .refl)))⟩) (λD ys x H hx hI=>?_) (λD ys H hl6 hI=>?_)
 .obtain⟨okj,e1,z2⟩:=hI;rw[ii]at hx;obtain⟨x,hx2,rfl⟩:=lw.mp hx;have hlt:ys.length<6:=by
   have h:=(sn.mp hx2).1;simpa[yE] using h
  right;refine⟨_,6,_,_,_,rfl,z2.at,rfl,rfl,?_⟩;right;refine kW ro nofun hx2 hs z2 (λi H3 e3 hf z3=>?_) (λhno e H' z'=>r (ys.length+1) e [pt D (v6 ys)] H' okj ?_ (λh=>absurd h nofun) z')
  .have okn:okN ws (ys.length+1)=true:=by
    show(if ys.length<6 then _ else _)=true;rw[if_pos hlt,e3];exact hf
   refine fX.mk (z3.get .k2) nofun ⟨?_,?_,?_⟩
   .intro j hj;rw[ci,f8]at hj
    by_cases h:j<ys.length+1
    .exact okj j h
    .rw[show j=ys.length+1 by omega];exact okn
   .rw[ci,f8];have e5:(kz ws).map ul=(List.range 6).map λj=>ul (hR ws (j+1)):=by unfold kz;rw[List.map_map];rfl
    rw[e5]at e1⊢;rw[kg hlt,<-e1];show ys++[ul i]=ys++[ul (hR ws (ys.length+1))];unfold hR;rw[e3]
    rfl
   .rw[ci,f8];have z4:Sep (pt D (v6 (ys++[ul i]))::pt a (fv R dx qa (ys.length+1+1))::pt qa (aK ws)::O) (upd H3 D (v6 (ys++[ul i]))):=(z3.pull .k2).set rfl;exact z4.sub (.cons .k1 (.cons .k1 (.cons .e .refl)))
  .show(if ys.length<6 then _ else _)=false;rw[if_pos hlt];cases e3:numAt ws (ys.length+1) with
   |none=>rfl
   |some i=>exact hno i e3
 .obtain⟨okj,e1,z2⟩:=hI;rw[show ys.length=6 from hl6]at e1 z2 okj;have hb6:(kz ws).length=6:=by unfold kz;rw[ce,length_range]
  rw[take_of_length_le (by rw[ce];omega)]at e1;subst e1;right;refine qe (z2.pull .k2) (z2.get .k2) λB H3 z3=>?_
  have z3:=z3.sub (Γ':=pt a (fv R dx qa (6+1))::pt qa (aK ws)::tu B ((kz ws).map ul)::O) (.cons .k2 (.cons .k2 (.cons .e (.drop .refl))));right;refine⟨_,6,_,_,_,rfl,z3.at,rfl,rfl,?_⟩;right;refine nr ro nofun hs z3 (λw L H4 ew gw z4=>?_) (λhno e H' z'=>r 7 e [tu B ((kz ws).map ul)] H' okj ?_ (λh=>absurd h (by decide)) z')
  rotate_left
  .show(ws[7]?).any aH=false;cases e7:ws[7]? with
   |none=>rfl
   |some w=>exact hno w e7
  have ew:ws[7]? =some w:=ew;have eL:bT ws=w.length:=by unfold bT;rw[ew];rfl
  have eV:rY ws=kG w:=by unfold rY;rw[ew];rfl
  have ok7:∀ j,j<8->okN ws j=true:=λj hj=>by
   by_cases h:j<7
   .exact okj j h
   .rw[show j=7 by omega];show(ws[7]?).any aH=true;rw[ew];exact gw
  have g2:=gw;unfold aH at g2;simp only[li,decide_eq_true_eq]at g2;obtain⟨g3,g4,_⟩:=g2;right;refine tZ (xs:=(kG w).map ut) z4.at ?_;refine kN (xs:=(kG w).map ut) (by rw[ce,dw];omega) (λD ys H=>(∀ j,j<8+ys.length->okN ws j=true)/\ys=((oZ ws).map ul).take ys.length/\Sep (pt a (fv R dx qa (8+ys.length))::pt qa (aK ws)::pt D (v6 ys)::pt L (aK (kG w))::tu B ((kz ws).map ul)::O) H) (λD ys H h=>aA.of (h.2.2.get .k3)) (λD hD=>⟨ok7,rfl,(z4.new (o:=v6 []) hD).sub (.cons .k2 (.cons .k2 (.cons .e .refl)))⟩) (λD ys x H hx hI=>?_) (λD ys H hlc hI=>?_)
  .obtain⟨okj,e1,z5⟩:=hI;have hlt:=(sn.mp hx).1;rw[ce,dw]at hlt;right;refine⟨_,6,_,_,_,rfl,z5.at,rfl,rfl,?_⟩;right;simp only[ro.g_BOUND];right;have ok8:okN ws (8+ys.length)=(numAt ws (8+ys.length)).any (dn 0 1000000000):=by
    rw[show 8+ys.length=(7+ys.length)+1 by omega];show(if 7+ys.length<6 then _ else if 7+ys.length=6 then _ else _)=_;rw[if_neg nofun,if_neg nofun]
   refine gk ro nofun hs z5 (λi H6 e3 c0 c1 z6=>?_) (λhno e H' z'=>r (8+ys.length) e [pt D (v6 ys),pt L (aK (kG w)),tu B ((kz ws).map ul)] H' okj ?_ (λ_=>by omega) z')
   .refine fX.mk (z6.get .k2) nofun ⟨?_,?_,?_⟩
    .intro j hj;rw[ci,f8]at hj
     by_cases h:j<8+ys.length
     .exact okj j h
     .rw[show j=8+ys.length by omega,ok8,e3];show dn 0 1000000000 i=true;unfold dn;rw[decide_eq_true c0,decide_eq_true c1]
      rfl
    .rw[ci,f8];have e5:(oZ ws).map ul=(List.range (bT ws)).map λj=>ul (hR ws (8+j)):=by unfold oZ;rw[List.map_map];rfl
     rw[e5]at e1⊢;rw[kg nofun,<-e1];show ys++[ul i]=ys++[ul (hR ws (8+ys.length))];unfold hR;rw[e3]
     rfl
    .rw[ci,f8,<-Nat.add_assoc];have z7:Sep (pt D (v6 (ys++[ul i]))::pt a (fv R dx qa (8+ys.length+1))::pt qa (aK ws)::pt L (aK (kG w))::tu B ((kz ws).map ul)::O) (upd H6 D (v6 (ys++[ul i]))):=(z6.pull .k2).set rfl;exact z7.sub (.cons .k1 (.cons .k1 (.cons .e .refl)))
   .rw[ok8];cases e3:numAt ws (8+ys.length) with
    |none=>rfl
    |some i=>
     have:=hno i e3;show dn 0 1000000000 i=false;unfold dn;rw[Bool.eq_false_iff];simpa using this
  .obtain⟨okj,e1,z5⟩:=hI;rw[ce,dw]at hlc;rw[show ys.length=bT ws by omega]at e1 z5 okj;have hcl:(oZ ws).length=bT ws:=by unfold oZ;rw[ce,length_range]
   rw[take_of_length_le (by rw[ce];omega)]at e1;subst e1;right;rename_i S H6 z6 T H7 z7;rw[<-eV]at z7;exact q _ _ _ _ _ _ okj (z7.sub (.cons .e (.cons .e (.cons (.t .k3) (.cons .k2 (.cons .k2 .refl))))))
end
section
variable {a dx:Addr}{ws:List Str}
def o9 {t:Str}(hk:1<=k)(ht:t.length<=100000)(hs:Txt.split t gF=ws)(z:Sep (pt a (wn (R.cad 6) dx [])::O) H)(q:∀ qa H',Sep (pt a (fv R dx qa 0)::pt qa (aK ws)::O) H'->Q v0 H'):ab tab R k 12 [tz a,ut t] H Q E:=by
 delta aE;right;refine⟨_,rfl,?_⟩;left;refine gp z (by decide+kernel) ht λqa H1 z1=>?_
 rw[show(Str.ofString " ")=gF by decide+kernel,hs]at z1;right;rename_i H2 z2 H3 z3;exact q qa _ (z3.pull .k1)
def nM (hk:2<=k)(hv:tyName v H=some t)(ht:tab.subB.lookup (t,"str")=some false) (z:Sep O H)
  (r:∀ e H',Sep (qX (R.cad 4) [("at",ul (-1))] e false::O) H'->E e H'):ab tab R k 12 [tz a,v] H Q E:=by
 delta aE;left;refine mh hv ht ?_;right;exact λe he=>bA nofun (z.new he) (λd H3 hs3=>⟨rfl,kL (G:=⟨tab,R,ab tab R (k-1),true⟩) hs3 .e rfl (λH4 hs4=>r e H4 (qV hs4))⟩)
end
abbrev qI (ws:List Str):Prop:=(∀ j,j<8+bT ws->okN ws j=true)/\ws.length=8+bT ws
abbrev kD (ws:List Str)(n:Nat):Prop:=(∀ j,j<n->okN ws j=true)/\((okN ws n=false/\(7<n->n<8+bT ws))\/(n=8+bT ws/\ws.length≠n))
def tV {t:Str}(ro:Ro K R)(hk:7<=k)(ht:t.length<=99999)(hs:Txt.split t gF=ws)(hw:∀ w ∈ ws,w.length<=100000) (z:Sep O H)
  (q:∀ T S B C L H',qI ws->Sep (ya T S B C L (hR ws 0) (kz ws) (rY ws) (oZ ws) O) H'->Q (tz T) H')
  (r:∀ n e Δ H',kD ws n->Sep (qX (R.cad 4) [("at",ul (n:Int))] e false::(Δ++O)) H'->E e H'):ab tab R k 21 [ut t] H Q E:=by
 delta bN;right;intro x dx' g1 g2 g3;have z1:=(zv (C:=R.cad 6) z g1 g2 g3).sub (Γ':=pt x (wn (R.cad 6) dx' [])::O) (.cons .e (.drop .refl));refine o9 nofun nofun hs z1 λqa H2 z2=>?_
 refine⟨rfl,?_⟩;right;refine ou ro nofun hw z2 (λT S B C L H3 ok z3=>?_) (λn e Δ H' h1 h2 h3 z'=>r n e Δ H' ⟨h1,.inl ⟨h2,h3⟩⟩ z');right;have z4:=z3.sub (Γ':=pt x (fv R dx' qa (8+bT ws))::pt qa (aK ws)::ya T S B C L (hR ws 0) (kz ws) (rY ws) (oZ ws) O) (.cons (.t (.t .k3)) (.cons (.t (.t .k3)) .refl));refine⟨_,6,_,_,_,rfl,z4.at,rfl,rfl,?_⟩;right;refine oY nofun z4 (λhn=>?_) (λhn e H' z'=>?_)
 .right;exact q T S B C L _ ⟨ok,hn.symm⟩ z4.drop.drop
 .exact r _ e (ya T S B C L (hR ws 0) (kz ws) (rY ws) (oZ ws) []) H' ⟨ok,.inr ⟨rfl,λh=>hn h.symm⟩⟩ (by simpa[ya] using z')
def sX (hk:3<=k)(hv:∀ H',Sep O H'->tyName v H'=some t) (ht:tab.subB.lookup (t,"str")=some false) (z:Sep O H)
  (r:∀ e H',Sep (qX (R.cad 4) [("at",ul (-1))] e false::O) H'->E e H'):ab tab R k 21 [v] H Q E:=by
 delta bN;right;intro x dx' g1 g2 g3;have z1:=(zv (C:=R.cad 6) z g1 g2 g3).drop.drop;exact nM nofun (hv _ z1) ht z1 r
abbrev dm (ws:List Str):Nat:=(ws.map λw=>w.length+1).sum
def ag:dm (w::ws)=w.length+1+dm ws:=by unfold dm;rw[map_cons,sum_cons]
def aZ {vs:List Str}:dm (ws++vs)=dm ws+dm vs:=by unfold dm;rw[dL,List.sum_append]
def mR {vs:List Str}(h:List.Sublist ws vs):dm ws<=dm vs:=by
 induction h with
 |slnil=>exact pc _
 |cons a _ ih=>rw[ag];omega
 |cons_cons a _ ih=>rw[ag,ag];omega
def mz (ws:List Str):ws.length<=dm ws:=by
 induction ws with
 |nil=>exact pc _
 |cons a r ih=>rw[ag,length_cons];omega
def fM (h:w ∈ ws):w.length+1<=dm ws:=by
 have:=mR (List.singleton_sublist.mpr h);rw[ag]at this
 omega
def js {i:Nat}{v:Str}:dm (ws.set i v)<=dm ws+v.length+1:=by
 induction ws generalizing i with
 |nil=>rw[List.set_nil];omega
 |cons a r ih=>
  cases i with
  |zero=>rw[List.set_cons_zero,ag,ag];omega
  |succ i=>have:=ih (i:=i);rw[List.set_cons_succ,ag,ag];omega
def gE:∀ {ws:List Str},ws≠[]->(Str.join gF ws).length+1=dm ws
 | [],h=>absurd rfl h
 | [x],_=>by rw[ag];rfl
 |x::y::r,_=>by
  have ih:=gE (ws:=y::r) (λh=>nomatch h);rw[bW]at ih⊢;rw[join_cons,ci,ci,ag,<-ih,bW x,show gF.cps.toList.length=1 from rfl]
  omega
def bH (z:Str):dm (Txt.split z gF)=z.length+1:=by
 rw[<-gE (show Txt.split z gF≠[] from ky z 32),show Str.join gF (Txt.split z gF)=z from StrLaws.join_split z gF]
def nJ (ws:List Str):(Txt.join gF ws).length<=dm ws:=by
 have e:Txt.join gF ws=Str.join gF ws:=StrLaws.glued_eq_join _ _;rw[e];cases ws with
 |nil=>exact pc 0
 |cons a r=>have:=gE (ws:=a::r) (λh=>nomatch h);omega
def cut_str (ws:List Str)(lo hi:Option Int):∃ vs,cX (ws.map ut) lo hi=vs.map ut/\List.Sublist vs ws:=by
 refine⟨(ws.drop (HT.bB (ws.map ut).length 0 lo)).take (HT.bB (ws.map ut).length (ws.map ut).length hi-HT.bB (ws.map ut).length 0 lo),?_,(take_sublist _ _).trans (List.drop_sublist _ _)⟩;unfold cX;rw[List.map_take,List.map_drop]
def iK (ws:List Str):(ws.map (·.length)).sum+ws.length=dm ws:=by
 induction ws with
 |nil=>rfl
 |cons a r ih=>rw[ag,<-ih,map_cons,sum_cons,length_cons];omega
def A3 (e:H a=some (v6 (ws.map ut)))(hw:dm ws<=1000000)(q:∀ z:Str,z.length<=dm ws->Q (ut z) H):qv G.R.K .join gF (tz a) H Q:=
 md (G:=G) e (by rw[iK];exact hw) (by decide+kernel) (q _ (nJ ws))
abbrev gj (w:Str)(lo hi:Int):Option Int:=match c5 w with
 |some i=>if dn lo hi i then some i else none
 |none=>none
def eG:∀ bs:List Bool,yr (.bl false) (bs.map V.bl)= !(bs.all id)
 | []=>rfl
 |b::bs=>by
  have ih:=eG bs;cases b with
  |false=>rfl
  |true=>
   show yr (.bl false) (V.bl true::bs.map V.bl)= !(bs.all id);rw[<-ih]
   rfl
def mq (w:Str):(dk w none (some 1)).cps.toList=w.cps.toList.take 1:=by
 show((w.cps.toList.drop 0).take (HT.bB w.length w.length (some 1)-0)).toArray.toList=_;have h1:HT.bB w.length w.length (some 1)=min 1 w.length:=by
  show(if(1:Int)<0 then((1:Int)+(w.length:Int)).toNat else min (1:Int).toNat w.length)=_;rw[if_neg (by decide)]
  rfl
 rw[h1,drop_zero,Nat.sub_zero];show w.cps.toList.take (min 1 w.length)=_;rw[bW,List.take_eq_take_iff]
 omega
def yq:gR (ut (dk w none (some 1))) (ut (Str.ofString "-"))=(w.cps.toList[0]? ==some 45):=by
 show(dk w none (some 1) ==Str.ofString "-")=_;have h:(Str.ofString "-").cps.toList=[45]:=by decide+kernel
 rw[Bool.eq_iff_iff,beq_iff_eq,beq_iff_eq];constructor
 .intro e;have e:=congrArg (λz:Str=>z.cps.toList) e;have e:(dk w none (some 1)).cps.toList=(Str.ofString "-").cps.toList:=e;rw[mq,h]at e;cases hL:w.cps.toList with
  |nil=>rw[hL]at e;cases e
  |cons c r=>rw[hL]at e;cases e;rfl
 .intro e;refine PyProof.Rows.ext_toList ?_;rw[mq,h];cases hL:w.cps.toList with
  |nil=>rw[hL]at e;cases e
  |cons c r=>rw[hL]at e;cases e;rfl
def j9 (w:Str):(dk w (some 0) none).cps.toList=w.cps.toList:=by
 show((w.cps.toList.drop (HT.bB w.length 0 (some 0))).take (HT.bB w.length w.length none-HT.bB w.length 0 (some 0))).toArray.toList=_;have h1:HT.bB w.length 0 (some 0)=0:=by
  show(if(0:Int)<0 then((0:Int)+(w.length:Int)).toNat else min (0:Int).toNat w.length)=0;rw[if_neg (by decide)];exact Nat.zero_min _
 rw[h1,show HT.bB w.length w.length none=w.length from rfl,drop_zero,Nat.sub_zero];exact take_of_length_le (by rw[<-bW];exact pc _)
def rg (w:Str):(dk w (some (b2i (w.cps.toList[0]? ==some 45))) none).cps.toList=gJ w.cps.toList:=by
 cases hL:w.cps.toList with
 |nil=>
  rw[show((([]:List Nat)[0]?) ==some 45)=false from rfl];exact(j9 w).trans hL
 |cons c r=>
  by_cases h:c=45
  .subst h;rw[show((((45:Nat)::r)[0]?) ==some 45)=true from rfl];exact kq hL
  .rw[show(((c::r)[0]?) ==some 45)=false from beq_eq_false_iff_ne.mpr λe=>h (Option.some.inj e)];refine((j9 w).trans hL).trans ?_;unfold gJ
   split
   .rename_i hh;exact absurd (List.cons.inj hh).1 h
   .rfl
def la:gR (ut w) (ut (Str.ofString "0"))=decide (w.cps.toList=[48]):=by
 show(w ==Str.ofString "0")=_;rw[Bool.eq_iff_iff,beq_iff_eq,decide_eq_true_eq];exact⟨λe=>by rw[e];decide+kernel,λe=>PyProof.Rows.ext_toList (e.trans (by decide+kernel))⟩
def xu:gR (ut ⟨#[c]⟩) (ut (Str.ofString "0"))=decide (c=48):=by
 rw[la];show decide ([c]=[48])=_;simp
def iz {lo hi:Int}(hk:1<=k)(z:Sep O H)(hw:w.length<=100000)(q:∀ H',Sep O H'->Q (iO (gj w lo hi)) H'):ab tab R k 27 [ut w,ul lo,ul hi] H Q E:=by
 delta cR;left;refine v9 (z:=w) hw ?_;left;refine a3 rfl rfl ?_;left;refine uS ?_;rw[yq];left;refine v9 (z:=w) hw ?_;left;have hf:=rg w;have hfl:=dR w (some (b2i (w.cps.toList[0]? ==some 45))) none;generalize dk w (some (b2i (w.cps.toList[0]? ==some 45))) none=f at hf hfl⊢;have hl:f.length=(gJ w.cps.toList).length:=by rw[<-hf];exact bW f
 generalize hF:gJ w.cps.toList=F at hf hl;have hW:nZ w=lE w.cps.toList F:=by unfold nZ;rw[hF]
 have no:lE w.cps.toList F=false->gj w lo hi=none:=λe=>by unfold gj c5;rw[hW,e];rfl
 refine bO (z:=f) nofun ?_;right;refine ay (λg1=>?_) (λg1=>?_)
 rotate_left
 .right;refine cast (congrArg (λb=>Q (iO b) H) (no ?_)) (q _ z);unfold lE;rw[decide_eq_false nofun]
  rfl
 right;refine ay (λg2=>?_) (λg2=>?_)
 rotate_left
 .right;refine cast (congrArg (λb=>Q (iO b) H) (no ?_)) (q _ z);unfold lE;rw[decide_eq_true nofun,decide_eq_false nofun]
  rfl
 right;refine eD (z:=f) (by show f.length<=1000;omega) (λD ys H=>ys=(F.map λc=>V.bl (jc c)).take ys.length/\Sep (pt D (v6 ys)::O) H) (λD hD=>⟨rfl,z.new (o:=v6 []) hD⟩) (λD ys c H hc hI=>?_) (λD ys H hl2 hI=>?_)
 .obtain⟨e,z1⟩:=hI;have hcm:F[ys.length]? =some c:=by rw[<-hf,Array.getElem?_toList];exact hc
  left;refine mi ?_;have hyl:ys.length<F.length:=(sn.mp hcm).1;refine fX.mk z1.at nofun ⟨?_,z1.set rfl⟩;rw[ci,f8,take_add_one,<-e,ii,hcm]
  rfl
 .obtain⟨e,z1⟩:=hI;rw[hl2,show f.cps.size=F.length from hl,take_of_length_le (by rw[ce];exact pc _)]at e;subst e;have eB:(F.map λc=>V.bl (jc c))=(F.map jc).map V.bl:=by rw[List.map_map];rfl
  have z2:=z1.drop;rw[eB]at z1;left;refine Ak (aA.of z1.at) rfl (by rw[all_eq_true];intro x hx;obtain⟨b,_,rfl⟩:=List.mem_map.mp hx;rfl) ?_;rw[eG,show(F.map jc).all id=F.all jc by rw[List.all_map];rfl]
  by_cases g3:F.all jc=true
  .rw[g3];right;have e0:lE w.cps.toList F=(decide (w.cps.toList=[48])|| !(F[0]? ==some 48)):=by
    unfold lE;rw[decide_eq_true nofun,decide_eq_true nofun,g3]
    rfl
   obtain⟨c,r,eF⟩:∃ c r,F=c::r:=by
    cases F with
    |nil=>exact absurd g1 (by simp at hl⊢;omega)
    |cons c r=>exact⟨c,r,rfl⟩
   refine Bb (c:=c) nofun (by rw[hf,eF];exact L2.bb (j:=0) rfl) ?_;right;rw[xu];have tru:nZ w=true->gj w lo hi=if dn lo hi (lg w.cps.toList) then some (lg w.cps.toList) else none:=λh=>by unfold gj c5;rw[if_pos h]
   have key:(c=48/\w.cps.toList≠[48])\/(nZ w=true/\¬ (c=48/\w.cps.toList≠[48])):=by
    by_cases h:c=48/\w.cps.toList≠[48]
    .exact .inl h
    .refine .inr ⟨?_,h⟩;rw[hW,e0,eF,Bool.or_eq_true,decide_eq_true_eq,Bool.not_eq_true',beq_eq_false_iff_ne]
     by_cases h2:w.cps.toList=[48]
     .exact .inl h2
     .exact .inr λe=>h ⟨Option.some.inj e,h2⟩
   rcases key with⟨h1,h2⟩|⟨hw1,hn⟩
   .refine cP (decide_eq_true h1) ?_;right;rw[la,decide_eq_false h2];right;refine cast (congrArg (λb=>Q (iO b) _) (no ?_)) (q _ z2);rw[e0,decide_eq_false h2,eF,h1]
    rfl
   .obtain⟨e1,e2⟩:=iQ hw1;have tr:=tru hw1;unfold dn at tr
    by_cases h1:c=48
    .have h2:w.cps.toList=[48]:=Classical.byContradiction λh=>hn ⟨h1,h⟩
     refine cP (decide_eq_true h1) ?_;right;rw[la,decide_eq_true h2];right;refine cF (z:=w) e1 nofun ?_;right;refine ay (λl1=>?_) (λl1=>?_)
     .right;refine ay (λl2=>?_) (λl2=>?_)
      .right;refine cF (z:=w) e1 nofun ?_;right;have g:=q _ z2;rw[tr,decide_eq_true l1,decide_eq_true l2]at g;exact g
      .right;have g:=q _ z2;rw[tr,decide_eq_true l1,decide_eq_false l2]at g;exact g
     .right;have g:=q _ z2;rw[tr,decide_eq_false l1]at g;exact g
    .refine a7 (decide_eq_false h1) ?_;right;refine cF (z:=w) e1 nofun ?_;right;refine ay (λl1=>?_) (λl1=>?_)
     .right;refine ay (λl2=>?_) (λl2=>?_)
      .right;refine cF (z:=w) e1 nofun ?_;right;have g:=q _ z2;rw[tr,decide_eq_true l1,decide_eq_true l2]at g;exact g
      .right;have g:=q _ z2;rw[tr,decide_eq_true l1,decide_eq_false l2]at g;exact g
     .right;have g:=q _ z2;rw[tr,decide_eq_false l1]at g;exact g
  .have g3:F.all jc=false:=by simpa using g3
   rw[g3];right;refine cast (congrArg (λb=>Q (iO b) _) (no ?_)) (q _ z2);unfold lE;rw[decide_eq_true nofun,decide_eq_true nofun,g3]
   rfl
def aI:∀ Δ:List aB,Sub O (Δ++O)
 | []=>.refl
 |_::Δ=>.drop (aI Δ)
def gB {t:Str}(ro:Ro K R)(hk:8<=k)(ht:t.length<=99999)(hs:Txt.split t gF=ws)(z:Sep O H)
  (q:∀ P T S B C L H',qI ws->Sep (pt P (wf [ut "read",tz T])::ya T S B C L (hR ws 0) (kz ws) (rY ws) (oZ ws) O) H'->Q (tz P) H')
  (r:∀ n p H',kD ws n->Sep (pt p (wf [ut "none",ul (n:Int)])::O) H'->Q (tz p) H'):ab tab R k 29 [ut t] H Q E:=by
 have hw:∀ w ∈ ws,w.length<=100000:=λw hw=>by
  have h1:=fM hw;rw[<-hs,bH]at h1
  omega
 delta cz;right;refine tV ro nofun ht hs hw z (λT S B C L H1 ok z1=>?_) (λn e Δ H1 no z1=>?_)
 .right;rename_i P H2 z2;exact q P T S B C L H2 ok z2
 .obtain⟨ed,z2⟩:=vh z1;clear z1;left;refine⟨4,_,_,true,z2.at,rfl,rfl,?_⟩;right;refine rj z2 rfl z2.at (b:=false) rfl (λp H3 z3=>?_);right;rename_i P H4 z4;exact r n P H4 no (z4.sub (.cons .e (.drop (.drop (.drop (aI Δ))))))
def rL (hk:4<=k)(hv:∀ H',Sep O H'->tyName v H'=some t) (ht:tab.subB.lookup (t,"str")=some false) (z:Sep O H)
  (q:∀ p H',Sep (pt p (wf [ut "none",ul (-1)])::O) H'->Q (tz p) H'):ab tab R k 29 [v] H Q E:=by
 delta cz;right;refine sX nofun hv ht z (λe H1 z1=>?_);obtain⟨ed,z2⟩:=vh z1;clear z1;left;refine⟨4,_,_,true,z2.at,rfl,rfl,?_⟩;right;refine rj z2 rfl z2.at (b:=false) rfl (λp H3 z3=>?_);right;rename_i P H4 z4;exact q P H4 (z4.sub (.cons .e (.drop (.drop (.drop .refl)))))
def fN (a b:Str):(a++b).length=a.length+b.length:=by
 rw[bW,W.KT.app_list,ci,<-bW,<-bW]
section
variable {h:Addr}{m:Int}
def t9 (hk:2<=k)(s:Sep (hand h m::O) H)(hm:m<=1099510000000)(hw:w.length<=30000)(q:∀ (z:Str) H',z.length<=2*w.length+1->Sep (hand h (m+3)::O) H'->Q (ut z) H'):ab tab R k 32 [tz h,ut w] H Q E:=by
 delta fe;walk_at "gd";rename_i r1 H1 a0 a1 z1;refine bO (z:=w) nofun ?_;walk_at "gd";rename_i r2 H2 b0 b1 z2;refine a6 (λe=>?_) (λe=>?_)
 .left;refine ud (z:=w) nofun λu1 hu1=>?_
  left;refine ud (z:=w) nofun λu2 hu2=>?_
  left;refine⟨by omega,?_⟩;exact q _ _ (by rw[fN];omega) (au z2 nofun)
 .left;refine ud (z:=w) nofun λu1 hu1=>?_
  walk_at "gd";refine bO (by decide+kernel) ?_;walk_at "gd";rename_i r3 H3 c0 c1 z3;refine zR (by decide+kernel) c0 c1 λu2 hu2=>?_
  left;refine⟨by omega,?_⟩;left;refine ud (z:=w) nofun λu3 hu3=>?_
  left;refine⟨by rw[fN];omega,?_⟩;exact q _ _ (by rw[fN,fN];omega) (au z3 nofun)
abbrev Cu (n:Nat)(v:V):Prop:=∃ z:Str,v=ut z/\z.length<=n
abbrev BD (n:Nat):V->Bool
 | ut z=>decide (z.length<=n)
 |_=>false
def wX (h:BD n v=true):Cu n v:=by
 cases v with
 |str z=>exact⟨z,rfl,of_decide_eq_true h⟩
 |_=>cases h
def qD (h0:0<=r)(h1:r<xs.length)(h:xs.all (BD n)=true):∃ z:Str,fg xs r=some (ut z)/\z.length<=n:=by
 obtain⟨v,hv,z,rfl,hz⟩:=pq h0 h1 λv hv=>wX (all_eq_true.mp h v hv)
 exact⟨z,hv,hz⟩
def mC (e:H a=some (v6 xs))(h0:0<=r)(h1:r<xs.length)(h:xs.all (BD n)=true)(q:∀ x:Str,x.length<=n->Q (ut x) H):j0 K (tz a) (ul r) H Q:=by
 obtain⟨x,ex,hx⟩:=qD h0 h1 h;exact ba e ex (q x hx)
def kj (h2:2<=i)(h3:i<=1000)(hz:z.length<=1000)(hn:z.length≠0)(q:Q (ut ⟨(s0 i.toNat z.cps).foldl (·++·) #[]⟩) H):qS z i H Q:=by
 unfold qS;exact .inr ⟨h2,h3,hz,hn,q⟩
def kF (hk:2<=k)(s:Sep (hand h m::O) H)(hm:m<=1099510000000)(q:∀ (z:Str) H',z.length<=100->Sep (hand h (m+1)::O) H'->Q (ut z) H'):ab tab R k 31 [tz h] H Q E:=by
 delta dq;right;refine kj (by decide) (by decide) (by decide+kernel) (by decide+kernel) ?_;right;refine kj (by decide) (by decide) (by decide+kernel) (by decide+kernel) ?_;walk_at "gd";rename_i p1 H1 z1 p2 H2 z2 p3 H3 z3 r H4 r0 r1 z4;obtain⟨w,ev,hw⟩:=qD (n:=100) r0 r1 (by decide+kernel);refine ba (by grind) ev ?_;exact q w _ hw (z4.sub (.cons .e (.drop (.drop (.drop .refl)))))
def dP {p:Addr}{mm:Int}(z:Sep (pt p (v6 (ws.map ut))::hand h mm::O) H)(hm:mm<=m)(hn:n<=900000)(ht:dm ws<=n)(q:∀ (z:Str) H',z.length<=n->Sep (hand h m::O) H'->Q (ut z) H'):qv G.R.K .join (Str.ofString " ") (tz p) H Q:=by
 rw[show(Str.ofString " ")=gF by decide+kernel];exact A3 (G:=G) z.at nofun λw hw=>q w _ nofun (au z.drop hm)
def bc {lo hi:Option Int}:∃ vs,cX (ws.map ut) lo hi=vs.map ut/\dm vs<=dm ws/\vs.length<=ws.length:=by
 obtain⟨vs,e,hs⟩:=cut_str ws lo hi;exact⟨vs,e,mR hs,hs.length_le⟩
def nH {t:Str}(hk:3<=k)(s:Sep (hand h m::O) H)(hm:m<=1099500000000)(ht:t.length<=9000)(q:∀ (z:Str) H',z.length<=5*t.length+300->Sep (hand h (m+10)::O) H'->Q (ut z) H'):ab tab R k 33 [tz h,ut t] H Q E:=by
 have e0:=bH t;generalize hws:Txt.split t gF=ws at e0;have hne:ws≠[]:=by rw[<-hws];exact ky t 32
 have hl1:1<=ws.length:=length_pos_iff.mpr hne;have hl2:=mz ws;have hwl:∀ {j:Nat}{w:Str},ws[j]? =some w->w.length<=t.length:=λ{j w} h=>by
  have:=fM (cr h)
  omega
 delta cN;walk_at "gd";rename_i way H1 w0 w1 z1;refine⟨_,rfl,?_⟩;left;refine gp z1 (by decide+kernel) nofun λp H2 z2=>?_
 rw[show(Str.ofString " ")=gF by decide+kernel,hws]at z2;clear z1;walk_at "gd";rename_i a H3 a0 a1 z3 b H4 b0 b1 z4 l H5 z5 c H6 c0 c1 z6;rw[ce]at a1 b1;obtain⟨v,ev,i,rfl,i0,i1⟩:=pq (xs:=[ul a,ul b]) (P:=inR 0 ((ws.length:Int)-1)) (r:=c) c0 (by simpa using c1) (B1 (.mk nofun nofun) (.mk nofun nofun));refine ba (by grind) ev ?_;obtain⟨j,rfl⟩:=re i0;have hj:j<ws.length:=by omega
 obtain⟨w,hw⟩:∃ w,ws[j]? =some w:=⟨_,jp hj⟩;have hwt:=hwl hw;have eat:fg (ws.map ut) ((j:Nat):Int)=some (ut w):=L2.bb (by rw[ii,hw];rfl);have ejx:nj (ws.map ut).length ((j:Nat):Int)=some j:=by rw[lb nofun (by rw[ce];omega)];rfl
 have z7:Sep (pt p (v6 (ws.map ut))::hand h (m+4)::O) H6:=((au (z6.sub (Γ':=hand h (m+1+1+1+1)::pt p (v6 (ws.map ut))::O) (.cons .e (.cons .k1 (.drop .refl)))) nofun).pull .k1);clear z2 z3 z4 z5 z6 s ev;left;refine ay (λg=>?_) (λg=>?_)
 .right;refine ba z7.at eat ?_;left;refine t9 (m:=m+4) (O:=pt p (v6 (ws.map ut))::O) nofun (z7.pull .k1) nofun nofun λx H7 hx z8=>?_
  left;refine kC (ys:=(ws.set j x).map ut) z8 (by ac_rfl) ejx (by rw[List.map_set]) λH8 z9=>?_
  left;refine⟨_,rfl,?_⟩;left;refine dP (m:=m+10) (n:=5*t.length+300) (z9.pull .k1) nofun nofun ?_ q;have:=js (ws:=ws) (i:=j) (v:=x)
  omega
 left;refine ay (λg=>?_) (λg=>?_)
 .right;refine kF (m:=m+4) (O:=pt p (v6 (ws.map ut))::O) nofun (z7.pull .k1) nofun λx H7 hx z8=>?_
  left;refine kC (ys:=(ws.set j x).map ut) z8 (by ac_rfl) ejx (by rw[List.map_set]) λH8 z9=>?_
  left;refine⟨_,rfl,?_⟩;left;refine dP (m:=m+10) (n:=5*t.length+300) (z9.pull .k1) nofun nofun ?_ q;have:=js (ws:=ws) (i:=j) (v:=x)
  omega
 left;refine a3 rfl rfl ?_;left;refine a6 (λg=>?_) (λg=>?_)
 .left;refine gS z7 z7.at λp1 H7 z8=>?_
  left;refine gS z8 (z8.get .k1) λp2 H8 z9=>?_
  obtain⟨v1,e1,t1,n1⟩:=bc (ws:=ws) (lo:=none) (hi:=some ((j:Nat):Int));obtain⟨v2,e2,t2,n2⟩:=bc (ws:=ws) (lo:=some (((j:Nat):Int)+1)) (hi:=none);rw[e1,e2]at z9;left;refine dD z9 (z9.get .k1) z9.at (by rw[ce,ce];omega) λp3 H9 za=>?_
  rw[<-dL]at za;left;refine⟨_,rfl,?_⟩;left;exact dP (m:=m+10) (n:=5*t.length+300) (za.sub (Γ':=pt p3 (v6 ((v1++v2).map ut))::hand h (m+4)::O) (.cons .e (.cons .k3 (.drop (.drop (.drop .refl)))))) nofun nofun (by rw[aZ];omega) q
 left;refine a3 rfl rfl ?_;left;refine a6 (λg=>?_) (λg=>?_)
 .left;refine gS z7 z7.at λp1 H7 z8=>?_
  left;refine ba (z8.get .k1) eat ?_;left;refine ba (z8.get .k1) eat ?_;left;refine jn z8 (nb rfl) λp2 H8 z9=>?_
  obtain⟨v1,e1,t1,n1⟩:=bc (ws:=ws) (lo:=none) (hi:=some ((j:Nat):Int));obtain⟨v2,e2,t2,n2⟩:=bc (ws:=ws) (lo:=some (((j:Nat):Int)+1)) (hi:=none);rw[e1]at z9;left;refine dD z9 (z9.get .k1) z9.at (by rw[ce];simp;omega) λp3 H9 za=>?_
  left;refine gS za (za.get .k3) λp4 H10 zb=>?_
  rw[e2]at zb;left;refine dD zb (zb.get .k1) zb.at (by rw[ce,ci,ce];simp;omega) λp5 H11 zc=>?_
  rw[show(v1.map ut++[ut w,ut w])++v2.map ut=((v1++[w,w])++v2).map ut by simp]at zc;left;refine⟨_,rfl,?_⟩;left;exact dP (m:=m+10) (n:=5*t.length+300) (zc.sub (Γ':=pt p5 (v6 (((v1++[w,w])++v2).map ut))::hand h (m+4)::O) (.cons .e (.cons (.t (.t .k3)) (.drop (.drop (.drop (.drop (.drop .refl)))))))) nofun nofun (by rw[aZ,aZ,ag,ag,show dm []=0 from rfl];omega) q
 left;refine a3 rfl rfl ?_;left;refine a6 (λg=>?_) (λg=>?_)
 .left;refine gS z7 z7.at λp1 H7 z8=>?_
  left;refine ba (z8.get .k1) eat ?_;left;refine jn z8 (nb rfl) λp2 H8 z9=>?_
  obtain⟨v1,e1,t1,n1⟩:=bc (ws:=ws) (lo:=some (((j:Nat):Int)+1)) (hi:=some (((j:Nat):Int)+2));obtain⟨v2,e2,t2,n2⟩:=bc (ws:=ws) (lo:=none) (hi:=some ((j:Nat):Int));obtain⟨v3,e3,t3,n3⟩:=bc (ws:=ws) (lo:=some (((j:Nat):Int)+2)) (hi:=none);rw[e1]at z9;left;refine dD z9 (z9.get .k1) z9.at (by rw[ce];simp;omega) λp3 H9 za=>?_
  left;refine gS za (za.get .k3) λp4 H10 zb=>?_
  rw[e2]at zb;left;refine dD zb zb.at (zb.get .k1) (by rw[ce,ci,ce];simp;omega) λp5 H11 zc=>?_
  left;refine gS zc (zc.get (.t (.t .k3))) λp6 H12 zd=>?_
  rw[e3]at zd;left;refine dD zd (zd.get .k1) zd.at (by simp;omega) λp7 H13 ze=>?_
  rw[show(v2.map ut++(v1.map ut++[ut w]))++v3.map ut=((v2++(v1++[w]))++v3).map ut by simp]at ze;left;refine⟨_,rfl,?_⟩;left;exact dP (m:=m+10) (n:=5*t.length+300) (ze.sub (Γ':=pt p7 (v6 (((v2++(v1++[w]))++v3).map ut))::hand h (m+4)::O) (.cons .e (.cons (.t (.t (.t (.t .k3)))) (.drop (.drop (.drop (.drop (.drop (.drop (.drop .refl)))))))))) nofun nofun (by rw[aZ,aZ,aZ,ag,show dm []=0 from rfl];omega) q
 left;refine a3 rfl rfl ?_;left;refine a6 (λg=>?_) (λg=>?_)
 .right;refine k4 (m:=m+4) (O:=pt p (v6 (ws.map ut))::O) nofun (z7.pull .k1) nofun (by decide) (by decide) λd H7 d0 d1 z8=>?_
  left;refine a3 rfl rfl ?_;left;refine a6 (λg2=>?_) (λg2=>?_)
  .left;refine gS z8 (z8.get .k1) λp1 H8 z9=>?_
   obtain⟨v1,e1,t1,n1⟩:=bc (ws:=ws) (lo:=none) (hi:=some ((j:Nat):Int));rw[e1]at z9;left;refine⟨_,rfl,?_⟩;left;exact dP (m:=m+10) (n:=5*t.length+300) (z9.sub (Γ':=pt p1 (v6 (v1.map ut))::hand h (m+4+1)::O) (.cons .e (.cons .e (.drop .refl)))) nofun nofun nofun q
  .right;refine⟨_,_,rfl,z8.get .k1,?_⟩;right;refine kF (m:=m+4+1) (O:=pt p (v6 (ws.map ut))::O) nofun z8 nofun λx H8 hx z9=>?_
   right;rename_i p1 H9 za;obtain⟨y,ey,hy⟩:=qD (xs:=[ut (Str.ofString "0"),ut x]) (r:=d-1) (n:=100) nofun (by simp;omega) (by
    show(decide ((Str.ofString "0").length<=100)&&(decide (x.length<=100)&&true))=true;rw[decide_eq_true hx]
    decide+kernel)
   refine ba za.at ey ?_;left;refine⟨_,za.get .k2,lU za .k2 (by rw[ce];omega) λH10 zb=>?_⟩;rw[show ws.map ut++[ut y]=(ws++[y]).map ut by simp]at zb;left;refine⟨_,rfl,?_⟩;left;exact dP (m:=m+10) (n:=5*t.length+300) (zb.sub (Γ':=pt p (v6 ((ws++[y]).map ut))::hand h (m+4+1+1)::O) (.cons .k2 (.cons .k1 (.drop .refl)))) nofun nofun (by rw[aZ,ag,show dm []=0 from rfl];omega) q
 .right;refine kj (by decide) (by decide) (by decide+kernel) (by decide+kernel) ?_;right;refine kj (by decide) (by decide) (by decide+kernel) (by decide+kernel) ?_;right;refine kj (by decide) (by decide) (by decide+kernel) (by decide+kernel) ?_;right;rename_i p1 H7 z8;refine k4 (m:=m+4) (O:=pt p1 _::pt p (v6 (ws.map ut))::O) nofun (z8.sub (.cons .k2 (.cons .e .refl))) nofun (by decide) (by decide) λd H8 d0 d1 z9=>?_
  left;refine mC (n:=100) (z9.get .k1) d0 (by simpa using d1) (by decide+kernel) λx hx=>?_
  have hmin:0<=min 7 ((ws.length:Int)-1)/\min 7 ((ws.length:Int)-1)<((ws.map ut).length:Int):=by rw[ce];omega
  right;rw[ce];refine kC (ys:=(ws.set (min 7 ((ws.length:Int)-1)).toNat x).map ut) z9 .k2 (lb hmin.1 hmin.2) (by rw[List.map_set]) λH9 za=>?_
  left;refine⟨_,rfl,?_⟩;left;refine dP (m:=m+10) (n:=5*t.length+300) (za.sub (.cons .k2 (.cons .e (.drop .refl)))) nofun nofun ?_ q;have:=js (ws:=ws) (i:=(min 7 ((ws.length:Int)-1)).toNat) (v:=x)
  omega
end
def nq (h:gf w=true):1<=w.length/\w.length<=5:=by
 unfold gf at h;simp only[Bool.or_eq_true,beq_iff_eq,Bool.or_false]at h;rcases h with h|h|h<;>rw[<-h]<;>decide+kernel
def kX (h:i.natAbs<=1000000000):(nw i).length<=11:=(vO h).1
def bQ (h:i.natAbs<=1000000000)(q:Q (ut (nw i)) H):gN G .str [ul i] H Q:=by
 unfold gN;refine .inl ⟨i,rfl,?_,q⟩
 by_cases e:i.natAbs=0
 .rw[e];decide
 .rw[Nat.log2_lt e];exact Nat.lt_of_le_of_lt h (by decide)
def fP {n:Nat}:∀ {ws:List Str},(∀ w ∈ ws,w.length<=n)->dm ws<=(n+1)*ws.length
 | [],_=>Nat.zero_le _
 |a::r,h=>by
  have h1:=fP (ws:=r) λw hw=>h w (dl _ hw)
  have h2:=h a le;rw[ag,length_cons,Nat.mul_succ]
  omega
def zH (ws:List Str):(Txt.join (Str.ofString "") ws).length<=dm ws:=by
 have e:Txt.join (Str.ofString "") ws=Str.join (Str.ofString "") ws:=StrLaws.glued_eq_join _ _;rw[e];refine Nat.le_trans (StrLaws.join_length_le _ _) ?_;have h0:(Str.ofString "").length=0:=by decide+kernel
 have:=iK ws;rw[h0]
 omega
section
variable {h:Addr}{m:Int}
def uk (hk:4<=k)(s:Sep (hand h m::O) H)(hm:m<=1099400000000)(q:∀ (z:Str) H',z.length<=1000->Sep (hand h (m+500)::O) H'->Q (ut z) H'):ab tab R k 30 [tz h] H Q E:=by
 delta eZ;walk_at "gd";rename_i p2 H2 z2 r H3 a0 a1 z3;obtain⟨v,ev,M,rfl,M0,M1⟩:=pq (xs:=[ul 4,ul 60]) (P:=inR 1 60) (r:=r) a0 (by simpa using a1) (B1 (.mk (by decide) (by decide)) (.mk (by decide) (by decide)));refine ba (by grind) ev ?_;walk_at "gd";refine uL (k:=k-1) (O:=O) (m:=m+1) nofun (au (z3.sub (Γ':=hand h (m+1)::O) (.cons .e (.drop .refl))) nofun) nofun M0 M1 (λC cs H4 l0 l1 hc z4=>?_);clear z2 z3 s;right;rw[ce];refine oE (k:=k-1) (O:=pt C (v6 (cs.map ul))::O) (m:=m+1+300) nofun nofun l0 nofun (z4.pull .k1) (λL lv H5 hl1 hl z5=>?_);clear z4;walk_at "gd";rename_i d1 H6 b0 b1 z6;refine bQ nofun ?_;walk_at "gd";rename_i d2 H7 c0 c1 z7;refine bQ nofun ?_;walk_at "gd";rename_i d3 H8 e0 e1 z8;refine bQ nofun ?_;walk_at "gd";rename_i d4 H9 f0 f1 z9;refine bQ nofun ?_;walk_at "gd";rename_i p1 Ha za p3 Hb zb g Hc g0 g1 zc;refine mC (n:=2) (zc.get .k1) g0 (by simpa using g1) (by decide+kernel) λx hx=>?_
 right;have zd:Sep (hand h (m+330)::pt p1 (v6 [ut (nw d1),ut (nw d2),ut (nw (-d3)),ut (nw d4)])::pt L (v6 (lv.map ut))::pt C (v6 (cs.map ul))::O) Hc:=au (zc.sub (.cons .e (.drop .refl))) nofun;clear z5 z6 z7 z8 z9 za zb zc;refine ic (k:=k-1) (m:=m+330) nofun zd nofun λy Hd y0 y1 ze=>?_
 left;refine bQ nofun ?_;walk_at "gd";rename_i u He u0 u1 zf;refine bQ nofun ?_;right;rename_i p4 Hf zg p5 Hg zh;have hW:∃ W:List Str,[ut (nw d1),ut (nw d2),ut (nw (-d3)),ut (nw d4)]++[ut x,ut (nw y),ut (nw u)]=W.map ut/\dm W<=84/\W.length=7:=by
  refine⟨[nw d1,nw d2,nw (-d3),nw d4,x,nw y,nw u],rfl,fP (n:=11) λw hw=>?_,rfl⟩;simp only[lf,not_mem_nil,or_false]at hw;rcases hw with rfl|rfl|rfl|rfl|rfl|rfl|rfl
  .apply kX;omega
  .apply kX;omega
  .apply kX;omega
  .apply kX;omega
  .exact Nat.le_trans hx (by decide)
  .apply kX;omega
  .apply kX;omega
 obtain⟨W,eW,tW,lW⟩:=hW;rw[eW]at zh;have zi:Sep (pt p5 (v6 (W.map ut))::hand h (m+340)::pt L (v6 (lv.map ut))::pt C (v6 (cs.map ul))::O) Hg:=(au (zh.sub (Γ':=hand h (m+330+3+1)::pt p5 (v6 (W.map ut))::pt L (v6 (lv.map ut))::pt C (v6 (cs.map ul))::O) (.cons .k2 (.cons .e (.drop (.drop .refl))))) nofun).sub (.cons .k1 (.cons .e .refl));clear zd ze zf zg zh;right;refine⟨_,_,rfl,zi.at,?_⟩;left;refine⟨_,rfl,?_⟩;left;refine⟨rfl,?_⟩;left;refine tZ (zi.get .k2) ?_;refine kN (xs:=lv.map ut) (by rw[ce];omega) (λD ys H=>(∃ ws:List Str,ys=ws.map ut/\∀ w ∈ ws,w.length<=1)/\Sep (pt D (v6 ys)::pt p5 (v6 (W.map ut))::hand h (m+340)::pt L (v6 (lv.map ut))::pt C (v6 (cs.map ul))::O) H) (λD ys H hI=>aA.of (hI.2.get .k3)) (λD hD=>⟨⟨[],rfl,λw hw=>nomatch hw⟩,zi.new (o:=v6 []) hD⟩) (λD ys x H hx hI=>?_) (λD ys H hly hI=>?_)
 .obtain⟨⟨ws,rfl,hws⟩,z1⟩:=hI;have hlt:=(sn.mp hx).1;rw[ii]at hx;obtain⟨w,hw,rfl⟩:=lw.mp hx;rw[ce,ce]at hlt;have hl5:=nq (hl w (cr hw));left;refine zR (z:=w) nofun (by decide) nofun λu hu=>?_
  refine fX.mk z1.at (by rw[ce];omega) ⟨⟨ws++[u],by simp,λx hm=>?_⟩,z1.set rfl⟩;rcases mem_append.mp hm with hm|hm
  .exact hws x hm
  .rw[mem_singleton.mp hm];omega
 obtain⟨⟨ws,rfl,hws⟩,z1⟩:=hI;rw[ce,ce]at hly;have tws:=fP hws;left;refine md (G:=⟨tab,R,ab tab R (k-1),true⟩) (zs:=ws) z1.at (by rw[iK];omega) (by decide+kernel) ?_;have jl:=zH ws;generalize Txt.join (Str.ofString "") ws=jz at jl⊢;left;refine⟨_,z1.get .k1,lU z1 .k1 (by rw[ce];omega) λH7 z2=>?_⟩;rw[show W.map ut++[ut jz]=(W++[jz]).map ut by simp]at z2;have z3:Sep (pt p5 (v6 ((W++[jz]).map ut))::hand h (m+340)::pt C (v6 (cs.map ul))::O) H7:=z2.sub (.cons .k1 (.cons .k1 (.cons .k2 (.drop (.drop .refl)))));clear z1 z2 zi;left;refine⟨_,rfl,?_⟩;left;refine⟨rfl,?_⟩;left;refine tZ (z3.get .k2) ?_;refine kN (xs:=cs.map ul) (by rw[ce];omega) (λD ys H=>(∃ ws:List Str,ys=ws.map ut/\∀ w ∈ ws,w.length<=11)/\Sep (pt D (v6 ys)::pt p5 (v6 ((W++[jz]).map ut))::hand h (m+340)::pt C (v6 (cs.map ul))::O) H) (λD ys H hI=>aA.of (hI.2.get .k3)) (λD hD=>⟨⟨[],rfl,λw hw=>nomatch hw⟩,z3.new (o:=v6 []) hD⟩) (λD ys x H hx hI=>?_) (λD ys H hly2 hI=>?_)
 .obtain⟨⟨ws,rfl,hws⟩,z1⟩:=hI;have hlt:=(sn.mp hx).1;rw[ii]at hx;obtain⟨i,hi,rfl⟩:=lw.mp hx;rw[ce,ce]at hlt;have hc5:=hc i (cr hi);left;refine bQ nofun ?_;refine fX.mk z1.at (by rw[ce];omega) ⟨⟨ws++[nw i],by simp,λx hm=>?_⟩,z1.set rfl⟩;rcases mem_append.mp hm with hm|hm
  .exact hws x hm
  .rw[mem_singleton.mp hm];apply kX;omega
 obtain⟨⟨vs,rfl,hvs⟩,z4⟩:=hI;rw[ce,ce]at hly2;have tvs:=fP hvs;left;refine dD z4 (z4.get .k1) z4.at (by simp;omega) λp6 H8 z5=>?_
 rw[<-dL]at z5;have tT:dm ((W++[jz])++vs)<=1000:=by
  rw[aZ,aZ,ag,show dm []=0 from rfl]
  omega
 left;exact dP (m:=m+500) (n:=1000) (mm:=m+340) (z5.sub (.cons .e (.cons .k2 (.drop (.drop (.drop .refl)))))) nofun nofun tT q
end
def pR {d:Addr}{ks:List Str}{vs:List V}{kvs:List (Key×V)}(z:Sep O H)(r:cA (pt d (.dK [])) (pt d (.dK kvs)) O Γ')(e:dh [] (yx ks vs)=kvs)(q:∀ H',Sep Γ' H'->Q (tz d) H'):mM ks d vs H Q:=by
 obtain⟨Δ,p1,p2⟩:=r.j6;unfold mM;rw[e];exact⟨z.get p1,q _ (z.put r rfl)⟩
abbrev i4:gT->gT
 | .cons (.for _ _ b) _=>b
 |_=>.nil
abbrev yC:Nat->Int
 |1=>-1000000000
 |2=>-1000000000
 |4=>-1
 |_=>0
abbrev yG:Nat->Int
 |0=>24
 |4=>1
 |6=>1
 |_=>1000000000
abbrev tB (j:Nat)(i:Int):Bool:=decide (j=4)&&decide (i=0)
def vT (hj:j<6)(i:Int):bI j (ul i)=(dn (yC (j+1)) (yG (j+1)) i&& !tB (j+1) i):=by
 rcases(by omega:j=0\/j=1\/j=2\/j=3\/j=4\/j=5) with rfl|rfl|rfl|rfl|rfl|rfl
 .show(decide (-1000000000<=i)&&decide (i<=1000000000))=((decide (-1000000000<=i)&&decide (i<=1000000000))&&true);rw[Bool.and_true]
 .show(decide (-1000000000<=i)&&decide (i<=1000000000))=((decide (-1000000000<=i)&&decide (i<=1000000000))&&true);rw[Bool.and_true]
 .show rZ (ul i)=((decide (0<=i)&&decide (i<=1000000000))&&true);rw[Bool.and_true,Bool.eq_iff_iff];unfold rZ;simp
 .show(i ==1||i == -1)=((decide (-1<=i)&&decide (i<=1))&& !(true&&decide (i=0)));rw[Bool.eq_iff_iff];simp
  omega
 .show rZ (ul i)=((decide (0<=i)&&decide (i<=1000000000))&&true);rw[Bool.and_true,Bool.eq_iff_iff];unfold rZ;simp
 .show(i ==0||i ==1)=((decide (0<=i)&&decide (i<=1))&&true);rw[Bool.eq_iff_iff];simp
  omega
def rD (hj:j<7):okN ws j=(numAt ws j).any λi=>dn (yC j) (yG j) i&& !tB j i:=by
 cases j with
 |zero=>
  show(numAt ws 0).any (dn 0 24)=_;cases numAt ws 0 with
  |none=>rfl
  |some i=>
   show dn 0 24 i=(dn 0 24 i&&true);rw[Bool.and_true]
 |succ j=>
  show(if j<6 then(numAt ws (j+1)).any (λi=>bI j (ul i)) else _)=_;rw[if_pos nofun];cases numAt ws (j+1) with
  |none=>rfl
  |some i=>exact vT nofun i
def wC:okN ws (8+j)=(numAt ws (8+j)).any (dn 0 1000000000):=by
 rw[show 8+j=(7+j)+1 by omega];show(if 7+j<6 then _ else if 7+j=6 then _ else _)=_;rw[if_neg nofun,if_neg nofun]
def qu (h:okN ws j=true):j<ws.length:=by
 have key:∀ {f:Int->Bool},(numAt ws j).any f=true->j<ws.length:=λ{f} h=>by
  cases e:numAt ws j with
  |none=>rw[e]at h;cases h
  |some i=>
   obtain⟨w,hw⟩:=gi e;exact(sn.mp hw).1
 by_cases h7:j<7
 .rw[rD h7]at h;exact key h
 .by_cases e:j=7
  .subst e;have h:(ws[7]?).any aH=true:=h;cases e:ws[7]? with
   |none=>rw[e]at h;cases h
   |some w=>exact(sn.mp e).1
  .obtain⟨i,rfl⟩:∃ i,j=8+i:=⟨j-8,by omega⟩;rw[wC]at h;exact key h
def ma (h:∀ i,i<j->okN ws i=true):j<=ws.length:=by
 cases j with
 |zero=>exact Nat.zero_le _
 |succ j=>exact qu (h j (Nat.lt_succ_self j))
def rq (h:ws[j]? =some w):numAt ws j=c5 w:=by unfold numAt;rw[h];rfl
def hE {lo hi:Int}(h:gj w lo hi=some i):c5 w=some i/\dn lo hi i=true:=by
 unfold gj at h
 split at h
 .rename_i j e
  split at h
  .rename_i g;cases h;exact⟨e,g⟩
  .cases h
 .cases h
def hJ {lo hi:Int}(h:gj w lo hi=none):∀ i,c5 w=some i->dn lo hi i=false:=λi e=>by
 unfold gj at h;rw[e]at h;cases g:dn lo hi i with
 |false=>rfl
 |true=>have h:(if dn lo hi i=true then some i else none)=none:=h;rw[if_pos g]at h;cases h
abbrev dH (ws:List Str)(a n:Nat):List V:=(List.range n).map λi=>ul (hR ws (a+i))
def fD {a:Nat}:(dH ws a n).length=n:=by unfold dH;rw[ce,length_range]
def jP {a:Nat}(h:numAt ws (a+n)=some i):dH ws a n++[ul i]=dH ws a (n+1):=by
 unfold dH;rw[List.range_succ,dL];show _=_++[ul (hR ws (a+n))];unfold hR;rw[h]
 rfl
abbrev BW (t0 t1 t2 t3 t4 t5 t6:Addr)(O:List aB):List aB:=tu t0 [ul 0,ul 24]::tu t1 [ul (-1000000000),ul 1000000000]::tu t2 [ul (-1000000000),ul 1000000000]::tu t3 [ul 0,ul 1000000000]::tu t4 [ul (-1),ul 1]::tu t5 [ul 0,ul 1000000000]::tu t6 [ul 0,ul 1]::O
def zm {t0 t1 t2 t3 t4 t5 t6:Addr}(hj:j<7)(z:Sep (BW t0 t1 t2 t3 t4 t5 t6 O) H):∃ t,fg [tz t0,tz t1,tz t2,tz t3,tz t4,tz t5,tz t6] (0+(j:Int))=some (tz t)/\H t=some (wf [ul (yC j),ul (yG j)]):=by
 rcases(by omega:j=0\/j=1\/j=2\/j=3\/j=4\/j=5\/j=6) with rfl|rfl|rfl|rfl|rfl|rfl|rfl
 .exact⟨t0,rfl,z.fw .e⟩
 .exact⟨t1,rfl,z.fw .k1⟩
 .exact⟨t2,rfl,z.fw .k2⟩
 .exact⟨t3,rfl,z.fw .k3⟩
 .exact⟨t4,rfl,z.fw (.t .k3)⟩
 .exact⟨t5,rfl,z.fw (.t (.t .k3))⟩
 .exact⟨t6,rfl,z.fw (.t (.t (.t .k3)))⟩
section
variable {p eL N t0 t1 t2 t3 t4 t5 t6:Addr}{ws:List Str}
abbrev As (p eL N t0 t1 t2 t3 t4 t5 t6:Addr)(ws:List Str)(j:Nat)(O:List aB):List aB:=
 pt N (v6 (dH ws 0 j))::pt p (aK ws)::pt eL (v6 [tz t0,tz t1,tz t2,tz t3,tz t4,tz t5,tz t6])::BW t0 t1 t2 t3 t4 t5 t6 O
abbrev Aq (Q:VK)(ws:List Str)(O:List aB):Prop:=∀ n p H',kD ws n->Sep (pt p (wf [ut "none",ul (n:Int)])::O) H'->Q (tz p) H'
def uz {x y4 y5:Option V}{u6 u7 u8:Option V}{D:Ends}{E:St->XK}(hk:2<=k)(hj:j<7)(hw:∀ w ∈ ws,w.length<=100000) (ok:∀ i,i<j->okN ws i=true) (z:Sep (As p eL N t0 t1 t2 t3 t4 t5 t6 ws j O) H) (hr:Aq D.rt ws O)
  (q:∀ y5' H',(∀ i,i<j+1->okN ws i=true)->Sep (As p eL N t0 t1 t2 t3 t4 t5 t6 ws (j+1) O) H'->D.nx [x,some (tz p),some (tz eL),some (tz N),some (ul (0+(j:Int))),y5',u6,u7,u8] H'):
  wB (i4 (aX 3 az.body)) ⟨tab,R,ab tab R (k-1),true⟩ D E [x,some (tz p),some (tz eL),some (tz N),some (ul (0+(j:Int))),y5,u6,u7,u8] H:=by
 have hle:=ma ok;have ep:=z.get (a:=p) (o:=aK ws) .k1;unfold aK at ep;have eE:=z.get (a:=eL) .k2;obtain⟨t,et,eT⟩:=zm hj (O:=O) (z.drop.drop.drop);have fin:okN ws j=false->∀ {P:Addr}{H':Hp}{c:Int},c=(j:Int)->Sep (pt P (wf [ut "none",ul c])::As p eL N t0 t1 t2 t3 t4 t5 t6 ws j O) H'->D.rt (tz P) H':=λhb {P H' c} ec z1=>by
  subst ec;exact hr j P H' ⟨ok,.inl ⟨hb,λh=>absurd h nofun⟩⟩ (z1.sub (.cons .e (aI [_,_,_,_,_,_,_,_,_,_])))
 right;refine aw ep ?_;right;rw[ce];refine ay (λg=>?_) (λg=>?_)
 .obtain⟨w,ew⟩:∃ w,ws[j]? =some w:=⟨_,jp nofun⟩;have eN:=rq ew;right;refine ba ep (v:=ut w) (pP (by rw[ii,ew];rfl)) ?_;left;refine ba eE et ?_;left;refine xj eT rfl ?_;left;refine ba eE et ?_;left;refine xj eT rfl ?_;left;refine iz nofun z (hw w (cr ew)) λH1 z1=>?_
  clear eT eE ep;have ep:=z1.get (a:=p) (o:=aK ws) .k1;unfold aK at ep;cases el:gj w (yC j) (yG j) with
  |none=>
   have hb:okN ws j=false:=by
    rw[rD hj,eN];cases e:c5 w with
    |none=>rfl
    |some i=>show(dn (yC j) (yG j) i&& !tB j i)=false;rw[hJ el i e];rfl
   left;refine cZ ?_;right;refine aw ep ?_;right;rename_i P H2 z2;exact fin hb (by rw[ce];omega) z2
  |some i=>
   obtain⟨e1,e2⟩:=hE el;have ho:okN ws j= !tB j i:=by
    rw[rD hj,eN,e1];show(dn (yC j) (yG j) i&& !tB j i)=_;rw[e2]
    rfl
   have yes:tB j i=false->wB (aX 3 (i4 (aX 3 az.body))) ⟨tab,R,ab tab R (k-1),true⟩ D E [x,some (tz p),some (tz eL),some (tz N),some (ul (0+(j:Int))),some (ul i),u6,u7,u8] H1:=λhz=>by
    right;refine⟨_,_,rfl,z1.at,?_⟩;left;refine⟨_,z1.at,lU z1 .e (by rw[fD];omega) λH2 z2=>?_⟩;rw[jP (i:=i) (by rw[Nat.zero_add,eN,e1])]at z2;exact q _ _ (λi' hi'=>by
     by_cases h:i'<j
     .exact ok i' h
     .rw[show i'=j by omega,ho,hz];rfl) z2
   left;refine cZ ?_;left;refine a7 rfl ?_;left;refine a3 rfl rfl ?_;left;refine a6 (λg4=>?_) (λg4=>?_)
   .have g4:j=4:=by omega
    left;refine a3 rfl rfl ?_;left;refine a6 (λg5=>?_) (λg5=>?_)
    .right;refine aw ep ?_;right;rename_i P H2 z2;exact fin (by rw[ho];unfold tB;rw[decide_eq_true g4,decide_eq_true g5];rfl) (by rw[ce];omega) z2
    .exact yes (by unfold tB;rw[decide_eq_false g5,Bool.and_false])
   .left;refine a7 rfl ?_;exact yes (by unfold tB;rw[decide_eq_false nofun,Bool.false_and])
 .have hb:okN ws j=false:=by
   rw[Bool.eq_false_iff];intro h;have:=qu h
   omega
  left;refine cZ ?_;right;refine aw ep ?_;right;rename_i P H2 z2;exact fin hb (by rw[ce];omega) z2
end
def A0:("ols":Str).cps.toList=[111,108,115]:=by decide+kernel
def xw (q:Q (.bl (jv c).isSome) H):qr K false (ut ⟨#[c]⟩) (ut ("ols":Str)) H Q:=by
 refine Ab (b:=(jv c).isSome) ?_ q;rw[StrLaws.found_one,A0];unfold jv;rw[Bool.eq_iff_iff,decide_eq_true_eq];simp only[lf,not_mem_nil,or_false]
 by_cases h1:c=111
 .simp[h1]
 .by_cases h2:c=108
  .simp[h2]
  .by_cases h3:c=115
   .simp[h3]
   .simp[h1,h2,h3]
abbrev Ce:List (Key×V):=[(.inr "o",ut "open"),(.inr "l",ut "look"),(.inr "s",ut "shut")]
def yi {l:Str}(h:jv c=some l):fu Ce (.inr ⟨#[c]⟩)=some (ut l):=by
 unfold jv at h
 split at h
 .rename_i e;subst e;cases h;decide+kernel
 .split at h
  .rename_i e;subst e;cases h;decide+kernel
  .split at h
   .rename_i e;subst e;cases h;decide+kernel
   .cases h
def zl (h7:7<=ws.length)(hw:∀ w ∈ ws,w.length<=100000):∃ w:Str,fg (ws.map ut++[ut (Str.ofString "")]) (min 7 (ws.length:Int))=some (ut w)/\w.length<=100000/\okN ws 7=aH w/\(aH w=true->ws[7]? =some w):=by
 have e0:(Str.ofString "").length=0:=by decide+kernel
 cases e:ws[7]? with
 |some w=>
  have hl:=(sn.mp e).1;refine⟨w,?_,hw w (cr e),by show(ws[7]?).any aH=_;rw[e];rfl,λ_=>rfl⟩;rw[show min 7 (ws.length:Int)=((7:Nat):Int) by omega];exact L2.bb (by rw[List.getElem?_append_left (by rw[ce];exact hl),ii,e];rfl)
 |none=>
  have hl:ws.length=7:=by have:=List.getElem?_eq_none_iff.mp e;omega
  have hf:aH (Str.ofString "")=false:=by unfold aH;rw[e0];rfl
  refine⟨Str.ofString "",?_,by rw[e0];exact Nat.zero_le _,by show(ws[7]?).any aH=_;rw[e,hf];rfl,λh=>by rw[hf]at h;cases h⟩;rw[show min 7 (ws.length:Int)=((7:Nat):Int) by omega];exact L2.bb (by rw[List.getElem?_append_right (by rw[ce,hl];exact pc _),ce,hl];rfl)
section
variable {p N C:Addr}{ws:List Str}{w:Str}{t:Str}
abbrev A9 (Q:VK)(ws:List Str)(O:List aB):Prop:=∀ P T S B C L H',qI ws->Sep (pt P (wf [ut "read",tz T])::ya T S B C L (hR ws 0) (kz ws) (rY ws) (oZ ws) O) H'->Q (tz P) H'
def tP {x y2:Option V}{y5:Option V}{u8:Option V}{D:Ends}{E:St->XK}(hk:2<=k)(e7:ws[7]? =some w)(hj:j<w.length)(hl6:w.length<=60)(hw:∀ w ∈ ws,w.length<=100000) (ok:∀ i,i<8+j->okN ws i=true) (z:Sep (pt C (v6 (dH ws 8 j))::pt N (v6 (dH ws 0 7))::pt p (aK ws)::O) H) (hr:Aq D.rt ws O)
  (q:∀ H',(∀ i,i<8+(j+1)->okN ws i=true)->Sep (pt C (v6 (dH ws 8 (j+1)))::pt N (v6 (dH ws 0 7))::pt p (aK ws)::O) H'->D.nx [x,some (tz p),y2,some (tz N),some (ul (0+(j:Int))),y5,some (ut w),some (tz C),u8] H'):
  wB (i4 (aX 7 az.body)) ⟨tab,R,ab tab R (k-1),true⟩ D E [x,some (tz p),y2,some (tz N),some (ul (0+(j:Int))),y5,some (ut w),some (tz C),u8] H:=by
 have hle:=ma ok;have ep:=z.get (a:=p) (o:=aK ws) .k2;unfold aK at ep;have eLL:bT ws=w.length:=by unfold bT;rw[e7];rfl
 have fin:okN ws (8+j)=false->∀ {P:Addr}{H':Hp}{c:Int},c=((8+j:Nat):Int)->Sep (pt P (wf [ut "none",ul c])::pt C (v6 (dH ws 8 j))::pt N (v6 (dH ws 0 7))::pt p (aK ws)::O) H'->D.rt (tz P) H':=λhb {P H' c} ec z1=>by
  subst ec;exact hr (8+j) P H' ⟨ok,.inl ⟨hb,λ_=>by rw[eLL];omega⟩⟩ (z1.sub (.cons .e (aI [_,_,_])))
 right;refine aw ep ?_;right;rw[ce];refine ay (λg=>?_) (λg=>?_)
 .have hb:okN ws (8+j)=false:=by
   rw[Bool.eq_false_iff];intro h;have:=qu h
   omega
  right;refine aw ep ?_;right;rename_i P H2 z2;exact fin hb (by rw[ce];omega) z2
 .obtain⟨v,ev⟩:∃ v,ws[8+j]? =some v:=⟨_,jp nofun⟩;have eN:=rq ev;have eI:fg (ws.map ut) (8+(0+(j:Int)))=some (ut v):=by
   rw[show 8+(0+(j:Int))=((8+j:Nat):Int) by omega];exact L2.bb (by rw[ii,ev];rfl)
  right;refine ba ep eI ?_;right;rw[ph];refine iz nofun z (hw v (cr ev)) λH1 z1=>?_
  clear ep;have ep:=z1.get (a:=p) (o:=aK ws) .k2;unfold aK at ep;cases el:gj v 0 1000000000 with
  |none=>
   have hb:okN ws (8+j)=false:=by
    rw[wC,eN];cases e:c5 v with
    |none=>rfl
    |some i=>exact hJ el i e
   left;refine cZ ?_;right;refine aw ep ?_;right;rename_i P H2 z2;exact fin hb (by rw[ce];omega) z2
  |some i=>
   obtain⟨e1,e2⟩:=hE el;have ho:okN ws (8+j)=true:=by rw[wC,eN,e1];exact e2
   have hv:nZ v=true/\lg v.cps.toList=i:=by
    unfold c5 at e1
    split at e1
    .rename_i g;cases e1;exact⟨g,rfl⟩
    .cases e1
   obtain⟨n1,n2⟩:=iQ hv.1;rw[hv.2]at n1;left;refine cZ ?_;right;refine⟨_,_,rfl,z1.at,?_⟩;left;refine ba ep eI ?_;left;refine cF (z:=v) n1 nofun ?_;left;refine⟨_,z1.at,lU z1 .e (by rw[fD];omega) λH2 z2=>?_⟩;rw[jP (i:=i) (by rw[eN,e1])]at z2;exact q _ (λi' hi'=>by
    by_cases h:i'<8+j
    .exact ok i' h
    .rw[show i'=8+j by omega];exact ho) z2
end
section
variable {p N C:Addr}{ws:List Str}{w:Str}{t:Str}
def wz {l:Str}(hc:w.cps.toList[j]? =some c)(hl:jv c=some l):(kG w)[j]? =some l:=by
 unfold kG;rw[ii,hc];show some ((jv c).getD "open")=some l;rw[hl]
 rfl
def sk:fg (dH ws 0 7) 0=some (ul (hR ws 0)):=rfl
def yw:cX (dH ws 0 7) (some 1) none=(kz ws).map ul:=by
 show cX (dH ws 0 7) (some ((1:Nat):Int)) none=_;unfold cX
 rfl
def vU {x y2 y4 y5 u8:Option V}{E:St->XK}{nx bk ct:St->Hp->Prop}(hk:2<=k)(ew:aH w=true)(e7:ws[7]? =some w)(hw:∀ w ∈ ws,w.length<=100000) (ok:∀ i,i<8+w.length->okN ws i=true) (z:Sep (pt C (v6 (dH ws 8 w.length))::pt N (v6 (dH ws 0 7))::pt p (aK ws)::O) H) (hr:Aq Q ws O) (hq:A9 Q ws O):
  wB (aX 8 az.body) ⟨tab,R,ab tab R (k-1),true⟩ { nx:=nx,rt:=Q,bk:=bk,ct:=ct } E [x,some (tz p),y2,some (tz N),y4,y5,some (ut w),some (tz C),u8] H:=by
 have hle:=ma ok;have ep:=z.get (a:=p) (o:=aK ws) .k2;unfold aK at ep;have eLL:bT ws=w.length:=by unfold bT;rw[e7];rfl
 have eV:rY ws=kG w:=by unfold rY;rw[e7];rfl
 have g2:=ew;unfold aH at g2;simp only[li,decide_eq_true_eq]at g2;obtain⟨g3,g4,g5⟩:=g2;have hz:w.cps.size=w.length:=rfl;right;refine aw ep ?_;right;rw[fD,ce];refine ay (λg=>?_) (λg=>?_)
 .right;rename_i P H2 z2;rw[fD]at z2;exact hr (8+w.length) P H2 ⟨ok,.inr ⟨by rw[eLL],by omega⟩⟩ (z2.sub (.cons .e (aI [_,_,_])))
 .have good:qI ws:=⟨by rw[eLL];exact ok,by rw[eLL];omega⟩;left;refine⟨rfl,?_⟩;left;refine eD (z:=w) nofun (λD ys H=>ys=((kG w).map ut).take ys.length/\Sep (pt D (v6 ys)::pt C (v6 (dH ws 8 w.length))::pt N (v6 (dH ws 0 7))::pt p (aK ws)::O) H) (λD hD=>⟨rfl,z.new (o:=v6 []) hD⟩) (λD ys c H hc hI=>?_) (λD ys H hl hI=>?_)
  .obtain⟨e1,z1⟩:=hI;have hcm:w.cps.toList[ys.length]? =some c:=by rw[Array.getElem?_toList];exact hc
   have hyl:ys.length<w.cps.size:=(Array.getElem?_eq_some_iff.mp hc).1;obtain⟨l,el⟩:=Option.isSome_iff_exists.mp (all_eq_true.mp g5 c (cr hcm));right;intro d hd;have z2:=z1.new (o:=.dK []) hd;left;refine pR (kvs:=Ce) z2 .e rfl (λH3 z3=>?_);right;refine BJ (k:=.inr ⟨#[c]⟩) z3.at (yi el) ?_;refine fX.mk (z3.get .k1) nofun ⟨?_,z3.drop.set rfl⟩;rw[ci,f8,take_add_one,<-e1,ii,wz hcm el]
   rfl
  .obtain⟨e1,z1⟩:=hI;rw[hl,take_of_length_le (by rw[ce,dw];omega)]at e1;subst e1;left;refine ba (z1.get .k2) sk ?_;left;refine gS z1 (z1.get .k2) λP1 H2 z2=>?_
   rw[yw]at z2;left;refine qe z2 z2.at λB H3 z3=>?_
   right;rename_i S H4 z4 T H5 z5 P H6 z6;refine hq P T S B C D H6 good ?_;rw[eV];have eC:dH ws 8 w.length=(oZ ws).map ul:=by unfold oZ dH;rw[eLL,List.map_map];rfl
   rw[eC]at z6;exact z6.sub (.cons .e (.cons .e (.cons .e (.cons .e (.cons .k2 (.cons .k1 (.drop (.drop (.drop .refl)))))))))
def wZ {x y2 y4 y5 u6 u7 u8:Option V}{E:St->XK}{nx bk ct:St->Hp->Prop}(hk:2<=k)(hw:∀ w ∈ ws,w.length<=100000) (hl:ws.length<=100000-1) (ok:∀ i,i<7->okN ws i=true) (z:Sep (pt N (v6 (dH ws 0 7))::pt p (aK ws)::O) H) (hr:Aq Q ws O) (hq:A9 Q ws O):
  wB (aX 4 az.body) ⟨tab,R,ab tab R (k-1),true⟩ { nx:=nx,rt:=Q,bk:=bk,ct:=ct } E [x,some (tz p),y2,some (tz N),y4,y5,u6,u7,u8] H:=by
 have hle:=ma ok;have ep:=z.get (a:=p) (o:=aK ws) .k1;unfold aK at ep;obtain⟨w,ew,wl,wo,w7⟩:=zl hle hw;have fin:aH w=false->∀ {S:List aB}{P:Addr}{H':Hp}{c:Int},c=7->Sep (pt P (wf [ut "none",ul c])::(S++O)) H'->Q (tz P) H':=λhb {S P H' c} ec z1=>by
  subst ec;exact hr 7 P H' ⟨ok,.inl ⟨wo.trans hb,λh=>absurd h (by decide)⟩⟩ (z1.sub (.cons .e (aI S)))
 left;refine jn z (nb rfl) λl H1 z1=>?_
 left;refine dD z1 (z1.get .k2) z1.at (by rw[ce];simp;omega) λl2 H2 z2=>?_
 right;refine aw (z2.get (a:=p) (o:=v6 (ws.map ut)) .k3) ?_;right;rw[ce];refine ba z2.at ew ?_;right;refine bO (z:=w) wl ?_;right;refine ay (λg1=>?_) (λg1=>?_)
 rotate_left
 .right;refine aw (z2.get (a:=p) (o:=v6 (ws.map ut)) .k3) ?_;right;rename_i P H3 z3;refine fin ?_ (S:=[_,_,_,_]) (by rw[ce];omega) z3;unfold aH;rw[decide_eq_false nofun]
  rfl
 right;refine ay (λg2=>?_) (λg2=>?_)
 rotate_left
 .right;refine aw (z2.get (a:=p) (o:=v6 (ws.map ut)) .k3) ?_;right;rename_i P H3 z3;refine fin ?_ (S:=[_,_,_,_]) (by rw[ce];omega) z3;unfold aH;rw[decide_eq_true nofun,decide_eq_false nofun]
  rfl
 have hz:w.cps.size=w.length:=rfl;have z3:Sep (pt N (v6 (dH ws 0 7))::pt p (aK ws)::O) H2:=z2.drop.drop;right;refine eD (z:=w) nofun (λD ys H=>ys=(w.cps.toList.map λc=>V.bl (jv c).isSome).take ys.length/\Sep (pt D (v6 ys)::pt N (v6 (dH ws 0 7))::pt p (aK ws)::O) H) (λD hD=>⟨rfl,z3.new (o:=v6 []) hD⟩) (λD ys c H hc hI=>?_) (λD ys H hl hI=>?_)
 .obtain⟨e,z4⟩:=hI;have hcm:w.cps.toList[ys.length]? =some c:=by rw[Array.getElem?_toList];exact hc
  have hyl:ys.length<w.cps.size:=(Array.getElem?_eq_some_iff.mp hc).1;left;refine xw ?_;refine fX.mk z4.at nofun ⟨?_,z4.set rfl⟩;rw[ci,f8,take_add_one,<-e,ii,hcm]
  rfl
 obtain⟨e,z4⟩:=hI;rw[hl,take_of_length_le (by rw[ce,Array.length_toList];exact pc _)]at e;subst e;have eB:(w.cps.toList.map λc=>V.bl (jv c).isSome)=(w.cps.toList.map λc=>(jv c).isSome).map V.bl:=by rw[List.map_map];rfl
 have el:aH w=(w.cps.toList.map λc=>(jv c).isSome).all id:=by
  unfold aH;rw[decide_eq_true nofun,decide_eq_true nofun,List.all_map]
  rfl
 rw[eB]at z4;left;refine Ak (aA.of z4.at) rfl (by rw[all_eq_true];intro x hx;obtain⟨b,_,rfl⟩:=List.mem_map.mp hx;rfl) ?_;rw[eG,<-el]
 by_cases g3:aH w=true
 .rw[g3];have e7:=w7 g3;right;rename_i C H5 z5;refine bO (z:=w) wl ?_;right;have z6:Sep (pt C (v6 (dH ws 8 0))::pt N (v6 (dH ws 0 7))::pt p (aK ws)::O) H5:=z5.sub (.cons .e (.drop .refl));rw[show((w.length:Int)).toNat=w.length from pi _];refine bK (n:=w.length) (λj U H=>∃ y4,U=[x,some (tz p),y2,some (tz N),y4,y5,some (ut w),some (tz C),u8]/\(∀ i,i<8+j->okN ws i=true)/\Sep (pt C (v6 (dH ws 8 j))::pt N (v6 (dH ws 0 7))::pt p (aK ws)::O) H) ?_ ?_ ?_
  .refine⟨_,rfl,λi hi=>?_,z6⟩
   by_cases h:i<7
   .exact ok i h
   .rw[show i=7 by omega];exact wo.trans g3
  .rintro j U H hj ⟨y4,rfl,okj,z7⟩;exact tP (k:=k) hk e7 hj nofun hw okj z7 hr λH' ok' z'=>⟨_,rfl,ok',z'⟩
  .rintro U H ⟨y4,rfl,okj,z7⟩;exact vU hk g3 e7 hw okj z7 hr hq
 .have g3:aH w=false:=by simpa using g3
  rw[g3];right;refine aw (z4.get (a:=p) (o:=v6 (ws.map ut)) .k2) ?_;right;rename_i P H3 z5;exact fin g3 (S:=[_,_,_]) (by rw[ce];omega) z5
def su {eL t0 t1 t2 t3 t4 t5 t6:Addr}(z:Sep (pt N (v6 [])::pt eL (v6 [tz t0,tz t1,tz t2,tz t3,tz t4,tz t5,tz t6])::pt t6 (wf [ul 0,ul 1])::pt t5 (wf [ul 0,ul 1000000000])::pt t4 (wf [ul (-1),ul 1])::pt t3 (wf [ul 0,ul 1000000000])::
  pt t2 (wf [ul (-1000000000),ul 1000000000])::pt t1 (wf [ul (-1000000000),ul 1000000000])::pt t0 (wf [ul 0,ul 24])::pt p (v6 (ws.map ut))::O) H):Sep (As p eL N t0 t1 t2 t3 t4 t5 t6 ws 0 O) H:=by
 have z1:=(z.pull .k2).toT;have z2:=(z1.pull .k3).toT;have z3:=(z2.pull (.t .k3)).toT;have z4:=(z3.pull (.t (.t .k3))).toT;have z5:=(z4.pull (.t (.t (.t .k3)))).toT;have z6:=(z5.pull (.t (.t (.t (.t .k3))))).toT;have z7:=(z6.pull (.t (.t (.t (.t (.t .k3)))))).toT;exact z7.sub (.cons (.t (.t (.t (.t .k3)))) (.cons (.t (.t (.t (.t (.t .k3))))) (.cons (.t (.t (.t (.t .k3)))) (.cons .e (.cons .e (.cons .e (.cons .e (.cons .e (.cons .e (.cons .e .refl))))))))))
def fQ (hk:3<=k)(ht:t.length<=99990)(hs:Txt.split t gF=ws)(z:Sep O H)(hr:Aq Q ws O)(hq:A9 Q ws O):ab tab R k 28 [ut t] H Q E:=by
 have hw:∀ w ∈ ws,w.length<=100000:=λw hw=>by
  have h1:=fM hw;rw[<-hs,bH]at h1
  omega
 have hl:ws.length<=99999:=by
  have h1:=mz ws;rw[<-hs,bH,hs]at h1
  omega
 delta az;right;refine⟨_,rfl,?_⟩;left;refine gp z (by decide+kernel) nofun λp H1 z1=>?_
 rw[show(Str.ofString " ")=gF by decide+kernel,hs]at z1;right;rename_i t0 H2 z2 t1 H3 z3 t2 H4 z4 t3 H5 z5 t4 H6 z6 t5 H7 z7 t6 H8 z8 eL H9 z9 N Ha za;rw[ph]at za;have zb:=su za;clear z1 z2 z3 z4 z5 z6 z7 z8 z9 za;rw[show Int.toNat 7=7 from rfl];refine bK (n:=7) (λj U H=>∃ y4 y5,U=[some (ut t),some (tz p),some (tz eL),some (tz N),y4,y5,none,none,none]/\(∀ i,i<j->okN ws i=true)/\Sep (As p eL N t0 t1 t2 t3 t4 t5 t6 ws j O) H) ?_ ?_ ?_
 .exact⟨_,_,rfl,λi hi=>absurd hi (Nat.not_lt_zero _),zb⟩
 .rintro j U H hj ⟨y4,y5,rfl,okj,zc⟩;exact uz (k:=k) (y4:=none) nofun hj hw okj zc hr λy5' H' ok' z'=>⟨_,_,rfl,ok',z'⟩
 .rintro U H ⟨y4,y5,rfl,okj,zc⟩;exact wZ nofun hw nofun okj (zc.sub (Γ':=pt N (v6 (dH ws 0 7))::pt p (aK ws)::O) (.cons .e (.cons .e (aI [_,_,_,_,_,_,_,_])))) hr hq
end
def dz {b:Addr}{ys:List V}(ha:H a=some (wf xs))(hb:H b=some (wf ys))(hl:xs.length=ys.length)(h:∀ (j:Nat) (x y:V),xs[j]? =some x->ys[j]? =some y->dU K H (n+1) x y true):dU K H (n+2) (tz a) (tz b) true:=by
 have z:=dU.tt (K:=K) (e:=λ_=>true) (bY.of ha) (bY.of hb) h
 rwa [show((List.range (min xs.length ys.length)).all (λ_=>true)&&xs.length ==ys.length)=true by simp[hl]]at z
def m9 {b:Addr}{ys:List V}(ha:H a=some (v6 xs))(hb:H b=some (v6 ys))(hl:xs.length=ys.length)(h:∀ (j:Nat) (x y:V),xs[j]? =some x->ys[j]? =some y->dU K H (n+1) x y true):dU K H (n+2) (tz a) (tz b) true:=by
 have z:=dU.ll (K:=K) (e:=λ_=>true) (aA.of ha) (aA.of hb) hl h
 first
  |rwa [show((List.range xs.length).all (λ_=>true))=true by simp]at z
  |simpa[hl] using z
def bJ (h:av v=true):dU K H n v v true:=by
 have z:=dU.flat (K:=K) (H:=H) (n:=n) h h
 rwa [rf h]at z
def ua {b:Addr}(ha:H a=some (wf (ns.map ul)))(hb:H b=some (wf (ns.map ul))):dU K H (n+2) (tz a) (tz b) true:=dz ha hb rfl λj x y e1 e2=>by
 rw[e1]at e2;cases e2;rw[ii]at e1;obtain⟨i,_,rfl⟩:=lw.mp e1;exact bJ rfl
def uW {b:Addr}(ha:H a=some (v6 (ns.map ul)))(hb:H b=some (v6 (ns.map ul))):dU K H (n+2) (tz a) (tz b) true:=m9 ha hb rfl λj x y e1 e2=>by
 rw[e1]at e2;cases e2;rw[ii]at e1;obtain⟨i,_,rfl⟩:=lw.mp e1;exact bJ rfl
def uI {b:Addr}{ns:List Str}(ha:H a=some (aK ns))(hb:H b=some (aK ns)):dU K H (n+2) (tz a) (tz b) true:=m9 ha hb rfl λj x y e1 e2=>by
 rw[e1]at e2;cases e2;rw[ii]at e1;obtain⟨i,_,rfl⟩:=lw.mp e1;exact bJ rfl
section
variable {T S B C L N L2 C2:Addr}{lv:List Str}{at_:Int}{bs cs:List Int}
def wY {S2 B2:Addr}(h1:H S=some (wf [ul at_,tz B,tz C]))(h2:H S2=some (wf [ul at_,tz B2,tz C2]))(ha:H B=some (wf (bs.map ul)))(hb:H B2=some (wf (bs.map ul)))(hc:H C=some (v6 (cs.map ul)))(hd:H C2=some (v6 (cs.map ul))):dU K H (n+3) (tz S) (tz S2) true:=
 dz (n:=n+1) h1 h2 rfl λj x y f1 f2=>by
  match j,f1,f2 with
  |0,f1,f2=>cases f1;cases f2;exact bJ rfl
  |1,f1,f2=>cases f1;cases f2;exact ua ha hb
  |2,f1,f2=>cases f1;cases f2;exact uW hc hd
end
def iI {m:Nat}(h1:kD ws n)(h2:kD ws m):n=m:=by
 have key:∀ {n m:Nat},kD ws n->kD ws m->n<m->False:=λ{n m} h1 h2 h=>by
  obtain⟨a1,a2⟩:=h1;obtain⟨b1,b2⟩:=h2;rcases a2 with⟨c1,_⟩|⟨c1,_⟩
  .rw[b1 n h]at c1;cases c1
  .rcases b2 with⟨_,d2⟩|⟨d1,_⟩
   .have:=d2 nofun;omega
   .omega
 rcases Nat.lt_trichotomy n m with h|h|h
 .exact(key h1 h2 h).elim
 .exact h
 .exact(key h2 h1 h).elim
def fR (h1:kD ws n)(h2:qI ws):False:=by
 obtain⟨a1,a2⟩:=h1;obtain⟨b1,b2⟩:=h2;rcases a2 with⟨c1,c2⟩|⟨c1,c2⟩
 .by_cases h:n<8+bT ws
  .rw[b1 n h]at c1;cases c1
  .have:=c2 nofun;omega
 .omega
def fH {b:Addr}{n:Int}(e:n=m)(h1:H a=some (wf [ut (Str.ofString "none"),ul n])) (h2:H b=some (wf [ut (Str.ofString "none"),ul m])):dU K H 2 (tz a) (tz b) true:=by
 subst e;exact dz (n:=0) h1 h2 rfl λj x y e1 e2=>by
  rcases j with _|_|j
  .cases e1;cases e2;exact bJ rfl
  .cases e1;cases e2;exact bJ rfl
  .simp at e1
def mY {P P2 T S B C L T2 S2 B2 C2 L2:Addr}{at_:Int}{bs cs:List Int}{lv:List Str}(eP:H P=some (wf [ut (Str.ofString "read"),tz T])) (eP2:H P2=some (wf [ut (Str.ofString "read"),tz T2])) (eT:H T=some (wf [tz S,tz L])) (eT2:H T2=some (wf [tz S2,tz L2]))
  (eS:H S=some (wf [ul at_,tz B,tz C])) (eS2:H S2=some (wf [ul at_,tz B2,tz C2])) (eB:H B=some (wf (bs.map ul))) (eB2:H B2=some (wf (bs.map ul))) (eC:H C=some (v6 (cs.map ul))) (eC2:H C2=some (v6 (cs.map ul))) (eL:H L=some (aK lv)) (eL2:H L2=some (aK lv)):dU K H 6 (tz P) (tz P2) true:=
 dz (n:=4) eP eP2 rfl λj x y e1 e2=>by
  rcases j with _|_|j
  .cases e1;cases e2;exact bJ rfl
  .cases e1;cases e2;refine dz (n:=3) eT eT2 rfl λj x y e1 e2=>?_
   rcases j with _|_|j
   .cases e1;cases e2;exact wY (n:=1) eS eS2 eB eB2 eC eC2
   .cases e1;cases e2;exact uI (n:=2) eL eL2
   .simp at e1
  .simp at e1
section
variable {h:Addr}{m:Int}{t:Str}{x y2 y3 y5 y6:Option V}{D:Ends}{E:St->XK}
def Af (ro:Ro K R)(hk:10<=k)(ht:t.length<=99990)(z:Sep O H)
  (q:∀ H',Sep O H'->wB (aX 3 (i4 (aX 1 eY.body))) ⟨tab,R,ab tab R (k-1),true⟩ D E [x,some (tz h),y2,y3,some (ut t),y5,y6] H'):
  wB (aX 2 (i4 (aX 1 eY.body))) ⟨tab,R,ab tab R (k-1),true⟩ D E [x,some (tz h),y2,y3,some (ut t),y5,y6] H:=by
 right;refine gB (O:=O) ro nofun nofun rfl z (λP T S B C L H1 ok z1=>?_) (λn P H1 no z1=>?_)
 .right;refine fQ nofun ht rfl z1 (λn P2 H2 no z2=>(fR no ok).elim) (λP2 T2 S2 B2 C2 L2 H2 _ z2=>?_);left;have eP:H2 P=some (wf [ut (Str.ofString "read"),tz T]):=z2.get (.t (.t (.t (.t (.t (.t .e))))));have eT:H2 T=some (wf [tz S,tz L]):=z2.get (.t (.t (.t (.t (.t (.t (.t .e)))))));have eS:=z2.get (a:=S) (.t (.t (.t (.t (.t (.t (.t (.t .e))))))));have eB:=z2.fw (t:=B) (.t (.t (.t (.t (.t (.t (.t (.t (.t .e)))))))));have eC:=z2.get (a:=C) (.t (.t (.t (.t (.t (.t (.t (.t (.t (.t .e))))))))));have eL:=z2.get (a:=L) (.t (.t (.t (.t (.t (.t (.t (.t (.t (.t (.t .e)))))))))));refine fU (n:=6) (c:=true) (mY eP z2.at eT (z2.get .k1) eS (z2.get .k2) eB (z2.fw .k3) eC (z2.get (.t .k3)) eL (z2.get (.t (.t .k3)))) (by decide) (((z2.pull (.t (.t (.t (.t (.t (.t .e))))))):Sep (pt P _::pt P2 _::_) H2).ne) ?_;left;refine a7 rfl ?_;exact q _ (z2.sub (aI [_,_,_,_,_,_,_,_,_,_,_,_]))
 .right;refine fQ nofun ht rfl z1 (λn2 P2 H2 no2 z2=>?_) (λP2 T2 S2 B2 C2 L2 H2 ok z2=>(fR no ok).elim);left;refine fU (n:=2) (c:=true) (fH (by rw[iI no no2]) (z2.get .k1) z2.at) (by decide) ((z2.pull .k1).ne) ?_;left;refine a7 rfl ?_;exact q _ z2.drop.drop
def zy (ro:Ro K R)(hk:10<=k)(ht:t.length<=99990)(z:Sep O H)
  (q:∀ H',Sep O H'->D.nx [x,some (tz h),y2,y3,some (ut t),y5,y6] H'):
  wB (i4 (aX 4 (i4 (aX 1 eY.body)))) ⟨tab,R,ab tab R (k-1),true⟩ D E [x,some (tz h),y2,y3,some (ut t),y5,y6] H:=by
 right;refine gB (O:=O) ro nofun nofun rfl z (λP T S B C L H1 ok z1=>?_) (λn P H1 no z1=>?_)
 .right;refine fQ nofun ht rfl z1 (λn P2 H2 no z2=>(fR no ok).elim) (λP2 T2 S2 B2 C2 L2 H2 _ z2=>?_);left;have eP:H2 P=some (wf [ut (Str.ofString "read"),tz T]):=z2.get (.t (.t (.t (.t (.t (.t .e))))));have eT:H2 T=some (wf [tz S,tz L]):=z2.get (.t (.t (.t (.t (.t (.t (.t .e)))))));have eS:=z2.get (a:=S) (.t (.t (.t (.t (.t (.t (.t (.t .e))))))));have eB:=z2.fw (t:=B) (.t (.t (.t (.t (.t (.t (.t (.t (.t .e)))))))));have eC:=z2.get (a:=C) (.t (.t (.t (.t (.t (.t (.t (.t (.t (.t .e))))))))));have eL:=z2.get (a:=L) (.t (.t (.t (.t (.t (.t (.t (.t (.t (.t (.t .e)))))))))));refine fU (n:=6) (c:=true) (mY eP z2.at eT (z2.get .k1) eS (z2.get .k2) eB (z2.fw .k3) eC (z2.get (.t .k3)) eL (z2.get (.t (.t .k3)))) (by decide) (((z2.pull (.t (.t (.t (.t (.t (.t .e))))))):Sep (pt P _::pt P2 _::_) H2).ne) ?_;left;refine a7 rfl ?_;exact q _ (z2.sub (aI [_,_,_,_,_,_,_,_,_,_,_,_]))
 .right;refine fQ nofun ht rfl z1 (λn2 P2 H2 no2 z2=>?_) (λP2 T2 S2 B2 C2 L2 H2 ok z2=>(fR no ok).elim);left;refine fU (n:=2) (c:=true) (fH (by rw[iI no no2]) (z2.get .k1) z2.at) (by decide) ((z2.pull .k1).ne) ?_;left;refine a7 rfl ?_;exact q _ z2.drop.drop
abbrev CJ:Nat->Nat
 |0=>1000
 |1=>5300
 |_=>26800
def vV (ro:Ro K R)(hk:11<=k)(hj:j<10)(z:Sep [hand h (600*(j:Int))] H)
  (q:∀ v3 v4 v5 H',Sep [hand h (600*((j+1:Nat):Int))] H'->D.nx [x,some (tz h),some (ul (0+(j:Int))),v3,v4,v5,y6] H'):
  wB (i4 (aX 1 eY.body)) ⟨tab,R,ab tab R (k-1),true⟩ D E [x,some (tz h),some (ul (0+(j:Int))),y2,y3,y5,y6] H:=by
 walk_at "gd";rename_i r H1 r0 r1 z1;refine uk (m:=600*(j:Int)+1) (O:=[]) nofun z1 nofun λt H2 ht z2=>?_
 refine Af (k:=k) ro nofun nofun z2 λH3 z3=>?_
 right;refine bK (n:=(1+r).toNat) (λi U H=>∃ (t:Str) (v5:Option V),U=[x,some (tz h),some (ul (0+(j:Int))),some (ul (1+r)),some (ut t),v5,y6]/\t.length<=CJ i/\Sep [hand h (600*(j:Int)+501+10*(i:Int))] H) ?_ ?_ ?_
 .exact⟨t,_,rfl,ht,au z3 nofun⟩
 .rintro i U H hi ⟨t,v5,rfl,hb,zi⟩;have hi2:i=0\/i=1:=by omega
  have hb9:t.length<=9000:=by rcases hi2 with rfl|rfl<;>exact Nat.le_trans hb (by decide)
  right;refine nH (m:=600*(j:Int)+501+10*(i:Int)) (O:=[]) nofun zi nofun hb9 λt2 H' ht2 z'=>?_
  refine⟨t2,_,rfl,?_,au z' nofun⟩;rcases hi2 with rfl|rfl
  .have hb:t.length<=1000:=hb;show t2.length<=5300
   omega
  .have hb:t.length<=5300:=hb;show t2.length<=26800
   omega
 .rintro U H ⟨t,v5,rfl,hb,zi⟩;have hb9:t.length<=99990:=by
   rcases(by omega:(1+r).toNat=1\/(1+r).toNat=2) with e|e<;>rw[e]at hb<;>exact Nat.le_trans hb (by decide)
  right;refine bK (n:=2) (λi U H=>∃ (v5:Option V),U=[x,some (tz h),some (ul (0+(j:Int))),some (ul (1+r)),some (ut t),v5,y6]/\Sep [hand h (600*(j:Int)+501+10*(((1+r).toNat:Nat):Int))] H) ?_ ?_ ?_
  .exact⟨_,rfl,zi⟩
  .rintro i U H hi ⟨v5,rfl,zj⟩;exact zy (k:=k) ro nofun hb9 zj λH' z'=>⟨_,rfl,z'⟩
  .rintro U H ⟨v5,rfl,zj⟩;exact q _ _ _ _ (au zj nofun)
def yO {ty:String}(hk:5<=k)(hv:∀ H',Sep O H'->tyName v H'=some ty) (ht:tab.subB.lookup (ty,"str")=some false) (z:Sep O H) (q:∀ H',Sep O H'->D.nx [x,some (tz h),y2,y3,y5,y6,some v] H'):
  wB (i4 (aX 2 eY.body)) ⟨tab,R,ab tab R (k-1),true⟩ D E [x,some (tz h),y2,y3,y5,y6,some v] H:=by
 right;refine rL nofun hv ht z λP H1 z1=>?_
 right;rename_i P2 H2 z2;refine fU (n:=2) (c:=true) (fH rfl (z2.get .k1) z2.at) (by decide) ((z2.pull .k1).ne) ?_;left;refine a7 rfl ?_;exact q _ z2.drop.drop
end
def qW:okN (Txt.split (Str.ofString "") gF) 0=false:=by
 have e:=bH (Str.ofString "");rw[show(Str.ofString "").length=0 by decide+kernel]at e;generalize Txt.split (Str.ofString "") gF=ws at e;show(numAt ws 0).any (dn 0 24)=false;cases ws with
 |nil=>rfl
 |cons w r=>
  have:=fM (w:=w) (ws:=w::r) le;have hw:w.cps.toList=[]:=List.eq_nil_of_length_eq_zero (by rw[<-bW];omega);have hn:c5 w=none:=by unfold c5 nZ;rw[hw];rfl
  show((c5 w).any (dn 0 24))=false;rw[hn]
  rfl
def yz (ro:Ro K R)(hk:12<=k):∀ vs H Q E,e9 K 63 vs H Q E->ab tab R k 34 vs H Q E:=by
 rintro vs H Q E ⟨a,is,rfl,hS,h63,hQ⟩;delta eY;right;rw[<-ro.hK]at hS;refine w9 nofun Sep.nil hS h63 (λh H1 z1=>?_);right;refine bK (n:=10) (λj U H=>∃ u2 u3 u4 u5,U=[some (tz a),some (tz h),u2,u3,u4,u5,none]/\Sep [hand h (600*(j:Int))] H) ?_ ?_ ?_
 .exact⟨_,_,_,_,rfl,z1⟩
 .rintro j U H hj ⟨u2,u3,u4,u5,rfl,z⟩;exact vV (k:=k) ro nofun hj z λv3 v4 v5 H' z'=>⟨_,_,_,_,rfl,z'⟩
 .rintro U H ⟨u2,u3,u4,u5,rfl,z⟩;right;rename_i p1 H2 z2 p2 H3 z3 p3 H4 z4 p4 H5 z5 p5 H6 z6;clear z2 z3 z4 z5;refine mJ (xs:=[v0,ul 5,V.bl true,tz p1,tz p2,tz p3,tz p4]) (λj U H=>∃ u6,U=[some (tz a),some (tz h),u2,u3,u4,u5,u6]/\Sep [pt p5 (v6 [v0,ul 5,V.bl true,tz p1,tz p2,tz p3,tz p4]),pt p4 (.dK []),pt p3 (wf [ut (Str.ofString "0")]),pt p2 (v6 [ut (Str.ofString "0")]),pt p1 (v6 [])] H) ?_ ?_ ?_ ?_
  .exact⟨_,rfl,z6.sub (.cons .e (.cons .e (.cons .e (.cons .e (.cons .e .nil)))))⟩
  .rintro j U H ⟨u6,rfl,z7⟩;exact aA.of z7.at
  .rintro j v U H hx ⟨u6,rfl,z7⟩;have hv:∃ ty,(∀ H',Sep [pt p5 (v6 [v0,ul 5,V.bl true,tz p1,tz p2,tz p3,tz p4]),pt p4 (.dK []),pt p3 (wf [ut (Str.ofString "0")]),pt p2 (v6 [ut (Str.ofString "0")]),pt p1 (v6 [])] H'->tyName v H'=some ty)/\tab.subB.lookup (ty,"str")=some false:=by
    rcases j with _|_|_|_|_|_|_|j
    .cases hx;exact⟨"NoneType",λH' _=>rfl,rfl⟩
    .cases hx;exact⟨"int",λH' _=>rfl,rfl⟩
    .cases hx;exact⟨"bool",λH' _=>rfl,rfl⟩
    .cases hx;exact⟨"list",λH' z=>zY (z.get (.t .k3)),rfl⟩
    .cases hx;exact⟨"list",λH' z=>zY (z.get .k3),rfl⟩
    .cases hx;exact⟨"tuple",λH' z=>Bs (z.get .k2),rfl⟩
    .cases hx;exact⟨"dict",λH' z=>A1 (z.get .k1),rfl⟩
    .simp at hx
   obtain⟨ty,h1,h2⟩:=hv;exact yO (k:=k) nofun h1 h2 z7 λH' z'=>⟨_,rfl,z'⟩
  .rintro U H ⟨u6,rfl,z7⟩;right;refine gB (O:=[]) ro nofun (by decide+kernel) rfl .nil (λP T S B C L H1 ok z1=>?_) (λn P H1 no z1=>?_)
   .have:=ok.1 0 nofun;rw[qW]at this;cases this
   .have e0:n=0:=iI no ⟨λj hj=>absurd hj (Nat.not_lt_zero _),.inl ⟨qW,λh=>absurd h (by decide)⟩⟩;subst e0;right;rename_i P2 H8 z8;refine yk (n:=2) (c:=true) (fH rfl (z8.get .k1) z8.at) (by decide) ((z8.pull .k1).ne) ?_;exact hQ _
def rW (ro:Ro K R):∀ vs H Q E,e9 K 63 vs H Q E->ab tab R 12 34 vs H Q E:=yz ro (pc _)
end
def walk {l:W.OpenLaw}{q:Program}{loose:List Str}{XP:(Str->Option Value)->Heap->Prop}{YP:World->Heap->Prop}{d:DefRec}{K:Params->W.Frag}(hn:l.most=some 63)(hdf:d.params.defaults=[])
    (hY:∀ (w:World) (h:Heap),YP w h->(K w.params).In h)
    (F:∀ (w:World) (mg:CQ) (fa:Addr) (h:Heap),(K w.params).In h->h.Ns mainGlobals mg->mg d.name=some (.ref fa)->
      ∃ fd:FuncData,(∀ (s:Shared) (u:Value),BindsTo s fd ⟨[u],[]⟩ [("_law_script",u)])/\∀ base:Heap,(K w.params).In base->base.Ns mainGlobals mg->bF l.prog w (K w.params) mg base (pN l.prog w) 24 fa fd ["_law_script"] (e9 (K w.params) 63)):
    W.WalkO q loose XP YP l.row.toRowW d [] (λf vs=>PySem.call f vs):=
  L2.tY (n:=63) (k:=24) (x:="_law_script") (CX:=λw=>pN l.prog w) (sp:=λw=>e9 (K w.params) 63) hn (by decide) hdf ⟨rfl,by decide,by decide⟩ hY F (λ_ _ a ns hl _ hS=>⟨a,ns,rfl,hS,hl,λ_=>rfl⟩) λ_ _ _ _ _ z=>rV z
abbrev B9:List (Str×V):=[("BOUND",.int 1000000000),("MOST_ROWS",.int 24),("MOST_CELLS",.int 60),("MOST_FIGURES",.int 10),("FIGURES",.str "0123456789"),("LEAVE_OF",.ref 159),("NAMES",.ref 144)]
def Cm (p:Params):L3.sr (K0 p) tab Bm BV B9=true:=by kernel_rfl
def Cw (p:Params):L3.gG (K0 p) tab Bm 0 tab.fns=true:=by kernel_rfl
end My
open PySem PySem.W PyProof.Rows
set_option maxRecDepth 100000 in
set_option maxHeartbeats 0 in
theorem PySem.Challenge.cw_haulbell_k94_no_states_holds : PySem.Challenge.rw_haulbell_k94_no_states.Holds := by
  refine holds_law My.Aw fun said=>?_
  refine W.holds_open (loose:=My.qE) (N:=5924)
    (q:=My.jJ My.pr)
    (Yf:=fun s=>My.AG.map s.heap.get?)
    (Ya:=fun w=>(My.K0 w.params).map fun p=>some p.2)
    (Xt:=fun s=>xlAt (My.jJ My.pr) [] s&&recOk PySem.Challenge.rw_haulbell_k94_no_states.row.records s)
    (XP:=XL (My.jJ My.pr) [])
    (YP:=InK My.K0) My.Aa
    (InK.of (as:=My.AG) fun _=>by kernel_rfl) InK.keeps
    (fun s e=>xl_of s (Bool.and_eq_true_iff.mp e).1)
    XL.keeps (by rfl) (by rfl) (by rfl)
    (fun s e=>recFacts_of (Bool.and_eq_true_iff.mp e).2)
    (by rfl) (by assumption) (by decide+kernel)
    ⟨rfl,rfl,rfl,rfl,rfl,by decide+kernel⟩ ?hw ?hc
  case hw=>w_witness2
  refine My.walk (l:=PySem.Challenge.rw_haulbell_k94_no_states) rfl rfl (fun w h Y=>Y) ?F
  case F=>
    intro w mg fa h KX G hmg;exact L3.tN KX G hmg (T:=My.tab) (fs:=My.Bm) (cs:=My.BV) (gs:=My.B9) (d:=My.eY) (fl:=34) (k:=12) (My.Cm _) (My.Cw _) (by kernel_rfl) rfl rfl rfl (My.rW ⟨rfl,by kernel_rfl,by kernel_rfl,by kernel_rfl,by kernel_rfl,by kernel_rfl,⟨159,by kernel_rfl,(by unfold L2.ug;kernel_rfl)⟩,⟨144,by kernel_rfl,L3.yd (by kernel_rfl)⟩⟩)
