import PyProof.Rows.All
import Wide.All
import OpenK.AllK
import Wide.FinOn
import PySem.Challenge.RW_haulbell_k87_known_pairs
import Lean
import PyProof.EqAt
import PyProof.EqKinds
import PyProof.TupleCall
import PyProof.EnumStmt
import PyProof.NeKinds
import PyProof.ExcAttrAll.ValueError
import PyProof.ExcInit
import PyProof.StationsW
import PyProof.NsDelKeeps
import PyProof.InstStoreFacts
import PyProof.ZipIter
import PyProof.IsiBase
import PyProof.AttrMiss
import KE.KDictOf
import KE.KDictList
import PyProof.InstEq
import PyProof.Rows.Range3
import PyProof.StrOps2
import KE.LcSums
set_option linter.all false
set_option maxRecDepth 100000
set_option Elab.async false
set_option compiler.extract_closed false
theorem My.kleA {a b k:Nat}(h:a<=k)(e:Nat.ble (b+1) a=true):b<=k-1:=Nat.le_sub_one_of_lt (Nat.lt_of_lt_of_le (Nat.le_of_ble_eq_true e) h)
theorem My.kleB {a b k:Nat}(h:a<=k)(e:Nat.ble b a=true):b<=k:=Nat.le_trans (Nat.le_of_ble_eq_true e) h
set_option hygiene false
local macro_rules| `(tactic|sleep $n:num)=>`(tactic|((conv at h=>lhs;whnf);iterate $n (split at h;rotate_left;cases h)))
set_option hygiene true
local macro_rules|`(command|abbrev $i:declId $s:optDeclSig $v:declVal)=>`(command|noncomputable def $i:declId $s:optDeclSig $v:declVal)
local macro_rules|`(command|def $i:declId $b:bracketedBinder* :$t $v:declVal)=>`(command|theorem $i:declId $b:bracketedBinder* :$t $v:declVal)
local macro_rules|`(nofun)=>`(by first|exact My.kleA (by assumption) (by rfl)|exact My.kleB (by assumption) (by rfl)|lia|omega)
noncomputable abbrev My.pr:PySem.Program:=PySem.Challenge.rw_haulbell_k87_known_pairs.row.prog
open PySem PySem.W in
set_option maxHeartbeats 0 in
def My.F9:PySem.Challenge.rw_haulbell_k87_known_pairs.wellSaid=true:=by
  rewrite [Fast.te9446332074065402090]
  kernel_rfl
namespace L2
open PySem PySem.Spec
abbrev inClass (s:Stmt)(j:Nat):Stmt:=match s with
  | .ClassDef _ _ _ body _ _ _ _ _ _ _=>body.getD j (.Pass ⟨0,0,0,0⟩)
  |_=>.Pass ⟨0,0,0,0⟩
abbrev rl (s:Stmt):Arguments:=match s with
  | .FunctionDef _ a _ _ _ _ _ _ _ _=>a
  |_=>{ posonlyargs:=[],args:=[],vararg:=none,kwonlyargs:=[],kw_defaults:=[],kwarg:=none,defaults:=[] }
abbrev r6 (s:Stmt):List Stmt:=match s with
  | .FunctionDef _ _ b _ _ _ _ _ _ _=>b
  |_=>[]
abbrev nW (s:Stmt):Scope:=match s with
  | .FunctionDef _ _ _ _ _ _ sc _ _ _=>sc
  |_=>{ kind:=.function,names:=[],isGenerator:=false,isCoroutine:=false }
end L2
namespace My
open PySem L2 PySem.W
abbrev top (i:Nat):Stmt:=PySem.Challenge.pw_haulbell_k87_known_pairs.main.body.getD i (.Pass ⟨0,0,0,0⟩)
abbrev tq (i j:Nat):Stmt:=inClass (top i) j
/-- the top's run on a tree -/
abbrev j5 (tb:String->Option Builtin)(p:Program)(w:World)(m:Nat)(ann:Option Value):Nat->SharedT->Thread->Option SharedT
  |0,_,_=>none
  |n+1,s,t=>match through t with
    |true=>some s
    |false=>match stepOk m ann t with
      |false=>none
      |true=>match stepT (denote tb) p w s t with
        |some r=>j5 tb p w m ann n r.1 r.2
        |none=>none
def si {tb:String->Option Builtin}{p:Program}{w:World}{m:Nat}{ann:Option Value}:∀ {n:Nat}{s s':SharedT}{t:Thread},j5 tb p w m ann n s t=some s'->topRun tb p w m ann n s.abs t=some s'.abs
  |0,_,_,_,h=>by cases h
  |n+1,s,s',t,h=>by
    unfold j5 at h;unfold topRun;cases a:through t
    · rw[a] at h;dsimp only at h⊢
      cases b:stepOk m ann t
      · rw[b] at h;cases h
      · rw[b] at h;dsimp only at h⊢
        cases c:stepT (denote tb) p w s t with
        |none=>rw[c] at h;cases h
        |some r=>rw[c] at h;rw[stepT_spec c];exact si h
    · rw[a] at h;cases h;rfl
abbrev ED:Nat->BT->List Obj->BT
  |_,t,[]=>t
  |n,t,o::os=>ED (n+1) (t.ins n o) os
abbrev yb (P:Params):BT:=ED 0 .nil (boot_heap P).objs.toList
abbrev G8 (P:Params)(os:OsState):SharedT:=⟨yb P,11,(boot_heap P).life,Array.mk [],boot_drawn,boot_toks,os⟩
def tM {p q:Program}{loose:List Str}{Xt:Shared->Bool}{α:Type}{Yf:Shared->α}{Ya:World->α}{N:Nat}(e:opening p=plainProg p.main.scope.names)(hN:Nat.ble 600 N=true)(f:∀ s,fenceModules? p s=some s)
    (h0:∀ P,absHeap (yb P) 11 (boot_heap P).life=boot_heap P) (h1:∀ P,((boot_heap P).isNs mainGlobals,(boot_heap P).objs.size,(boot_heap P).nsMap mainGlobals "__annotations__")=(true,11,some (.ref 6)))
    (run:∀ (w:World) (os:OsState),(j5 treeTable p w 11 (some (.ref 6)) N (G8 w.params os) (topStub p)).map (λs=>(staticsOk (importedModules p.main.body) (boot_heap w.params) s.abs.heap&&namesBound p s.abs.heap&&gensDone s.abs&&laidKept (boot_heap w.params) s.abs.heap,
      openSeen q loose (importedModules p.main.body) Xt true s.abs,Yf s.abs))=some (true,openGood q loose,Ya w)):LeftO p q loose Xt Yf Ya N:=λw=>by
  obtain ⟨⟨hp,gs,d,k,os⟩,e1,e2⟩:=Option.map_eq_some_iff.mp (boot_open e hN f w);obtain ⟨rfl,rfl,rfl,rfl⟩:hp=boot_heap w.params/\gs=Array.mk []/\d=boot_drawn/\k=boot_toks:=by simpa using e2
  obtain ⟨z1,z2,z3⟩:_/\_/\_:=by simpa only [Prod.mk.injEq] using h1 w.params
  obtain ⟨s,r,l⟩:=Option.map_eq_some_iff.mp (run w os);obtain ⟨l1,l2,l3⟩:_/\_/\_:=by simpa only [Prod.mk.injEq] using l
  have r1:=si r;have a0:(G8 w.params os).abs=⟨boot_heap w.params,Array.mk [],boot_drawn,boot_toks,os⟩:=by
    show (⟨absHeap (yb w.params) 11 (boot_heap w.params).life,Array.mk [],boot_drawn,boot_toks,os⟩:Shared)=_;rw[h0]
  rw[a0] at r1;unfold openEnds;rw[e1];have t:topFrom treeTable p w N ⟨boot_heap w.params,Array.mk [],boot_drawn,boot_toks,os⟩=some s.abs:=by
    unfold topFrom;dsimp only;rw[z1,z2,z3,r1];show (match staticsOk (importedModules p.main.body) (boot_heap w.params) s.abs.heap&&namesBound p s.abs.heap&&gensDone s.abs&&laidKept (boot_heap w.params) s.abs.heap with|true=>some s.abs|false=>none)=some s.abs;rw[l1]
  show (topFrom treeTable p w N _).map _=_;rw[t];exact congrArg some (Prod.ext l2 l3)
abbrev G9:List Addr:=2::3::30::31::47::48::50::51::66::67::69::70::85::86::88::89::104::105::107::108::123::124::126::127::142::143::145::146::161::162::164::165::180::181::183::184::192::193::199::200::201::207::208::214::215::221::222::230::236::237::243::244::250::251::255::256::262::263::265::266::276::277::283::284::293::294::311::312::318::319::325::326::328::329::344::345::351::352::358::359::361::362::377::378::384::385::391::392::394::395::410::411::417::418::424::425::427::428::443::444::450::451::457::458::460::461::469::470::476::477::483::484::490::491::497::498::504::505::518::519::525::526::528::529::544::545::551::552::554::555::570::571::577::578::580::581::596::597::603::604::606::607::622::623::629::630::632::633::648::649::655::656::658::659::667::668::674::675::681::682::690::696::697::703::704::710::711::717::718::757::758::764::765::767::768::778::779::792::793::799::800::806::807::827::828::834::835::841::842::855::856::858::859::869::870::876::877::888::889::895::896::902::903::909::910::916::917::919::920::930::931::937::938::944::945::951::952::958::959::965::966::970::971::977::978::984::985::991::992::998::999::1007::1013::1014::1020::1021::1027::1028::1030::1031::1039::1040::1046::1047::1065::1066::1072::1073::1079::1080::1086::1087::1093::1094::1100::1101::1107::1108::1114::1115::1121::1122::1128::1129::[]
abbrev JC:List Addr:=48::67::86::105::124::143::162::181::193::200::208::215::222::237::244::251::256::263::277::284::312::319::326::345::352::359::378::385::392::411::418::425::444::451::458::470::477::484::491::498::505::519::526::545::552::571::578::597::604::623::630::649::656::668::675::682::697::704::711::718::758::765::779::793::800::807::828::835::842::856::870::877::889::896::903::910::917::931::938::945::952::959::966::971::978::985::992::999::1014::1021::1028::1040::1047::1066::1073::1080::1087::1094::1101::1108::1115::1122::1129::[]
abbrev JB:List Addr:=[31,51,70,89,108,127,146,165,184,266,294,329,362,395,428,461,529,555,581,607,633,659,768,859,920,1031]
abbrev runK (tb:String->Option Builtin)(p:Program)(w:World)(m:Nat)(ann:Option Value):Nat->SharedT->Thread->Option (SharedT×Thread)
  |0,s,t=>some (s,t)
  |n+1,s,t=>match through t with
    |true=>none
    |false=>match stepOk m ann t with
      |false=>none
      |true=>match stepT (denote tb) p w s t with
        |some r=>runK tb p w m ann n r.1 r.2
        |none=>none
def cO {tb:String->Option Builtin}{p:Program}{w:World}{m:Nat}{ann:Option Value}{k:Nat}:∀ {n:Nat}{s:SharedT}{t:Thread}{r:SharedT×Thread},runK tb p w m ann n s t=some r->j5 tb p w m ann (n+k) s t=j5 tb p w m ann k r.1 r.2
  |0,s,t,r,h=>by
    rw[Nat.zero_add];cases h
    rfl
  |n+1,s,t,r,h=>by
    rw[Nat.succ_add];unfold runK at h;conv=>lhs;unfold j5
    cases a:through t
    · rw[a] at h;dsimp only at h⊢
      cases b:stepOk m ann t
      · rw[b] at h;cases h
      · rw[b] at h;dsimp only at h⊢
        cases c:stepT (denote tb) p w s t with
        |none=>rw[c] at h;cases h
        |some r=>rw[c] at h;exact cO h
    · rw[a] at h;cases h
abbrev kT (x y:Str)(s:Stmt):Obj:=⟨.none,none,.func { name:=x,qualname:=y,params:=rl s,body:=.stmts (r6 s),scope:=nW s,globals:=builtinsNs,closure:=[],defaults:=.none,kwdefaults:=.none },#[]⟩
abbrev bo (P:Params)(i:Nat):Obj:=(boot_heap P).objs.toList.getD i ⟨.none,none,.plain,#[]⟩
abbrev gF (p:Program):Env:={ scope:=p.main.scope,locals:=mainNs,globals:=mainNs,cells:=[],code:=.ref 13,frame:=some 14 }
abbrev IS:Frame:=.ret (λx=>Sem.bind (match x with| .ok f=>Sem.pure f| .error e=>Sem.raise e) (λ_=>ret .none)) none false [] (.builtin "claim.caller" {}) default []
abbrev yH (p:Program)(X:List Stmt):Sem Fin:=Sem.bind (Sem.onRaise (execs X (gF p)) (leaving (gF p))) (λa=>Sem.pure (Fin.done a))
abbrev ly (p:Program)(X:List Stmt)(q:Pos):Thread:=⟨yH p X,.body (behindTheImports p) (gF p),q,[IS]⟩
def yc {tb:String->Option Builtin}{p:Program}(h:blockStart (behindTheImports p) (gF p)=Sem.pure ()):denote tb (.body (behindTheImports p) (gF p))=yH p (behindTheImports p):=by
  show Sem.bind (blockStart (behindTheImports p) (gF p)) (λ_=>yH p (behindTheImports p))=_;rw[h]
  rfl
abbrev o0:Obj:=⟨.type "tuple",none,.seq #[] 0,#[]⟩
abbrev oN:Obj:=⟨.none,none,.fields #[],#[]⟩
abbrev oL:List Str->Nat->List Value
  | [],_=>[]
  |x::r,t=>.str x t::oL r (t+1)
abbrev oS (l:List Str)(t:Nat):Obj:=⟨.type "tuple",none,.seq (Array.mk (oL l t)) 0,#[]⟩
abbrev oI (l c a:Nat):Obj:=⟨.none,none,.fields #[.int l 0,.int c 0,.ref a],#[]⟩
abbrev oK (x:Str)(t l r:Nat):Obj:=⟨.type "code",none,.fields #[.str x t,.str x (t+1),.str "/claim/cut.py" (t+2),.int l 0,.int 0 0,.int 0 0,.int 0 0,.int 0 0,.ref r,.bool false,.int 181 0,.ref (r+1),.none,.none,.none,.none,.int (t+3:Nat) 0,.int l 0,.str "/claim/cut.py" (t+4)],#[]⟩
abbrev oC (x y:Str)(t l n r u:Nat):Obj:=⟨.type "code",none,.fields #[.str x t,.str y (t+1),.str "/claim/cut.py" (t+2),.int l 0,.int n 0,.int 0 0,.int 0 0,.int 3 0,.ref r,.bool true,.int 181 0,.ref (r+1),.none,.ref (r+2),.ref (r+3),.ref (r+4),.int u 0,.int l 0,.str "/claim/cut.py" (u+1)],#[]⟩
abbrev oF (x y:Str)(s:Stmt)(m:Str)(t c:Nat)(d:Value:=.none):Obj:=⟨.type "function",none,.func (fnOf x y (rl s) (r6 s) (nW s) d .none .none (.str m t) none (.ref c) .none),#[]⟩
abbrev oR (a b:Nat)(m:Str)(t:Nat):Obj:=⟨.type "frame",none,.plain,#[some (.ref a),some (.ref 3),some (.ref b),none,some (.str m t),none,some (.ref 0)]⟩
abbrev oX (x:Str)(b m:List Value)(n:Addr)(s:List Value)(r t u:Nat)(w:String):Obj:=⟨.type "type",none,.cls ⟨x,b,m,n,x,true,[],s,false,none,false⟩,#[some (.ref r),none,some (.str x t),some (.str x u),some (.builtin w),some (.bool true)]⟩
abbrev oU (a:Addr):Obj:=⟨.type "super",none,.fields #[.ref a,.ref a,.ref a],#[]⟩
abbrev oJ (a:Addr):Obj:=⟨.type "builtin_function_or_method",none,.fields #[.builtin "object.__init_subclass__",.ref a],#[]⟩
abbrev oP:Obj:=⟨.type "builtin_function_or_method",none,.fields #[.builtin "type.__prepare__",.type "type"],#[]⟩
abbrev oQ (a:Addr):Obj:=⟨.type "tuple",none,.seq #[.ref a] 0,#[]⟩
abbrev fG (x y:Str)(s:Stmt)(m:Str)(mt:Nat)(l:List Str)(t ln n a:Nat)(r:List Obj):List Obj:=o0::oN::oS l (t+3)::o0::kT x y s::oC x y t ln n a (t+3+l.length)::oF x y s m mt (a+5)::r
abbrev oW:List (Nat×Obj)->List Obj->List Obj
  | [],l=>l
  |x::r,l=>(oW r l).set x.1 x.2
abbrev eV (x:Str)(t:Tok)(v:Value)(P:Params):DictEntry:=⟨PyData.keyHash P x,.str x t,v⟩
abbrev eM (t:Nat)(m:Str)(u:Nat):Params->DictEntry:=eV "__module__" t (.str m u)
abbrev eQ (t:Nat)(m:Str)(u:Nat):Params->DictEntry:=eV "__qualname__" t (.str m u)
abbrev eF (t l u:Nat):Params->DictEntry:=eV "__firstlineno__" t (.int l u)
abbrev eS (t a:Nat):Params->DictEntry:=eV "__static_attributes__" t (.ref a)
abbrev eN (t:Nat):Params->DictEntry:=eV "__doc__" t .none
abbrev eR (x:Str)(t a:Nat):Params->DictEntry:=eV x t (.ref a)
abbrev oD (P:Params)(es:List (Params->DictEntry))(n:Nat):Obj:=⟨.type "dict",none,.dict (Array.mk (es.map λf=>f P)) n,#[]⟩
abbrev Jz (P:Params):List Obj:=
bo P 0::
bo P 1::
bo P 2::
bo P 3::
bo P 4::
bo P 5::
bo P 6::
bo P 7::
bo P 8::
bo P 9::
bo P 10::
o0::
oN::
oK "<module>" 182 1 11::
oR 13 3 "__main__" 164::[]
abbrev JO (x y:Str)(t l n r:Nat):Obj:=⟨.type "code",none,.fields #[.str x t,.str y (t+1),.str "/claim/cut.py" (t+2),.int l 0,.int n 0,.int 0 0,.int 0 0,.int 3 0,.ref r,.bool true,.int 181 0,.ref (r+1),.none,.none,.none,.ref (r+2),.int (t+3:Nat) 0,.int l 0,.str "/claim/cut.py" (t+4)],#[]⟩
abbrev oG (x b:String)(v:Value)(a t:Nat):Obj:=⟨.type "getset_descriptor",none,.fields #[.str (Str.ofString x) t,.ref a,.builtin b,v],#[]⟩
@[reducible]def Mt:Type:=Str×Str×List Str×Nat×Nat×List (Obj×Nat)
abbrev BZ (a t:Nat)(s:Stmt)(m:Str×Nat)(x y:Str)(l:List Str)(ln n:Nat)(d:Value):List Obj:=match l with
  | []=>o0::oN::kT x y s::JO x y t ln n a::oF x y s m.1 m.2 (a+3) d::[]
  |_=>o0::oN::oS l (t+3)::o0::kT x y s::oC x y t ln n a (t+3+l.length)::oF x y s m.1 m.2 (a+5) d::[]
abbrev IP (a t:Nat)(s:Stmt)(m:Str×Nat)(q:Mt):List Obj:=match q.2.2.2.2.2 with
  | []=>BZ a t s m q.1 q.2.1 q.2.2.1 q.2.2.2.1 q.2.2.2.2.1 .none
  |d::_=>d.1::BZ (a+1) (t+d.2) s m q.1 q.2.1 q.2.2.1 q.2.2.2.1 q.2.2.2.2.1 (.ref a)
abbrev B7 (q:Mt)(a:Nat):Nat:=match q.2.2.1 with
  | []=>a+5+q.2.2.2.2.2.length
  |_=>a+7+q.2.2.2.2.2.length
abbrev FE (q:Mt)(t:Nat):Nat:=match q.2.2.2.2.2 with
  | []=>t+6+q.2.2.1.length
  |d::_=>t+d.2+6+q.2.2.1.length
abbrev IQ (i:Nat)(m:Str×Nat):Nat->List Mt->Nat->Nat->(List Obj->Nat->Nat->List Obj)
  |_,[],_,_=>λr _ _=>r
  |j,q::l,a,t=>λr x y=>IP a t (inClass (top i) j) m q++IQ i m (j+1) l (B7 q a) (FE q t) r x y
abbrev Jb:List Mt->Nat->Nat
  | [],a=>a
  |q::l,a=>Jb l (B7 q a)
abbrev IU:List Mt->Nat->Nat
  | [],a=>a
  |q::l,a=>IU l (FE q a)
abbrev Ja:List Mt->Nat->Nat->List (Params->DictEntry)->List (Params->DictEntry)
  | [],_,_,r=>r
  |q::l,a,t,r=>eR q.1 (FE q t-1) (B7 q a-1)::Ja l (B7 q a) (FE q t) r
abbrev Jn:List Mt->Nat->List Value
  | [],_=>[]
  |q::l,a=>.int q.2.2.2.1 0::.int 4 0::.ref (B7 q a-2)::Jn l (B7 q a)
@[reducible]def It:Type:=(Params->List Obj)×List (Params->DictEntry)×List Value
abbrev iF (a t i:Nat)(m:Str×Nat)(x:Str)(l:List Str)(ln n:Nat)(d:List (Obj×Nat):=[]):It:=(λ_=>IP a t (top i) m (x,x,l,ln,n,d),eR x (FE (x,x,l,ln,n,d) t-1) (B7 (x,x,l,ln,n,d) a-1)::[],.int ln 0::.int 0 0::.ref (B7 (x,x,l,ln,n,d) a-2)::[])
abbrev iR (o:Params->List Obj):It:=(o,[],[])
abbrev iE (x:Str)(t:Nat)(v:Value):It:=(λ_=>[],[eV x t v],[])
abbrev iC (a T i:Nat)(m:Str×Nat)(x:Str)(ln:Nat)(ms:List Mt)(st:List Str)(sub:List Value:=[]) (br:Nat:=0) (mro:List Value:=[]) (w:String:=""):It:=
  let b:=Jb ms (a+7)
  let s:=IU ms (T+12)
  let e:=s+st.length
  let h (z:List (Params->DictEntry)):=eF (T+11) ln (T+10)::Ja ms (a+7) (T+12) (eS e b::z)
  let o (y:List (Params->DictEntry)) (z k:Obj) (n:Nat) (r:List Obj) (P:Params):List Obj:=z::oP::oD P (eM (T+7) m.1 m.2::eQ (T+9) x (T+8)::h []) (4+ms.length)::o0::⟨.none,none,.fields (Array.mk (Jn ms (a+7))),#[]⟩::oK x (T+2) ln (a+3)::oR (a+5) (a+2) m.1 m.2::IQ i m 0 ms (a+7) (T+12) ((match st with| []=>o0|_=>oS st s)::oD P (eM (T+7) m.1 m.2::h y) n::k::r) 0 0
  match br with
  |0=>(o [eR "__dict__" (e+2) (b+3),eR "__weakref__" (e+4) (b+4),eN (e+5)] o0 ⟨.type "type",none,.cls ⟨x,[.type "object"],[.ref (b+2),.type "object"],b+1,x,true,[],sub,false,none,false⟩,#[none,none,some (.str x T),some (.str x (T+8)),some (.builtin "object.__new__"),some (.bool true)]⟩ 4 [oG "__dict__" "function.__dict__" (.builtin "function.__dict__#set") (b+2) (e+1),oG "__weakref__" "ExceptionGroup.__weakref__" .none (b+2) (e+3),oU (b+2),oJ (b+2)],eR x (e+7) (b+2)::[],.int ln 0::.int 0 0::.ref (a+5)::[])
  |_=>(o [eN (e+1)] (oQ br) (oX x [.ref br] (.ref (b+2)::.ref br::mro) (b+1) sub a T (T+8) w) 2 [oU (b+2),oJ (b+2)],eR x (e+3) (b+2)::[],.int ln 0::.int 0 0::.ref (a+5)::[])
abbrev G5 (P:Params)(nm:Str)(nt n:Nat)(l:List It):List Obj:=bo P 0::bo P 1::bo P 2::oD P (eV "__name__" 165 (.str nm nt)::eN 166::eV "__package__" 167 .none::eV "__loader__" 168 (.builtin "__main__.__loader__#opaque")::eV "__spec__" 169 .none::eR "__annotations__" 170 6::eR "__builtins__" 171 4::eV "__file__" 173 (.str "/claim/cut.py" 172)::eV "__cached__" 174 .none::l.flatMap (·.2.1)) n::bo P 4::bo P 5::bo P 6::bo P 7::bo P 8::bo P 9::bo P 10::o0::⟨.none,none,.fields (Array.mk (l.flatMap (·.2.2))),#[]⟩::oK "<module>" 182 1 11::oR 13 3 "__main__" 164::l.flatMap (·.1 P)
abbrev JE:Str×Nat:=("__main__",164)
abbrev BA:Str×Nat:=("haulbell.errors",194)
abbrev Jh:Str×Nat:=("haulbell.wholes",418)
abbrev Hd:Str×Nat:=("haulbell.boxes",436)
abbrev Bd:Str×Nat:=("haulbell.deeds",541)
abbrev uE:Str×Nat:=("haulbell.longs",791)
abbrev Hk:Str×Nat:=("haulbell.machine",1045)
abbrev Jj:Str×Nat:=("haulbell.store",1188)
abbrev Hn:Str×Nat:=("haulbell.shadows",1305)
abbrev Cb:Str×Nat:=("haulbell.likeness",1395)
abbrev CW:Str×Nat:=("haulbell.hops",1474)
abbrev fQ:Str×Nat:=("law_haulbell_k87_known_pairs",1536)
abbrev B0 (a T i:Nat)(m:Str×Nat)(x:Str)(ln:Nat)(ms:List Mt)(st:List Str)(sub:List Value:=[]):It:=iC a T i m x ln ms st sub 31 [.type "ValueError",.type "Exception",.type "BaseException",.type "object"] "ValueError.__new__"
abbrev uF (a T i:Nat)(m:Str×Nat)(x:Str)(ln:Nat)(ms:List Mt)(st:List Str)(sub:List Value:=[]):It:=iC a T i m x ln ms st sub 294 [.type "object"] "object.__new__"
abbrev Af:List It:=
iF 15 187 0 JE "_wall" ["k"] 1 1::
iE "HaulError" 213 (.ref 31)::
iR (λP=>[⟨.type "tuple",none,.seq #[.type "ValueError"] 0,#[]⟩,oP,oD P [eM 203 "haulbell.errors" 194,eQ 205 "HaulError" 204,eF 207 5 206,eS 208 29] 4,o0,oN,oK "HaulError" 198 5 25,oR 27 24 "haulbell.errors" 194,o0,oD P [eM 203 "haulbell.errors" 194,eF 207 5 206,eS 208 29,eR "__weakref__" 210 32,eN 211] 3,oX "HaulError" [.type "ValueError"] [.ref 31,.type "ValueError",.type "Exception",.type "BaseException",.type "object"] 30 [.ref 51,.ref 70,.ref 89,.ref 108,.ref 127,.ref 146,.ref 165,.ref 184] 22 196 204 "ValueError.__new__",⟨.type "getset_descriptor",none,.fields #[.str "__weakref__" 209,.ref 31,.builtin "ExceptionGroup.__weakref__",.none],#[]⟩,oU 31,oJ 31])::
B0 35 214 3 BA "NoStore" 7 [("__init__","NoStore.__init__",["self","at"],9,2,[])] ["at"]::
B0 54 239 4 BA "Stop" 12 [("__init__","Stop.__init__",["self","deed","cell"],14,3,[])] ["cell","deed"]::
B0 73 266 5 BA "NoFit" 18 [("__init__","NoFit.__init__",["self","box","number"],20,3,[])] ["box","number"]::
B0 92 293 6 BA "NoBox" 24 [("__init__","NoBox.__init__",["self","box"],26,2,[])] ["box"]::
B0 111 318 7 BA "NoDeed" 29 [("__init__","NoDeed.__init__",["self","word"],31,2,[])] ["word"]::
B0 130 343 8 BA "NoRows" 34 [("__init__","NoRows.__init__",["self","at"],36,2,[])] ["at"]::
B0 149 368 9 BA "NoPlace" 39 [("__init__","NoPlace.__init__",["self","at"],41,2,[])] ["at"]::
B0 168 393 10 BA "NotBlind" 44 [("__init__","NotBlind.__init__",["self","at"],46,2,[])] ["at"]::
iE "BOUND" 421 (.int 1000000000 420)::
iF 187 422 13 Jh "is_whole" ["thing"] 51 1::
iF 194 429 14 Jh "is_content" ["thing"] 53 1::
iE "NAMES" 444 (.ref 201)::
iR (λ_=>[oS ["here","there","left","way","sign","met"] 438])::
iF 202 445 17 Hd "is_box" ["thing"] 57 1::
iF 209 452 18 Hd "is_number" ["thing"] 59 1::
iF 216 459 19 Hd "fits" ["box","thing"] 61 2::
iC 223 467 20 Hd "Boxes" 69 [("__init__","Boxes.__init__",["self","here","there","left","way","sign","met","handed","box","number"],71,7,[(⟨.type "tuple",none,.seq #[.int 0 479,.int 0 480,.int 0 481,.int 1 482,.int 0 483,.int 0 484] 0,#[]⟩,6)]),("holds","Boxes.holds",["self","box"],78,2,[]),("give","Boxes.give",["self","box","number"],83,3,[]),("told","Boxes.told",[],90,1,[]),("copied","Boxes.copied",["self","other"],93,1,[])] ["numbers"]::
iF 271 543 22 Bd "check_box" ["word","box"] 98 2::
iF 278 551 23 Bd "check_number" ["word","number"] 101 2::
iC 285 559 0 Bd "Deed" 104 [] [] [.ref 329,.ref 362,.ref 395,.ref 428,.ref 461,.ref 529,.ref 555,.ref 581,.ref 607,.ref 633,.ref 659,.ref 1031]::
uF 299 579 25 Bd "Set" 106 [("__init__","Set.__init__",["self","box","number"],108,3,[]),("step","Set.step",["self","boxes","store"],114,3,[]),("words","Set.words",["self"],118,1,[])] ["box","number"]::
uF 332 622 26 Bd "Add" 120 [("__init__","Add.__init__",["self","box","number"],122,3,[]),("step","Add.step",["self","boxes","store"],128,3,[]),("words","Add.words",["self"],132,1,[])] ["box","number"]::
uF 365 665 27 Bd "Take" 134 [("__init__","Take.__init__",["self","box","other"],136,3,[]),("step","Take.step",["self","boxes","store"],142,3,[]),("words","Take.words",["self"],146,1,[])] ["box","other"]::
uF 398 708 28 Bd "Read" 148 [("__init__","Read.__init__",["self","box"],150,2,[]),("step","Read.step",["self","boxes","store"],154,3,[]),("words","Read.words",["self"],158,1,[])] ["box"]::
uF 431 749 29 Bd "Write" 160 [("__init__","Write.__init__",["self","box"],162,2,[]),("step","Write.step",["self","boxes","store","number"],166,3,[]),("words","Write.words",["self"],173,1,[])] ["box"]::
iF 464 793 31 uE "more" ["boxes","box","by"] 176 3::
iF 471 802 32 uE "go_by_way" ["boxes","box"] 178 2::
iF 478 810 33 uE "less_left" ["boxes","by"] 180 2::
iF 485 818 34 uE "ask_put" ["store","cell"] 183 2::
iF 492 826 35 uE "haul" ["store","source","target","content"] 186 3::
iF 499 836 36 uE "exchange" ["store","one","other","first","second"] 189 3::
uF 506 847 37 uE "Copy" 196 [("step","Copy.step",["self","boxes","store"],198,3,[]),("words","Copy.words",["self"],206,1,[])] []::[]
abbrev jQ:List It:=
uF 532 879 38 uE "Fill" 208 [("step","Fill.step",["self","boxes","store"],210,3,[]),("words","Fill.words",["self"],217,1,[])] []::
uF 558 911 39 uE "Seek" 219 [("step","Seek.step",["self","boxes","store"],221,3,[]),("words","Seek.words",["self"],232,1,[])] []::
uF 584 943 40 uE "Match" 234 [("step","Match.step",["self","boxes","store","content"],236,3,[]),("words","Match.words",["self"],249,1,[])] []::
uF 610 976 41 uE "Shift" 251 [("step","Shift.step",["self","boxes","store","left","here","there"],253,3,[]),("words","Shift.words",["self"],267,1,[])] []::
uF 636 1011 42 uE "Turn" 269 [("step","Turn.step",["self","boxes","store","left","here"],271,3,[]),("words","Turn.words",["self"],282,1,[])] []::
iE "MOST_ROWS" 1048 (.int 24 1047)::
iF 662 1049 45 Hk "check_rows" ["rows","at","thing"] 286 1::
iF 669 1058 46 Hk "check_place" ["at","many"] 292 2::
iF 676 1066 47 Hk "tried" ["deed","boxes","store","stop","refusal"] 295 3::
iC 683 1077 48 Hk "Machine" 302 [("__init__","Machine.__init__",["self","rows","store","boxes","at"],304,5,[(⟨.type "tuple",none,.seq #[.int 0 1089] 0,#[]⟩,1)]),("ended","Machine.ended",["self"],312,1,[]),("step_on","Machine.step_on",["self","store","by"],315,2,[]),("step","Machine.step",["self"],324,1,[]),("run","Machine.run",["self","most"],327,2,[]),("why","Machine.why",["self"],330,1,[]),("state","Machine.state",["self"],333,1,[]),("leaves","Machine.leaves",["self"],336,1,[]),("leave","Machine.leave",["self","low","behind","word"],339,4,[]),("rows","Machine.rows",[],342,1,[]),("copied","Machine.copied",["self"],345,1,[])] ["at","boxes","deeds","store"]::
iE "MOST_CELLS" 1191 (.int 60 1190)::
iF 773 1192 51 Jj "check_cells" ["cells","at","thing"] 349 1::
iC 780 1201 52 Jj "Store" 355 [("__init__","Store.__init__",["self","cells"],357,2,[]),("size","Store.size",["self"],362,1,[]),("told","Store.told",["self"],365,1,[]),("leaves","Store.leaves",["self"],368,1,[]),("leave","Store.leave",["self","low","behind","word"],371,4,[]),("may","Store.may",["self","deed","cell"],374,3,[]),("look","Store.look",["self","cell"],381,2,[]),("put","Store.put",["self","cell","content"],386,3,[]),("restore","Store.restore",["self","cell","content"],391,3,[]),("copied","Store.copied",["self","other"],394,1,[])] ["contents","permits"]::[]
abbrev EX:List It:=
iF 864 1307 54 Hn "looks_for_its_way" ["deed"] 400 1::
iF 871 1314 55 Hn "check_blind" ["rows","at","deed"] 402 1::
iC 878 1323 56 Hn "Origins" 406 [("__init__","Origins.__init__",[],408,2,[]),("may","Origins.may",["self","deed","cell"],411,3,[]),("look","Origins.look",["self","cell"],414,2,[]),("put","Origins.put",["self","cell","thing"],419,3,[]),("told","Origins.told",["self"],424,1,[])] ["sources"]::
iF 925 1383 57 Hn "shadows" ["rows","boxes","size","machine","origins","told"] 426 3::
iF 932 1397 59 Cb "shadow_at" ["told","bell"] 436 2::
iF 939 1405 60 Cb "content_of" ["origin","cells"] 438 2::
iF 946 1413 61 Cb "first_box" ["one","other","at","box"] 440 2::
iF 953 1423 62 Cb "first_cell" ["one","other","cells","cell"] 445 3::
iF 960 1433 63 Cb "stores_to_try" ["size","stores","cell"] 450 1::
iF 967 1442 64 Cb "least_store" [] 455 2::
iF 972 1448 65 Cb "parted" ["bell","one","other","box","cells"] 457 3::
iF 979 1459 66 Cb "alike" ["one","other","boxes","size","first","second","bell","left","right"] 463 4::
iE "MOST_HOPPED" 1477 (.int 24 1476)::
iF 986 1478 69 CW "is_many" ["thing"] 474 1::
iF 993 1485 70 CW "is_on" ["thing"] 476 1::
uF 1000 1492 71 CW "Hop" 478 [("__init__","Hop.__init__",["self","many","on"],480,3,[(⟨.type "tuple",none,.seq #[.none] 0,#[]⟩,0)]),("step","Hop.step",["self","boxes","store"],486,3,[]),("words","Hop.words",["self","told"],491,1,[])] ["many","on"]::
iF 1034 1538 73 fQ "_law_hand" ["_law_script","_law_cells_here","_law_fold","_law_cell"] 497 1::
iF 1041 1548 74 fQ "_law_draw" ["_law_hand_here","_law_many","_law_rest","_law_cell","_law_one","_law_two"] 503 2::
iF 1048 1560 75 fQ "_law_content" ["_law_hand_here","_law_way"] 519 1::
iF 1055 1568 76 fQ "_law_cells" [] 528 2::
iF 1060 1574 77 fQ "_law_set" ["_law_here","_law_there","_law_left"] 536 3::
iF 1067 1583 78 fQ "_law_ones" ["_law_size","_law_places","_law_cells_here","_law_place"] 538 2::
iF 1074 1593 79 fQ "_law_copied" ["_law_hand_here","_law_size","_law_many","_law_here","_law_there","_law_due"] 543 2::
iF 1081 1605 80 fQ "_law_idle" ["_law_hand_here","_law_some"] 551 1::
iF 1088 1613 81 fQ "_law_written" ["_law_hand_here","_law_size","_law_at","_law_number","_law_ahead","_law_cells_here"] 554 2::
iF 1095 1625 82 fQ "_law_two_cells" ["_law_hand_here","_law_size","_law_there","_law_ahead"] 560 2::
iF 1102 1635 83 fQ "_law_turned" ["_law_hand_here","_law_size","_law_many","_law_here","_law_ahead"] 564 2::
iF 1109 1646 84 fQ "_law_stopped" ["_law_hand_here","_law_size","_law_ahead"] 569 2::
iF 1116 1655 85 fQ "_law_pair" ["_law_hand_here","_law_way","_law_size"] 572 3::[]
abbrev Jr (P:Params):List Obj:=oW [(12,⟨.none,none,.fields #[.int 1 0,.int 0 0,.ref 20,.int 5 0,.int 0 0,.ref 27,.int 7 0,.int 0 0,.ref 40,.int 12 0,.int 0 0,.ref 59,.int 18 0,.int 0 0,.ref 78,.int 24 0,.int 0 0,.ref 97,.int 29 0,.int 0 0,.ref 116,.int 34 0,.int 0 0,.ref 135,.int 39 0,.int 0 0,.ref 154,.int 44 0,.int 0 0,.ref 173,.int 51 0,.int 0 0,.ref 192,.int 53 0,.int 0 0,.ref 199,.int 57 0,.int 0 0,.ref 207,.int 59 0,.int 0 0,.ref 214,.int 61 0,.int 0 0,.ref 221,.int 69 0,.int 0 0,.ref 228,.int 98 0,.int 0 0,.ref 276,.int 101 0,.int 0 0,.ref 283,.int 104 0,.int 0 0,.ref 290,.int 106 0,.int 0 0,.ref 304,.int 120 0,.int 0 0,.ref 337,.int 134 0,.int 0 0,.ref 370,.int 148 0,.int 0 0,.ref 403,.int 160 0,.int 0 0,.ref 436,.int 176 0,.int 0 0,.ref 469,.int 178 0,.int 0 0,.ref 476,.int 180 0,.int 0 0,.ref 483,.int 183 0,.int 0 0,.ref 490,.int 186 0,.int 0 0,.ref 497,.int 189 0,.int 0 0,.ref 504,.int 196 0,.int 0 0,.ref 511],#[]⟩),(294,⟨.type "type",none,.cls ⟨"Deed",[.type "object"],[.ref 294,.type "object"],293,"Deed",true,[],[.ref 329,.ref 362,.ref 395,.ref 428,.ref 461,.ref 529],false,none,false⟩,#[none,none,some (.str "Deed" 559),some (.str "Deed" 567),some (.builtin "object.__new__"),some (.bool true)]⟩)] (G5 P "haulbell.longs" 791 42 Af)
abbrev JI (P:Params):List Obj:=oW [(12,⟨.none,none,.fields #[.int 1 0,.int 0 0,.ref 20,.int 5 0,.int 0 0,.ref 27,.int 7 0,.int 0 0,.ref 40,.int 12 0,.int 0 0,.ref 59,.int 18 0,.int 0 0,.ref 78,.int 24 0,.int 0 0,.ref 97,.int 29 0,.int 0 0,.ref 116,.int 34 0,.int 0 0,.ref 135,.int 39 0,.int 0 0,.ref 154,.int 44 0,.int 0 0,.ref 173,.int 51 0,.int 0 0,.ref 192,.int 53 0,.int 0 0,.ref 199,.int 57 0,.int 0 0,.ref 207,.int 59 0,.int 0 0,.ref 214,.int 61 0,.int 0 0,.ref 221,.int 69 0,.int 0 0,.ref 228,.int 98 0,.int 0 0,.ref 276,.int 101 0,.int 0 0,.ref 283,.int 104 0,.int 0 0,.ref 290,.int 106 0,.int 0 0,.ref 304,.int 120 0,.int 0 0,.ref 337,.int 134 0,.int 0 0,.ref 370,.int 148 0,.int 0 0,.ref 403,.int 160 0,.int 0 0,.ref 436,.int 176 0,.int 0 0,.ref 469,.int 178 0,.int 0 0,.ref 476,.int 180 0,.int 0 0,.ref 483,.int 183 0,.int 0 0,.ref 490,.int 186 0,.int 0 0,.ref 497,.int 189 0,.int 0 0,.ref 504,.int 196 0,.int 0 0,.ref 511,.int 208 0,.int 0 0,.ref 537,.int 219 0,.int 0 0,.ref 563,.int 234 0,.int 0 0,.ref 589,.int 251 0,.int 0 0,.ref 615,.int 269 0,.int 0 0,.ref 641,.int 286 0,.int 0 0,.ref 667,.int 292 0,.int 0 0,.ref 674,.int 295 0,.int 0 0,.ref 681,.int 302 0,.int 0 0,.ref 688,.int 349 0,.int 0 0,.ref 778,.int 355 0,.int 0 0,.ref 785],#[]⟩),(294,⟨.type "type",none,.cls ⟨"Deed",[.type "object"],[.ref 294,.type "object"],293,"Deed",true,[],[.ref 329,.ref 362,.ref 395,.ref 428,.ref 461,.ref 529,.ref 555,.ref 581,.ref 607,.ref 633,.ref 659],false,none,false⟩,#[none,none,some (.str "Deed" 559),some (.str "Deed" 567),some (.builtin "object.__new__"),some (.bool true)]⟩)] (G5 P "haulbell.store" 1188 55 (Af++jQ))
abbrev JL (P:Params):List Obj:=oW [(12,⟨.none,none,.fields #[.int 1 0,.int 0 0,.ref 20,.int 5 0,.int 0 0,.ref 27,.int 7 0,.int 0 0,.ref 40,.int 12 0,.int 0 0,.ref 59,.int 18 0,.int 0 0,.ref 78,.int 24 0,.int 0 0,.ref 97,.int 29 0,.int 0 0,.ref 116,.int 34 0,.int 0 0,.ref 135,.int 39 0,.int 0 0,.ref 154,.int 44 0,.int 0 0,.ref 173,.int 51 0,.int 0 0,.ref 192,.int 53 0,.int 0 0,.ref 199,.int 57 0,.int 0 0,.ref 207,.int 59 0,.int 0 0,.ref 214,.int 61 0,.int 0 0,.ref 221,.int 69 0,.int 0 0,.ref 228,.int 98 0,.int 0 0,.ref 276,.int 101 0,.int 0 0,.ref 283,.int 104 0,.int 0 0,.ref 290,.int 106 0,.int 0 0,.ref 304,.int 120 0,.int 0 0,.ref 337,.int 134 0,.int 0 0,.ref 370,.int 148 0,.int 0 0,.ref 403,.int 160 0,.int 0 0,.ref 436,.int 176 0,.int 0 0,.ref 469,.int 178 0,.int 0 0,.ref 476,.int 180 0,.int 0 0,.ref 483,.int 183 0,.int 0 0,.ref 490,.int 186 0,.int 0 0,.ref 497,.int 189 0,.int 0 0,.ref 504,.int 196 0,.int 0 0,.ref 511,.int 208 0,.int 0 0,.ref 537,.int 219 0,.int 0 0,.ref 563,.int 234 0,.int 0 0,.ref 589,.int 251 0,.int 0 0,.ref 615,.int 269 0,.int 0 0,.ref 641,.int 286 0,.int 0 0,.ref 667,.int 292 0,.int 0 0,.ref 674,.int 295 0,.int 0 0,.ref 681,.int 302 0,.int 0 0,.ref 688,.int 349 0,.int 0 0,.ref 778,.int 355 0,.int 0 0,.ref 785,.int 400 0,.int 0 0,.ref 869,.int 402 0,.int 0 0,.ref 876,.int 406 0,.int 0 0,.ref 883,.int 426 0,.int 0 0,.ref 930,.int 436 0,.int 0 0,.ref 937,.int 438 0,.int 0 0,.ref 944,.int 440 0,.int 0 0,.ref 951,.int 445 0,.int 0 0,.ref 958,.int 450 0,.int 0 0,.ref 965,.int 455 0,.int 0 0,.ref 970,.int 457 0,.int 0 0,.ref 977,.int 463 0,.int 0 0,.ref 984,.int 474 0,.int 0 0,.ref 991,.int 476 0,.int 0 0,.ref 998,.int 478 0,.int 0 0,.ref 1005,.int 497 0,.int 0 0,.ref 1039,.int 503 0,.int 0 0,.ref 1046,.int 519 0,.int 0 0,.ref 1053,.int 528 0,.int 0 0,.ref 1058,.int 536 0,.int 0 0,.ref 1065,.int 538 0,.int 0 0,.ref 1072,.int 543 0,.int 0 0,.ref 1079,.int 551 0,.int 0 0,.ref 1086,.int 554 0,.int 0 0,.ref 1093,.int 560 0,.int 0 0,.ref 1100,.int 564 0,.int 0 0,.ref 1107,.int 569 0,.int 0 0,.ref 1114,.int 572 0,.int 0 0,.ref 1121],#[]⟩)] (G5 P "law_haulbell_k87_known_pairs" 1536 84 (Af++jQ++EX))
abbrev S0 (P:Params)(os:OsState):SharedT:=⟨ED 0 .nil (Jz P),15,(boot_heap P).life,Array.mk [],boot_drawn,187,os⟩
abbrev q0:Pos:=⟨0,0,0,0⟩
abbrev S1 (P:Params)(os:OsState):SharedT:=⟨ED 0 .nil (Jr P),532,(boot_heap P).life,Array.mk [],boot_drawn,879,os⟩
abbrev q1:Pos:=⟨196,0,207,23⟩
abbrev S2 (P:Params)(os:OsState):SharedT:=⟨ED 0 .nil (JI P),864,(boot_heap P).life,Array.mk [],boot_drawn,1305,os⟩
abbrev q2:Pos:=⟨355,0,398,20⟩
abbrev S3 (P:Params)(os:OsState):SharedT:=⟨ED 0 .nil (JL P),1123,(boot_heap P).life,Array.mk [],boot_drawn,1664,os⟩
abbrev q3:Pos:=⟨572,0,583,50⟩
abbrev JM (P:Params):List Obj:=G5 P "law_haulbell_k87_known_pairs" 1536 85 (Af++jQ++EX++[iF 1123 1664 86 fQ "law" (List.replicate 9 "law") 584 1])
abbrev K0 (P:Params):PySem.W.Frag:=G9.map λa=>(a,(JM P).getD a oN)
abbrev nu (p:Program):Program:=PySem.W.view p [86]
abbrev wL:List Str:="_wall"::"HaulError"::"NoStore"::"Stop"::"NoFit"::"NoBox"::"NoDeed"::"NoRows"::"NoPlace"::"NotBlind"::"BOUND"::"is_whole"::"is_content"::"NAMES"::"is_box"::"is_number"::"fits"::"Boxes"::"check_box"::"check_number"::"Deed"::"Set"::"Add"::"Take"::"Read"::"Write"::"more"::"go_by_way"::"less_left"::"ask_put"::"haul"::"exchange"::"Copy"::"Fill"::"Seek"::"Match"::"Shift"::"Turn"::"MOST_ROWS"::"check_rows"::"check_place"::"tried"::"Machine"::"MOST_CELLS"::"check_cells"::"Store"::"looks_for_its_way"::"check_blind"::"Origins"::"shadows"::"shadow_at"::"content_of"::"first_box"::"first_cell"::"stores_to_try"::"least_store"::"parted"::"alike"::"MOST_HOPPED"::"is_many"::"is_on"::"Hop"::"_law_hand"::"_law_draw"::"_law_content"::"_law_cells"::"_law_set"::"_law_ones"::"_law_copied"::"_law_idle"::"_law_written"::"_law_two_cells"::"_law_turned"::"_law_stopped"::"_law_pair"::[]
end My
open PySem PySem.W in
set_option maxHeartbeats 0 in
def My.Cp (w:World)(os:OsState):My.runK treeTable My.pr w 11 (some (.ref 6)) 12 (My.G8 w.params os) (topStub My.pr)=some (My.S0 w.params os,⟨denote treeTable (.body (behindTheImports My.pr) (My.gF My.pr)),.body (behindTheImports My.pr) (My.gF My.pr),default,[My.IS]⟩):=by
  delta My.pr;rewrite[Fast.te2368527892694137696,Fast.te14364793385576792824]
  kernel_rfl
open PySem PySem.W in
set_option maxHeartbeats 0 in
def My.Ek (w:World)(os:OsState)(B:List Stmt):My.runK treeTable My.pr w 11 (some (.ref 6)) 5021 (My.S0 w.params os) (My.ly My.pr (((behindTheImports My.pr).drop 0).take 38++B) My.q0)=some (My.S1 w.params os,My.ly My.pr B My.q1):=by
  delta My.pr;rewrite[Fast.te2368527892694137696,Fast.te14364793385576792824]
  kernel_rfl
open PySem PySem.W in
set_option maxHeartbeats 0 in
def My.CD (w:World)(os:OsState)(B:List Stmt):My.runK treeTable My.pr w 11 (some (.ref 6)) 2603 (My.S1 w.params os) (My.ly My.pr (((behindTheImports My.pr).drop 38).take 15++B) My.q1)=some (My.S2 w.params os,My.ly My.pr B My.q2):=by
  delta My.pr;rewrite[Fast.te2368527892694137696,Fast.te14364793385576792824]
  kernel_rfl
open PySem PySem.W in
set_option maxHeartbeats 0 in
def My.Ef (w:World)(os:OsState)(B:List Stmt):My.runK treeTable My.pr w 11 (some (.ref 6)) 1518 (My.S2 w.params os) (My.ly My.pr (((behindTheImports My.pr).drop 53).take 33++B) My.q2)=some (My.S3 w.params os,My.ly My.pr B My.q3):=by
  delta My.pr;rewrite[Fast.te2368527892694137696,Fast.te14364793385576792824]
  kernel_rfl
open PySem PySem.W in
set_option maxHeartbeats 0 in
def My.Fn:LeftO My.pr (My.nu My.pr) My.wL (λs=>xlAt (My.nu My.pr) [] s&&recOk PySem.Challenge.rw_haulbell_k87_known_pairs.row.records s) (λs=>My.G9.map s.heap.get?) (λw=>(My.K0 w.params).map λp=>some p.2) 18484:=by
  refine My.tM (by kernel_rfl) rfl (λ_=>by kernel_rfl) (λ_=>by kernel_rfl) (λ_=>by kernel_rfl) λw os=>?_
  have d:denote treeTable (.body (behindTheImports My.pr) (My.gF My.pr))=My.yH My.pr (behindTheImports My.pr):=My.yc (by kernel_rfl);have e:My.j5 treeTable My.pr w 11 (some (.ref 6)) (12+(5021+(2603+(1518+(9330))))) (My.G8 w.params os) (topStub My.pr)=My.j5 treeTable My.pr w 11 (some (.ref 6)) 9330 (My.S3 w.params os) (My.ly My.pr ((behindTheImports My.pr).drop 86) My.q3):=by
    rw[My.cO (My.Cp w os)];dsimp only;rw[d];show My.j5 treeTable My.pr w 11 (some (.ref 6)) _ (My.S0 w.params os) (My.ly My.pr ((behindTheImports My.pr).drop 0) My.q0)=_;rw[show (behindTheImports My.pr).drop 0=((behindTheImports My.pr).drop 0).take 38++(behindTheImports My.pr).drop 38 from by
      rw[show (behindTheImports My.pr).drop 38=((behindTheImports My.pr).drop 0).drop 38 by rw[List.drop_drop],List.take_append_drop],My.cO (My.Ek w os _)]
    rw[show (behindTheImports My.pr).drop 38=((behindTheImports My.pr).drop 38).take 15++(behindTheImports My.pr).drop 53 from by
      rw[show (behindTheImports My.pr).drop 53=((behindTheImports My.pr).drop 38).drop 15 by rw[List.drop_drop],List.take_append_drop],My.cO (My.CD w os _)]
    rw[show (behindTheImports My.pr).drop 53=((behindTheImports My.pr).drop 53).take 33++(behindTheImports My.pr).drop 86 from by
      rw[show (behindTheImports My.pr).drop 86=((behindTheImports My.pr).drop 53).drop 33 by rw[List.drop_drop],List.take_append_drop],My.cO (My.Ef w os _)]
  rw[show (18484:Nat)=12+(5021+(2603+(1518+(9330)))) from rfl,e]
  delta My.pr;rewrite[Fast.te4187177175401517315,Fast.te5923862056798008813,Fast.te2368527892694137696,Fast.te14364793385576792824]
  kernel_rfl
set_option Elab.async false
open List(mem_range filterMap_cons mem_cons_self mem_cons_of_mem mem_cons mem_append_left getElem?_set_self getElem?_set_ne mem_append_right size_toArray any_eq_false length_cons map_cons length_map append_nil nodup_cons of_mem_zip length_take getElem?_append_right getElem?_replicate getElem?_append_left getElem?_map take_sublist mem_of_getElem? length_append length_replicate length_drop length_set all_cons any_cons replicate_succ flatten_cons append_assoc foldl_cons length_singleton nil_append find?_cons forIn_cons forIn_nil getElem?_eq_getElem drop_zero lookup_cons not_mem_nil length_zip all_eq_true length_eq_zero_iff length_range zip_cons_cons zip_append take_append_drop isEmpty_iff mem_singleton getElem?_of_mem getElem?_eq_none getElem?_set map_append ext_getElem?)
@[reducible]def JP:Type:=Option PySem.Value->PySem.Shared->Prop
@[reducible]def JQ:Type:=Unit->PySem.Shared->Prop
@[reducible]def JR:Type:=PySem.Value->PySem.Shared->Prop
@[reducible]def JS:Type:=List (PySem.Addr×PySem.Obj)
@[reducible]def JT:Type:=PySem.Str->Option PySem.Value
namespace L2
open PySem PySem.Spec PyProof.Rows
@[reducible]def Key:=Sum Int Str
abbrev kO:Key->Value->Bool
 | .inl k,v=>Value.isInt k v
 | .inr x,v=>Value.isStrOf x v
abbrev II (w:World):Key->Int
 | .inl k=>hashInt k
 | .inr x=>hashStr w x
def aB:∀ {k:Key}{v:Value},kO k v=true->(∃ i t,k=Sum.inl i/\v=Value.int i t)\/(∃ x t,k=Sum.inr x/\v=Value.str x t)
 | .inl i,v,h=>by
  obtain ⟨t,e⟩:=Value.isInt_shape (k:=i) (v:=v) h;exact .inl ⟨i,t,rfl,e⟩
 | .inr x,v,h=>by
  obtain ⟨t,e⟩:=Value.isStrOf_shape (x:=x) (v:=v) h;exact .inr ⟨x,t,rfl,e⟩
def tT (i:Int)(t:Tok):kO (.inl i) (.int i t)=true:=by simp[kO,Value.isInt]
def ur (x:Str)(t:Tok):kO (.inr x) (.str x t)=true:=by simp[kO,Value.isStrOf]
def C9 (a b:Int):decide ((Sum.inl a:Key)=Sum.inl b)=(a ==b):=by
 by_cases e:a=b
 ·subst e;simp
 ·have h:¬ (Sum.inl a:Key)=Sum.inl b:=λq=>e (Sum.inl.inj q)
  rw[decide_eq_false h];exact (beq_eq_false_iff_ne.mpr e).symm
def Dt (a b:Str):decide ((Sum.inr a:Key)=Sum.inr b)=decide (a=b):=by
 by_cases e:a=b
 ·subst e;simp
 ·have h:¬ (Sum.inr a:Key)=Sum.inr b:=λq=>e (Sum.inr.inj q)
  rw[decide_eq_false h,decide_eq_false e]
def CN (a:Int)(b:Str):decide ((Sum.inl a:Key)=Sum.inr b)=false:=decide_eq_false (λq=>nomatch q)
def DX (a:Str)(b:Int):decide ((Sum.inr a:Key)=Sum.inl b)=false:=decide_eq_false (λq=>nomatch q)
abbrev aE (prog:Program)(w:World):PySem.KeyKind prog w Key where
 is:=kO
 hash:=II w
 inj:=λv a b ha hb=>by
  rcases aB ha with ⟨i,t,rfl,rfl⟩|⟨x,t,rfl,rfl⟩
  ·rcases aB hb with ⟨j,u,rfl,e⟩|⟨y,u,rfl,e⟩
   ·injection e with e1 _;rw[e1]
   ·exact nomatch e
  ·rcases aB hb with ⟨j,u,rfl,e⟩|⟨y,u,rfl,e⟩
   ·exact nomatch e
   ·injection e with e1 _;rw[e1]
 byValue:=λk v h=>by
  rcases aB h with ⟨i,t,rfl,rfl⟩|⟨x,t,rfl,rfl⟩<;>rfl
 pyHash:=λhv h=>by
  rcases aB hv with ⟨i,t,rfl,rfl⟩|⟨x,t,rfl,rfl⟩
  ·exact wpAny_pyHash_int h
  ·exact wpAny_pyHash_str h
 eqBool:=λhu hv h=>by
  rcases aB hu with ⟨i,t,rfl,rfl⟩|⟨x,t,rfl,rfl⟩
  ·rcases aB hv with ⟨j,u,rfl,rfl⟩|⟨y,u,rfl,rfl⟩
   ·rw[C9] at h;exact wpAny_eqBool_int h
   ·rw[CN] at h;exact SeqAt.EqAt.int_str i t y u _ _ _ _ h
  ·rcases aB hv with ⟨j,u,rfl,rfl⟩|⟨y,u,rfl,rfl⟩
   ·rw[DX] at h;exact SeqAt.EqAt.str_int x t j u _ _ _ _ h
   ·rw[Dt] at h;exact wpAny_eqBool_str h
 «strs»:=λk x t v h=>by
  rcases aB h with ⟨i,u,rfl,e⟩|⟨y,u,rfl,e⟩
  ·exact nomatch e
  ·injection e with e1 _
   subst e1;cases v<;>rfl
def pe (prog:Program)(w:World)(i:Int)(t:Tok):(aE prog w).is (.inl i) (.int i t)=true:=tT i t
def oY (prog:Program)(w:World)(x:Str)(t:Tok):(aE prog w).is (.inr x) (.str x t)=true:=ur x t
inductive V where
 |non|bl (b:Bool)|int (i:Int)|str (x:Str)|byt (b:Array UInt8)|flt (b:UInt64)|ref (a:Addr)|ty (n:String)
 deriving DecidableEq
abbrev RelV:V->Value->Prop
 | .non,u=>u=Value.none
 | .bl b,u=>u=Value.bool b
 | .int i,u=>∃ t,u=Value.int i t
 | .str x,u=>∃ t,u=Value.str x t
 | .byt b,u=>∃ t,u=Value.bytes b t
 | .flt b,u=>∃ t,u=Value.float b t
 | .ref a,u=>u=Value.ref a
 | .ty n,u=>u=Value.type n
@[reducible]def Vals:List V->List Value->Prop:=Paired RelV
variable {xs:List V}{us:List Value}
def Vals.length (r:Vals xs us):xs.length=us.length:=Paired.length r
def Vals.get:∀ {xs:List V}{us:List Value}{i:Nat}{x:V},Vals xs us->xs[i]? =some x->∃ u,us[i]? =some u/\RelV x u
 |_,_,_,_,.nil,e=>by simp at e
 |_,_,0,_,.cons r _,e=>by simp at e;subst e;exact ⟨_,rfl,r⟩
 |_,_,i+1,x,.cons _ t,e=>by
  obtain ⟨u,h1,h2⟩:=Vals.get (i:=i) (x:=x) t (by simpa using e);exact ⟨u,by simpa using h1,h2⟩
variable {u:Value}
def Vals.set {x:V}(r:RelV x u):∀ {xs:List V}{us:List Value}(i:Nat),Vals xs us->Vals (xs.set i x) (us.set i u)
 |_,_,_,.nil=>.nil
 |_,_,0,.cons _ t=>.cons r t
 |_,_,i+1,.cons q t=>.cons q (Vals.set r i t)
def Vals.append:∀ {xs ys:List V}{us ws:List Value},Vals xs us->Vals ys ws->Vals (xs++ys) (us++ws)
 |_,_,_,_,.nil,s=>s
 |_,_,_,_,.cons r t,s=>.cons r (Vals.append t s)
def Vals.take:∀ {xs:List V}{us:List Value}(n:Nat),Vals xs us->Vals (xs.take n) (us.take n)
 |_,_,0,_=>.nil
 |_,_,_+1,.nil=>.nil
 |_,_,n+1,.cons r t=>.cons r (Vals.take n t)
def Vals.drop:∀ {xs:List V}{us:List Value}(n:Nat),Vals xs us->Vals (xs.drop n) (us.drop n)
 |_,_,0,r=>r
 |_,_,_+1,.nil=>.nil
 |_,_,n+1,.cons _ t=>Vals.drop n t
abbrev cR:Option V->Option Value->Prop
 |some v,some u=>RelV v u
 |none,none=>True
 |_,_=>False
abbrev KV {κ:Type}:List (κ×V)->List (κ×Value)->Prop:=Paired λ(p:κ×V) (q:κ×Value)=>p.1=q.1/\RelV p.2 q.2
abbrev kV:Key->V
 | .inl i=>.int i
 | .inr x=>.str x
inductive HO where
  |lst (xs:List V)
  |tup (xs:List V)
  |dK (kvs:List (Key×V))|dT (kvs:List (List Key×V))
  |set (S:Int->Bool) (n:Nat)
  |ins (C dx:Addr) (fs:List (Str×V))
  |own (x:Addr)
  |exc (C:Addr) (dx:Option Addr) (fs:List (Str×V)) (fr:Bool)
  |xd (fs:List (Str×V))
  |met (f x:Addr)
  |rng (lo hi:Int)
  |frz (o:Obj) (u:HO)
  |tbl (ps:Array Value)
  |ext (φ:Heap->Prop)
@[reducible]def Hp:=Addr->Option HO
abbrev upd (H:Hp)(a:Addr)(o:HO):Hp:=λb=>if b=a then some o else H b
variable {H:Hp}{a:Addr}{o:HO}
def aq:upd H a o a=some o:=by unfold upd;rw[if_pos rfl]
variable {b:Addr}
def af (h:b≠a):upd H a o b=H b:=by unfold upd;rw[if_neg h]
def A3 {u:HO}:upd (upd H a o) a u=upd H a u:=by
 funext b;unfold upd;split<;>rfl
def GX {u:HO}(h:H a=some o)(h':H b=some u)(d:o≠u):a≠b:=by
 intro e;subst e;rw[h] at h';exact d (Option.some.inj h')
def aC (h:H a=some o)(h':H b=none):a≠b:=by
 intro e;subst e;rw[h] at h';cases h'
section
variable (P:Program) (w:World)
abbrev ax (H:Hp)(h:Heap)(a:Addr):HO->Prop
 | .lst xs=>xs.length<=sizeLine/\∃ (its:List Value) (n:Nat),Vals xs its/\h.get? a=some { cls:=.type "list",data:=.seq its.toArray n }
 | .tup xs=>xs.length<=sizeLine/\∃ its:List Value,Vals xs its/\IsTup h a its.toArray
 | .dK kvs=>kvs.length<=sizeLine/\(a ==sysModules)=false/\∃ vs,KV kvs vs/\h.DictOf (aE P w) a vs
 | .dT kvs=>kvs.length<=sizeLine/\(a ==sysModules)=false/\∃ xs:List (List Key×Addr×Value),
   Paired (λ(p:List Key×V) (q:List Key×Addr×Value)=>p.1=q.1/\H q.2.1=some (.tup (p.1.map kV))/\RelV p.2 q.2.2) kvs xs/\
   ∃ o es ep,h.get? a=some o/\o.ExactDict/\o.data=.dict es ep/\es.toList=xs.map (entryOfKey (tupleKind (aE P w)))/\(xs.map (·.1)).Nodup
 | .set S n=>h.SetOf (intKind P w) a S n
 | .ins C dx fs=>H dx=some (.own a)/\fs.length<=1000/\dx≠a/\h.get? a=some (W.instObj C dx)/\
   ∃ mA,h.Ns1 dx mA/\(∀ f,cR (fs.lookup f) (mA f))/\PySem.Within mA (fs.map (·.1))
 | .exc C dx fs fr=>(∃ vs,h.get? a=some { cls:=.ref C,dict:=dx,data:=.fields vs }/\vs.size=6/\(fr=true->vs[1]? =some Value.none))/\
   ((dx=none/\fs=[])\/∃ d,dx=some d/\H d=some (.own a)/\fs.length<=1000/\d≠a/\∃ mA,h.Ns1 d mA/\(∀ f,cR (fs.lookup f) (mA f))/\PySem.Within mA (fs.map (·.1)))
 | .own _=>∃ o,h.get? a=some o
 | .xd fs=>∃ mA,h.Ns1 a mA/\∀ f,cR (fs.lookup f) (mA f)
 | .rng lo hi=>∃ t u v,h.get? a=some { cls:=.type "range",data:=.fields #[.int lo t,.int hi u,.int 1 v] }
 | .frz o u=>h.get? a=some o/\ax H h a u
 | .tbl ps=>h.get? a=some { cls:=.none,data:=.fields ps }
 | .met f x=>h.get? a=some (W.methodObj (.ref f) (.ref x))
 | .ext φ=>φ h/\(∃ o,h.get? a=some o)/\∀ h1 h2:Heap,φ h1->(∀ o,h1.get? a=some o->h2.get? a=some o)->φ h2
abbrev fv (H:Hp)(h:Heap):Prop:=∀ a o,H a=some o->ax P w H h a o
end
section
variable {P:Program}{w:World}{H H':Hp}{h h':Heap}{a:Addr}{o:HO}
def ax.lt (x:ax P w H h a o):a<h.objs.size:=by
 cases o with
 |lst xs=>obtain ⟨_,_,_,_,e⟩:=x;exact Heap.lt_size e
 |tup xs=>obtain ⟨_,_,_,p⟩:=x;exact p.lt
 |dK kvs=>obtain ⟨_,_,_,_,o,_,_,e,_⟩:=x;exact Heap.lt_size e
 |dT kvs=>obtain ⟨_,_,_,_,o,_,_,e,_⟩:=x;exact Heap.lt_size e
 |set S n=>obtain ⟨o,_,_,_,e,_⟩:=x;exact Heap.lt_size e
 |ins C dx fs=>obtain ⟨_,_,_,e,_⟩:=x;exact Heap.lt_size e
 |exc C dx fs fr=>obtain ⟨⟨_,e,_⟩,_⟩:=x;exact Heap.lt_size e
 |own y=>obtain ⟨_,e⟩:=x;exact Heap.lt_size e
 |xd fs=>obtain ⟨_,⟨_,_,_,e,_⟩,_⟩:=x;exact Heap.lt_size e
 |rng lo hi=>obtain ⟨_,_,_,e⟩:=x;exact Heap.lt_size e
 |frz ob u=>obtain ⟨e,_⟩:=x;exact Heap.lt_size e
 |tbl ps=>exact Heap.lt_size (show h.get? a=some _ from x)
 |met f y=>exact Heap.lt_size (show h.get? a=some _ from x)
 |ext φ=>obtain ⟨_,⟨_,e⟩,_⟩:=x;exact Heap.lt_size e
def Paired.Cz {α β:Type}{F G:α->β->Prop}:∀ {l₁:List α}{l₂:List β},Paired F l₁ l₂->(∀ a b,F a b->G a b)->Paired G l₁ l₂
 |_,_,.nil,_=>.nil
 |_,_,.cons r t,f=>.cons (f _ _ r) (Paired.Cz t f)
def ax.iM (x:ax P w H h a o)(k:∀ b u,(b=a\/H b=some (.own a))->h.get? b=some u->h'.get? b=some u)
  (ho:∀ b,H b=some (.own a)->H' b=some (.own a)) (ht:∀ b xs,H b=some (.tup xs)->H' b=some (.tup xs)):ax P w H' h' a o:=by
 induction o with
 |lst xs=>obtain ⟨z,its,n,r,e⟩:=x;exact ⟨z,its,n,r,k _ _ (.inl rfl) e⟩
 |tup xs=>obtain ⟨z,its,r,ob,e,c⟩:=x;exact ⟨z,its,r,ob,k _ _ (.inl rfl) e,c⟩
 |dK kvs=>obtain ⟨z,y,vs,r,ob,es,ep,e,c⟩:=x;exact ⟨z,y,vs,r,ob,es,ep,k _ _ (.inl rfl) e,c⟩
 |dT kvs=>
  obtain ⟨z,y,xs,r,ob,es,ep,e,c⟩:=x;exact ⟨z,y,xs,Paired.Cz r λp q z=>⟨z.1,ht _ _ z.2.1,z.2.2⟩,ob,es,ep,k _ _ (.inl rfl) e,c⟩
 |set S n=>obtain ⟨ob,es,ep,t,e,c⟩:=x;exact ⟨ob,es,ep,t,k _ _ (.inl rfl) e,c⟩
 |ins C dx fs=>
  obtain ⟨d,z,ne,e,mA,⟨od,es,ep,e2,c⟩,r⟩:=x;exact ⟨ho _ d,z,ne,k _ _ (.inl rfl) e,mA,⟨od,es,ep,k _ _ (.inr d) e2,c⟩,r⟩
 |exc C dx fs fr=>
  obtain ⟨⟨vs,e,z⟩,q⟩:=x;refine ⟨⟨vs,k _ _ (.inl rfl) e,z⟩,?_⟩;rcases q with q|⟨d,ed,d1,z1,ne,mA,⟨od,es,ep,e2,c⟩,r⟩
  ·exact .inl q
  ·exact .inr ⟨d,ed,ho _ d1,z1,ne,mA,⟨od,es,ep,k _ _ (.inr d1) e2,c⟩,r⟩
 |own y=>obtain ⟨ob,e⟩:=x;exact ⟨ob,k _ _ (.inl rfl) e⟩
 |xd fs=>obtain ⟨mA,⟨od,es,ep,e,c⟩,r⟩:=x;exact ⟨mA,⟨od,es,ep,k _ _ (.inl rfl) e,c⟩,r⟩
 |rng lo hi=>obtain ⟨t,u,v,e⟩:=x;exact ⟨t,u,v,k _ _ (.inl rfl) e⟩
 |frz ob u ih=>obtain ⟨e,q⟩:=x;exact ⟨k _ _ (.inl rfl) e,ih q⟩
 |tbl ps=>
  have e:h.get? a=some { cls:=.none,data:=.fields ps }:=x;show h'.get? a=some { cls:=.none,data:=.fields ps };exact k a _ (.inl rfl) e
 |met f y=>
  have e:h.get? a=some (W.methodObj (.ref f) (.ref y)):=x;show h'.get? a=some (W.methodObj (.ref f) (.ref y));exact k a _ (.inl rfl) e
 |ext φ=>obtain ⟨p,⟨o,e⟩,st⟩:=x;exact ⟨st _ _ p λo q=>k _ _ (.inl rfl) q,⟨o,k _ _ (.inl rfl) e⟩,st⟩
def fv.lt (x:fv P w H h)(e:H a=some o):a<h.objs.size:=(x a o e).lt
def fv.fresh (x:fv P w H h)(e:h.objs.size<=a):H a=none:=by
 cases q:H a with
 |none=>rfl
 |some u=>exact absurd (Nat.lt_of_lt_of_le (x.lt q) e) (Nat.lt_irrefl _)
def fv.kept (x:fv P w H h)(k:∀ b u,h.get? b=some u->h'.get? b=some u):fv P w H h':=λa o e=>
 (x a o e).iM (λb u _ q=>k b u q) (λ_ q=>q) λ_ _ q=>q
def fv.laid (x:fv P w H h)(k:∀ b u,h.get? b=some u->h'.get? b=some u) (hp:h.objs.size<=a) (new:ax P w (upd H a o) h' a o):fv P w (upd H a o) h':=λb u e=>by
 have hn:=x.fresh hp
 by_cases hb:b=a
 ·subst hb;rw[aq] at e;cases e;exact new
 ·rw[af hb] at e;exact (x b u e).iM (λc v _ q=>k c v q) (λc q=>by rw[af (aC q hn)];exact q) λc xs q=>by rw[af (aC q hn)];exact q
end
abbrev Rd (H:Hp)(a:Addr)(u:HO):Prop:=H a=some u\/∃ o,H a=some (.frz o u)
variable {P:Program}{w:World}{h:Heap}
def Rd.ok {u:HO}(r:Rd H a u)(x:fv P w H h):ax P w H h a u:=by
 rcases r with r|⟨o,r⟩
 ·exact x a u r
 ·obtain ⟨_,q⟩:=x a _ r;exact q
abbrev Fh:Option HO->Prop
 |some (.lst _)=>True
 |some (.dK _)=>True
 |some (.dT _)=>True
 |some (.set _ _)=>True
 |some (.ins _ _ _)=>True
 |some (.exc _ _ _ _)=>True
 |some (.ext _)=>True
 |_=>False
section
variable {P:Program}{w:World}{H:Hp}{h h':Heap}{x e:Addr}{o':HO}
def fv.write (ok:fv P w H h)(mu:Fh (H x))(he:e=x\/H e=some (.own x))(k:∀ b u,b≠e->h.get? b=some u->h'.get? b=some u) (heo:∃ u,h'.get? e=some u)
  (new:ax P w (upd H x o') h' x o'):fv P w (upd H x o') h':=λb u q=>by
 have nown:∀ c y,H c=some (.own y)->c≠x:=λc y r z=>by subst z;rw[r] at mu;exact mu
 have ntup:∀ c xs,H c=some (.tup xs)->c≠x:=λc xs r z=>by subst z;rw[r] at mu;exact mu
 by_cases hb:b=x
 ·subst hb;rw[aq] at q;cases q;exact new
 ·rw[af hb] at q
  by_cases hbe:b=e
  ·have q':H b=some (.own x):=by
    rcases he with z|z
    ·exact absurd (hbe.trans z) hb
    ·rw[hbe];exact z
   rw[q] at q';cases q';obtain ⟨v,hv⟩:=heo;exact ⟨v,by rw[hbe];exact hv⟩
  ·refine (ok b u q).iM (λc v hc r=>k c v ?_ r) (λc r=>by rw[af (nown c b r)];exact r) λc xs r=>by rw[af (ntup c xs r)];exact r
   rcases hc with rfl|hc
   ·exact hbe
   ·rintro rfl;rcases he with z|z
    ·exact nown c b hc z
    ·rw[hc] at z;cases z;exact hb rfl
end
structure Un (fs ex:List Addr) (H H':Hp) (h h':Heap):Prop where
 keep:∀ b o,h.get? b=some o->H b=none->b ∉ fs->b ∉ ex->h'.get? b=some o
 slot:∀ b o,h.get? b=some o->H b=none->b ∈ fs->b ∉ ex->∃ sl,h'.get? b=some { o with slots:=sl }
 free:∀ b o,h.get? b=some o->H b=none->b ∉ ex->H' b=none
 there:∀ b o,h.get? b=some o->b ∉ ex->∃ o',h'.get? b=some o'
 tups:∀ b xs,H b=some (.tup xs)->H' b=some (.tup xs)
 frzs:∀ b o u,H b=some (.frz o u)->H' b=some (.frz o u)
 tbls:∀ b ps,H b=some (.tbl ps)->∃ more,H' b=some (.tbl (ps++more))
section
variable {fs fs' ex ex':List Addr}{H H1 H2:Hp}{h h1 h2 h':Heap}{a x e:Addr}{o:HO}
def Un.any (u:Un fs ex H H1 h h1){ob:Obj}(q:h.get? b=some ob)(n:H b=none)(hx:b ∉ ex):∃ sl,h1.get? b=some { ob with slots:=sl }:=by
 by_cases hb:b ∈ fs
 ·exact u.slot b ob q n hb hx
 ·exact ⟨ob.slots,u.keep b ob q n hb hx⟩
def Un.kept (k:∀ b u,h.get? b=some u->h'.get? b=some u):Un fs ex H H h h':=
 ⟨λb ob q _ _ _=>k b ob q,λb ob q _ _ _=>⟨ob.slots,k b ob q⟩,λ_ _ _ n _=>n,λb ob q _=>⟨ob,k b ob q⟩,λ_ _ q=>q,λ_ _ _ q=>q,λ_ ps q=>⟨#[],by rw[q];simp⟩⟩
def Un.refl:Un fs ex H H h h:=Un.kept λ_ _ q=>q
def Un.laid (k:∀ b u,h.get? b=some u->h'.get? b=some u) (hp:h.objs.size<=a) (hn:H a=none):Un fs ex H (upd H a o) h h' where
 keep:=λb u q _ _ _=>k b u q
 slot:=λb u q _ _ _=>⟨u.slots,k b u q⟩
 free:=λb u q n _=>by rw[af (Nat.ne_of_lt (Nat.lt_of_lt_of_le (Heap.lt_size q) hp))];exact n
 there:=λb u q _=>⟨u,k b u q⟩
 tups:=λb xs q=>by rw[af (aC q hn)];exact q
 frzs:=λb u xs q=>by rw[af (aC q hn)];exact q
 tbls:=λb ps q=>⟨#[],by rw[af (aC q hn),q];simp⟩
def Un.write (mu:Fh (H x))(he:e=x\/H e=some (.own x))(k:∀ b u,b≠e->h.get? b=some u->h'.get? b=some u) (heo:∃ u,h'.get? e=some u):Un fs ex H (upd H x o) h h':=by
 have hx:∀ b,H b=none->b≠x:=λb n z=>by subst z;rw[n] at mu;exact mu
 have hb:∀ b,H b=none->b≠e:=λb n z=>by
  subst z;rcases he with r|r
  ·exact hx b n r
  ·rw[n] at r;cases r
 have hm:∀ b u,H b=some u->¬ Fh (some u)->b≠x:=λb u q nm z=>by subst z;rw[q] at mu;exact nm mu
 refine ⟨λb u q n _ _=>k b u (hb b n) q,λb u q n _ _=>⟨u.slots,k b u (hb b n) q⟩,λb u q n _=>by rw[af (hx b n)];exact n,λb u q _=>?_,
  λb xs q=>by rw[af (hm b _ q λz=>z)];exact q,λb u xs q=>by rw[af (hm b _ q λz=>z)];exact q,λb ps q=>⟨#[],by rw[af (hm b _ q λz=>z),q];simp⟩⟩
 by_cases hbe:b=e
 ·subst hbe;exact heo
 ·exact ⟨u,k b u hbe q⟩
end
abbrev BU (h:Heap)(H:Hp):List Addr:=(List.range h.objs.size).filter λa=>(H a).isSome
abbrev lN (h:Heap)(H:Hp):Heap:=W.hideAll h (BU h H)
def sM (h:Heap)(H:Hp):(lN h H).objs.size=h.objs.size:=W.hideAll_size _ _
def ya {o:Obj}(e:h.get? b=some o)(n:H b=none):(lN h H).get? b=some o:=
 W.hideAll_get _ e λhm=>by
  have q:(H b).isSome=true:=(List.mem_filter.mp hm).2;rw[n] at q;simp at q
def yx {o:Obj}(e:(lN h H).get? b=some o):h.get? b=some o/\H b=none:=by
 have e':h.get? b=some o:=W.of_hideAll (BU h H) e;refine ⟨e',?_⟩;cases q:H b with
 |none=>rfl
 |some x=>
  have hm:b ∈ BU h H:=List.mem_filter.mpr ⟨mem_range.mpr (Heap.lt_size e'),by simp[q]⟩;have z:(lN h H).get? b=none:=W.hideAll_none (BU h H) hm;rw[z] at e;cases e
structure Mod (K:W.Frag) (mg:JT) (base:Heap):Prop where
 kin:K.In base
 glob:base.Ns mainGlobals mg
 blt:∃ mb,base.Ns builtinsNs mb/\∀ x:Str,x≠"__name__"->mb x=bootBuiltins x
 nolimit:base.NoLimit
/-- the context:a def's body (or a comprehension's block) running. base:fixed through the whole law;s₀,H₀:the entry;outer:the frames whose slots others may change (a def's callers);stack:all frames that run;
  ex:iterators that were made ahead of the entry and are walked here (a comprehension's);fn:the names whose cells were made at the entry (a def:all;a comprehension's block:its own);calm:not within an except bh;pn:Y that every state bears;xe:what is wanted of an exception that leaves the code -/
structure Cx where
 prog:Program
 w:World
 K:W.Frag
 mg:Str->Option Value
 base:Heap
 A:Around
 N:List Str
 s₀:Shared
 H₀:Hp
 env:Env
 outer:List Env
 stack:List Env
 ex:List Addr
 fn:Str->Bool
 calm:Bool
 pn:List (Addr×Obj)
 xe:Value->Shared->Prop
abbrev k9 (l:List Env):List Addr:=l.filterMap (·.frame)
noncomputable abbrev Cx.fs (X:Cx):List Addr:=k9 X.outer
abbrev Hc (sc:Scope)(x:Str):Prop:=sc.names.lookup x=some .local\/sc.names.lookup x=some .cell\/sc.names.lookup x=some .free
abbrev Loc (sc:Scope)(x:Str):Prop:=sc.names.lookup x=some .local\/sc.names.lookup x=some .cell
abbrev Look (env:Env)(h:Heap)(m:JT)(x:Str)(u:Value):Prop:=
 (env.kindOf x=some .local/\m x=some u)\/((env.kindOf x=some .cell\/env.kindOf x=some .free)/\∃ c,env.cells.lookup x=some c/\h.IsCell c (some u))
structure Cx.Ok (X:Cx):Prop where
 mod:Mod X.K X.mg X.base
 kind:X.env.scope.kind=.function
 glob:X.env.globals=mainGlobals
 blt:X.env.builtins=builtinsNs
 above:X.s₀.heap.objs.size<=X.env.locals
 inj:∀ x y c,X.env.cells.lookup x=some c->X.env.cells.lookup y=some c->x=y
 has:∀ x,(X.env.kindOf x=some .cell\/X.env.kindOf x=some .free)->∃ c,X.env.cells.lookup x=some c
 cab:∀ x c,X.fn x=true->X.env.cells.lookup x=some c->X.s₀.heap.objs.size<=c
 hd:X.calm=true->X.A.handled=none
 frames:X.A.frames=some X.stack
 stk:X.stack=X.outer\/(X.stack=X.env::X.outer/\X.env.frame=some X.env.locals)
 exf:∀ b ∈ X.ex,b≠X.env.locals/\∀ x c,X.env.cells.lookup x=some c->c≠b
 bs:∀ b o,X.base.get? b=some o->X.s₀.heap.get? b=some o/\X.H₀ b=none
 bsz:X.base.objs.size<=X.s₀.heap.objs.size
 noex:∀ b o,X.base.get? b=some o->b ∉ X.ex
 exfs:∀ b ∈ X.ex,b ∉ X.fs
 iB:X.s₀.heap.FunFrames X.base X.outer
 frf:∀ b ∈ X.fs,X.H₀ b=none
structure Inv (X:Cx) (Y:JS) (U:List (Option V)) (H:Hp) (s:Shared):Prop where
 ok:X.Ok
 os:s.os=X.s₀.os
 bare:AllBare s.gens
 base:Un X.fs X.ex X.H₀ H X.s₀.heap s.heap
 loc:∃ m,s.heap.Ns X.env.locals m/\∀ (i:Nat) (x:Str) (v:V),X.N[i]? =some x->U[i]? =some (some v)->Hc X.env.scope x->∃ u,RelV v u/\Look X.env s.heap m x u
 cell:∀ x c,X.env.cells.lookup x=some c->∃ v,s.heap.IsCell c v
 free:H X.env.locals=none
 freeC:∀ x c,X.env.cells.lookup x=some c->H c=none
 pin:∀ p ∈ X.pn++Y,s.heap.get? p.1=some p.2/\H p.1=none/\p.1≠X.env.locals/\p.1 ∉ X.fs/\∀ v,p.2.data≠.cell v
 hok:fv X.prog X.w H s.heap
 len:U.length=X.N.length
variable {x:Str}{g':Array GenState}{ch:List Addr}{i:Nat}{M:Model}{A:Around}{E:JR}{v:V}
section
variable {X:Cx}{Y:JS}{U:List (Option V)}{H H':Hp}{s:Shared}{h':Heap}
def Cx.Ok.Io (ok:X.Ok){o:Obj}(e:X.base.get? b=some o):b ∉ X.fs:=λhb=>by
 have:=(ok.iB.mem hb).1;rw[e] at this;cases this
def Inv.bs (I:Inv X Y U H s):∀ b o,X.base.get? b=some o->s.heap.get? b=some o/\H b=none:=λb o e=>
 ⟨I.base.keep b o (I.ok.bs b o e).1 (I.ok.bs b o e).2 (I.ok.Io e) (I.ok.noex b o e),I.base.free b o (I.ok.bs b o e).1 (I.ok.bs b o e).2 (I.ok.noex b o e)⟩
def Inv.bk (I:Inv X Y U H s):∀ b o,X.base.get? b=some o->s.heap.get? b=some o:=λb o e=>(I.bs b o e).1
def Inv.mod (I:Inv X Y U H s):Mod X.K X.mg X.base:=I.ok.mod
def Inv.bG (I:Inv X Y U H s):X.K.In s.heap:=I.ok.mod.kin.keeps I.bk
def Inv.lt (I:Inv X Y U H s):X.env.locals<s.heap.objs.size:=let ⟨_,hn,_⟩:=I.loc;hn.lt
def Inv.sz (I:Inv X Y U H s):X.s₀.heap.objs.size<=s.heap.objs.size:=Nat.le_trans I.ok.above (Nat.le_of_lt I.lt)
def Inv.Ip (I:Inv X Y U H s)(h:s.heap.objs.size<=a):a ∉ X.fs:=λhb=>by
 obtain ⟨_,o,ho,_⟩:=I.ok.iB.mem hb;exact absurd (Nat.lt_of_lt_of_le (Heap.lt_size ho) (Nat.le_trans I.sz h)) (Nat.lt_irrefl _)
def Inv.wu (I:Inv X Y U H s):∀ x c,X.env.cells.lookup x=some c->c≠X.env.locals:=λx c e z=>by
 obtain ⟨v,o,ho,hd⟩:=I.cell x c e;obtain ⟨m,⟨o',es,ep,ho',hd',_⟩,_⟩:=I.loc;rw[z,ho'] at ho;cases ho;rw[hd'] at hd;cases hd
def Inv.iB (I:Inv X Y U H s):s.heap.FunFrames X.base X.outer:=by
 have all:∀ (l:List Env),(∀ b ∈ k9 l,b ∈ X.fs)->X.s₀.heap.FunFrames X.base l->s.heap.FunFrames X.base l:=by
  intro l
  induction l with
  |nil=>intro _ _;trivial
  |cons env r ih=>
   intro hs hl;obtain ⟨hk,⟨L,o,hf,hn,ho,hd⟩,hr⟩:=hl;have hL:L ∈ X.fs:=hs L (by unfold k9;rw[filterMap_cons,hf];exact mem_cons_self);obtain ⟨sl,e⟩:=I.base.slot L o ho (I.ok.frf L hL) hL λz=>I.ok.exfs L z hL
   exact ⟨hk,⟨L,_,hf,hn,e,hd⟩,ih (λb hb=>hs b (by unfold k9;rw[filterMap_cons,hf];exact mem_cons_of_mem _ hb)) hr⟩
 exact all X.outer (λ_ hb=>hb) I.ok.iB
def Inv.stack (I:Inv X Y U H s):s.heap.FunFrames X.base X.stack:=by
 rcases I.ok.stk with e|⟨e,hf⟩
 ·rw[e];exact I.iB
 ·rw[e];obtain ⟨m,hn,_⟩:=I.loc;refine .cons (by rw[I.ok.kind];decide) hf hn ?_ I.iB;exact Heap.get?_none_of_le (Nat.le_trans I.ok.bsz I.ok.above)
def Inv.gK (I:Inv X Y U H s):∀ b ∈ k9 X.stack,b ∈ X.env.locals::X.fs:=λb hb=>by
 rcases I.ok.stk with e|⟨e,hf⟩
 ·rw[e] at hb;exact mem_cons_of_mem _ hb
 ·rw[e] at hb;unfold k9 at hb;rw[filterMap_cons,hf] at hb;exact hb
def Inv.lY (I:Inv X Y U H s):∀ b ∈ k9 X.stack,H b=none:=λb hb=>by
 rcases mem_cons.mp (I.gK b hb) with e|hb
 ·rw[e];exact I.free
 ·obtain ⟨_,o,ho,_⟩:=I.ok.iB.mem hb;exact I.base.free b o ho (I.ok.frf b hb) λz=>I.ok.exfs b z hb
def Inv.step {t':Nat}{d':Drawn}(I:Inv X Y U H s)
  (hch:∀ b ∈ ch,(b ∈ X.ex\/X.s₀.heap.objs.size<=b)/\b≠X.env.locals/\(∀ x c,X.env.cells.lookup x=some c->c≠b)/\∀ p ∈ X.pn++Y,p.1≠b)
  (keep:∀ b o,b≠X.env.locals->b ∉ X.fs->b ∉ ch->s.heap.get? b=some o->H b=none->h'.get? b=some o)
  (slot:∀ b o,b≠X.env.locals->b ∈ X.fs->b ∉ ch->s.heap.get? b=some o->H b=none->∃ sl,h'.get? b=some { o with slots:=sl }) (free:∀ b o,b ∉ ch->s.heap.get? b=some o->H b=none->H' b=none)
  (there:∀ b o,b ∉ ch->s.heap.get? b=some o->∃ o',h'.get? b=some o')
  (tups:∀ b xs,H b=some (.tup xs)->H' b=some (.tup xs)) (frzs:∀ b o u,H b=some (.frz o u)->H' b=some (.frz o u)) (tbls:∀ b ps,H b=some (.tbl ps)->∃ more,H' b=some (.tbl (ps++more)))
  (ns:∀ m,s.heap.Ns X.env.locals m->h'.Ns X.env.locals m) (hok:fv X.prog X.w H' h') (hg:AllBare g'):
  Inv X Y U H' { s with heap:=h',gens:=g',drawn:=d',toks:=t' }:=by
 have neL:∀ b o,X.s₀.heap.get? b=some o->b≠X.env.locals:=λb o e=>Nat.ne_of_lt (Nat.lt_of_lt_of_le (Heap.lt_size e) I.ok.above)
 have neC:∀ b o,X.s₀.heap.get? b=some o->b ∉ X.ex->b ∉ ch:=λb o e hx hb=>by
  rcases (hch b hb).1 with z|z
  ·exact hx z
  ·exact absurd (Nat.lt_of_lt_of_le (Heap.lt_size e) z) (Nat.lt_irrefl _)
 have cellK:∀ x c,X.env.cells.lookup x=some c->∀ v,s.heap.IsCell c v->h'.IsCell c v:=λx c e v ⟨o,ho,hd⟩=>by
  have nch:c ∉ ch:=λz=>(hch c z).2.2.1 x c e rfl
  by_cases hc:c ∈ X.fs
  ·obtain ⟨sl,q⟩:=slot c o (I.wu x c e) hc nch ho (I.freeC x c e);exact ⟨_,q,hd⟩
  ·exact ⟨o,keep c o (I.wu x c e) hc nch ho (I.freeC x c e),hd⟩
 refine ⟨I.ok,I.os,hg,⟨λb o e n hb hx=>?_,λb o e n hb hx=>?_,λb o e n hx=>?_,λb o e hx=>?_,λb xs e=>tups b xs (I.base.tups b xs e),λb o xs e=>frzs b o xs (I.base.frzs b o xs e),λb ps e=>?_⟩,?_,λx c e=>?_,?_,λx c e=>?_,λp hp=>?_,hok,I.len⟩
 ·exact keep b o (neL b o e) hb (neC b o e hx) (I.base.keep b o e n hb hx) (I.base.free b o e n hx)
 ·obtain ⟨sl,e1⟩:=I.base.slot b o e n hb hx;obtain ⟨sl',e2⟩:=slot b _ (neL b o e) hb (neC b o e hx) e1 (I.base.free b o e n hx);exact ⟨sl',e2⟩
 ·obtain ⟨o',e1⟩:=I.base.there b o e hx;exact free b o' (neC b o e hx) e1 (I.base.free b o e n hx)
 ·obtain ⟨o',e1⟩:=I.base.there b o e hx;exact there b o' (neC b o e hx) e1
 ·obtain ⟨m1,e1⟩:=I.base.tbls b ps e;obtain ⟨m2,e2⟩:=tbls b _ e1;exact ⟨m1++m2,by rw[e2,Array.append_assoc]⟩
 ·obtain ⟨m,hn,hl⟩:=I.loc;refine ⟨m,ns m hn,λi x v e1 e2 e3=>?_⟩;obtain ⟨u,r,l⟩:=hl i x v e1 e2 e3;refine ⟨u,r,?_⟩;rcases l with l|⟨k,c,e,z⟩
  ·exact .inl l
  ·exact .inr ⟨k,c,e,cellK x c e _ z⟩
 ·obtain ⟨v,z⟩:=I.cell x c e;exact ⟨v,cellK x c e v z⟩
 ·obtain ⟨m,⟨o,_,_,ho,_⟩,_⟩:=I.loc;exact free _ o (λz=>(hch _ z).2.1 rfl) ho I.free
 ·obtain ⟨v,o,ho,hd⟩:=I.cell x c e;exact free c o (λz=>(hch c z).2.2.1 x c e rfl) ho (I.freeC x c e)
 ·obtain ⟨e,n,ne,nf,d⟩:=I.pin p hp;have nch:p.1 ∉ ch:=λz=>(hch p.1 z).2.2.2 p hp rfl
  exact ⟨keep p.1 p.2 ne nf nch e n,free p.1 p.2 nch e n,ne,nf,d⟩
def Inv.un {t':Nat}(I:Inv X Y U H s)(u:Un X.fs [] H H' s.heap h')(hok:fv X.prog X.w H' h'):Inv X Y U H' { s with heap:=h',toks:=t' }:=by
 obtain ⟨m,⟨o,es,ep,ho,r⟩,_⟩:=id I.loc;obtain ⟨sl,hL⟩:=u.any ho I.free (by simp);exact I.step (g':=s.gens) (d':=s.drawn) (ch:=[]) (λ_ z=>nomatch z) (λb o _ hb _ e n=>u.keep b o e n hb (by simp)) (λb o _ hb _ e n=>u.slot b o e n hb (by simp)) (λb o _ e n=>u.free b o e n (by simp)) (λb o _ e=>u.there b o e (by simp)) u.tups u.frzs u.tbls (λm' hm=>by
  obtain ⟨o',es',ep',ho',r'⟩:=hm;rw[ho] at ho';cases ho';exact ⟨_,es',ep',hL,r'⟩) hok I.bare
def Inv.call {t':Nat}{d':Drawn}(I:Inv X Y U H s)(u:Un (k9 X.stack) ch H H' s.heap h')(hok:fv X.prog X.w H' h')(hg:AllBare g')
  (hch:∀ b ∈ ch,(b ∈ X.ex\/X.s₀.heap.objs.size<=b)/\b≠X.env.locals/\(∀ x c,X.env.cells.lookup x=some c->c≠b)/\∀ p ∈ X.pn++Y,p.1≠b):
  Inv X Y U H' { s with heap:=h',gens:=g',drawn:=d',toks:=t' }:=by
 obtain ⟨m,⟨o,es,ep,ho,r⟩,_⟩:=id I.loc;obtain ⟨sl,hL⟩:=u.any ho I.free λz=>(hch _ z).2.1 rfl
 exact I.step (ch:=ch) hch (λb o hL hb hc e n=>u.keep b o e n (λz=>(mem_cons.mp (I.gK b z)).elim hL hb) hc) (λb o _ _ hc e n=>u.any e n hc) (λb o hc e n=>u.free b o e n hc) (λb o hc e=>u.there b o e hc) u.tups u.frzs u.tbls (λm' hm=>by
  obtain ⟨o',es',ep',ho',r'⟩:=hm;rw[ho] at ho';cases ho';exact ⟨_,es',ep',hL,r'⟩) hok hg
def Inv.turned {t':Nat}{it:Addr}(I:Inv X Y U H s)(k:∀ b o,b≠it->s.heap.get? b=some o->h'.get? b=some o) (hn:H it=none) (hL:it≠X.env.locals)
  (h1:it ∈ X.ex\/X.s₀.heap.objs.size<=it) (h2:∀ x c,X.env.cells.lookup x=some c->c≠it) (h3:∀ p ∈ X.pn++Y,p.1≠it):Inv X Y U H { s with heap:=h',toks:=t' }:=by
 have nit:∀ b u,H b=some u->b≠it:=λb u e z=>by rw[z,hn] at e;cases e
 refine I.step (g':=s.gens) (d':=s.drawn) (ch:=[it]) (λb hb=>?_) (λb o _ _ hc e _=>k b o (λz=>hc (by simp[z])) e) (λb o _ _ hc e _=>⟨o.slots,k b o (λz=>hc (by simp[z])) e⟩) (λ_ _ _ _ n=>n)
  (λb o hc e=>⟨o,k b o (λz=>hc (by simp[z])) e⟩) (λ_ _ e=>e) (λ_ _ _ e=>e) (λb ps e=>⟨#[],by rw[e];simp⟩) (λm hm=>?_) (λb u e=>?_) I.bare
 ·have e:b=it:=by simpa using hb
  subst e;exact ⟨h1,hL,h2,h3⟩
 ·obtain ⟨o,es,ep,ho,r⟩:=hm;exact ⟨o,es,ep,k _ o (Ne.symm hL) ho,r⟩
 ·refine (I.hok b u e).iM (λc v hc q=>k c v ?_ q) (λ_ q=>q) λ_ _ q=>q
  rcases hc with z|z
  ·rw[z];exact nit b u e
  ·exact nit c _ z
def Inv.tok (I:Inv X Y U H s)(t:Nat):Inv X Y U H { s with toks:=t }:=I.un (h':=s.heap) (t':=t) Un.refl I.hok
def Inv.kept {t':Nat}(I:Inv X Y U H s)(k:∀ b u,s.heap.get? b=some u->h'.get? b=some u):Inv X Y U H { s with heap:=h',toks:=t' }:=I.un (Un.kept k) (I.hok.kept k)
def Inv.laid {t':Nat}(I:Inv X Y U H s)(k:∀ b u,s.heap.get? b=some u->h'.get? b=some u) (hp:s.heap.objs.size<=a) (new:ax X.prog X.w (upd H a o) h' a o):
  Inv X Y U (upd H a o) { s with heap:=h',toks:=t' }:=I.un (Un.laid k hp (I.hok.fresh hp)) (I.hok.laid k hp new)
def Inv.write {x e:Addr}{t':Nat}(I:Inv X Y U H s)(mu:Fh (H x))(he:e=x\/H e=some (.own x))(k:∀ b u,b≠e->s.heap.get? b=some u->h'.get? b=some u) (heo:∃ u,h'.get? e=some u)
  (new:ax X.prog X.w (upd H x o) h' x o):Inv X Y U (upd H x o) { s with heap:=h',toks:=t' }:=I.un (Un.write mu he k heo) (I.hok.write mu he k heo new)
def Inv.lF {pins':JS}(I:Inv X Y U H s)(h:∀ p ∈ pins',s.heap.get? p.1=some p.2/\H p.1=none/\p.1≠X.env.locals/\p.1 ∉ X.fs/\∀ v,p.2.data≠.cell v):Inv X pins' U H s:=
 ⟨I.ok,I.os,I.bare,I.base,I.loc,I.cell,I.free,I.freeC,λp hp=>(List.mem_append.mp hp).elim (λz=>I.pin p (mem_append_left _ z)) (h p),I.hok,I.len⟩
def jG {N:List Str}(hN:N.Nodup){j:Nat}(a:N[i]? =some x)(b:N[j]? =some x):i=j:=by
 obtain ⟨h1,e1⟩:=List.getElem?_eq_some_iff.mp a;obtain ⟨h2,e2⟩:=List.getElem?_eq_some_iff.mp b;exact (List.getElem_inj hN).mp (e1.trans e2.symm)
variable {Q:JQ}
def kq (I:Inv X Y U H s)(hN:X.N.Nodup)(hi:X.N[i]? =some x)(hx:Loc X.env.scope x)(r:RelV v u)
  (h:∀ s',Inv X Y (U.set i (some v)) H s'->(∃ a,Heap.SameBut a s.heap s'.heap/\(a=X.env.locals\/X.env.cells.lookup x=some a))->Q () s') (hf:X.fn x=true\/X.env.scope.names.lookup x=some .local:=by first|exact .inl rfl|exact .inr rfl|assumption):wpAny M A (storeName X.env x u) Q E s:=by
 obtain ⟨m,hn,hl⟩:=id I.loc;have hcls:(X.env.scope.kind ==.class||(X.env.scope.kind ==.module&&X.env.locals != X.env.globals))=false:=by rw[I.ok.kind];rfl
 have hiσ:i<U.length:=by rw[I.len];exact (List.getElem?_eq_some_iff.mp hi).1
 have wu:=I.wu;have tracked:∀ {a:Addr}{h':Heap},(∃ o,s.heap.get? a=some o/\H a=none)->Heap.SameBut a s.heap h'->fv X.prog X.w H h':=λ{a h'} ha hs b ob e=>by
  obtain ⟨_,_,hfree⟩:=ha;refine (I.hok b ob e).iM (λc w' hc q=>(hs.2 c ?_).trans q) (λ_ q=>q) λ_ _ q=>q
  rintro rfl;rcases hc with rfl|hc
  ·rw[hfree] at e;cases e
  ·rw[hfree] at hc;cases hc
 rcases hx with hk|hk
 ·refine wpAny_storeName_local hk hn (λh' hn' hs=>?_) hcls;obtain ⟨oL,_,_,hoL,_⟩:=id hn;refine h _ ⟨I.ok,I.os,I.bare,⟨λb o e n hb hx=>?_,λb o e n hb hx=>?_,I.base.free,λb o e hx=>?_,I.base.tups,I.base.frzs,I.base.tbls⟩,⟨_,hn',λj y v' e1 e2 e3=>?_⟩,λy c e=>?_,I.free,I.freeC,λp hp=>?_,tracked ⟨oL,hoL,I.free⟩ hs,by simpa using I.len⟩ ⟨_,hs,.inl rfl⟩
  ·exact (hs.2 b (Nat.ne_of_lt (Nat.lt_of_lt_of_le (Heap.lt_size e) I.ok.above))).trans (I.base.keep b o e n hb hx)
  ·obtain ⟨sl,e1⟩:=I.base.slot b o e n hb hx;exact ⟨sl,(hs.2 b (Nat.ne_of_lt (Nat.lt_of_lt_of_le (Heap.lt_size e) I.ok.above))).trans e1⟩
  ·obtain ⟨o',e1⟩:=I.base.there b o e hx;exact ⟨o',(hs.2 b (Nat.ne_of_lt (Nat.lt_of_lt_of_le (Heap.lt_size e) I.ok.above))).trans e1⟩
  ·by_cases hj:j=i
   ·subst hj;rw[hi] at e1;cases e1;rw[getElem?_set_self hiσ] at e2;cases e2;exact ⟨u,r,.inl ⟨hk,by simp⟩⟩
   ·rw[getElem?_set_ne (Ne.symm hj)] at e2;obtain ⟨u',r',q⟩:=hl j y v' e1 e2 e3;refine ⟨u',r',?_⟩;rcases q with ⟨k,e⟩|⟨k,c,e,z⟩
    ·refine .inl ⟨k,?_⟩;have:y≠x:=λe=>hj (jG hN e1 (e▸hi))
     simp[this,e]
    ·exact .inr ⟨k,c,e,z.sameBut hs (wu y c e)⟩
  ·obtain ⟨w',z⟩:=I.cell y c e;exact ⟨w',z.sameBut hs (wu y c e)⟩
  ·obtain ⟨e,n,ne,nf,d⟩:=I.pin p hp;exact ⟨(hs.2 p.1 ne).trans e,n,ne,nf,d⟩
 ·have hfn:X.fn x=true:=by
   rcases hf with z|z
   ·exact z
   ·rw[z] at hk;cases hk
  obtain ⟨c,hc⟩:=I.ok.has x (.inl hk);obtain ⟨w',z⟩:=I.cell x c hc;refine wpAny_storeName_cell I.ok.kind hk hc z (λh' hc' hs=>?_);obtain ⟨oc,hoc,hocd⟩:=id z;refine h { s with heap:=h' } ⟨I.ok,I.os,I.bare,⟨λb o e n hb hx=>?_,λb o e n hb hx=>?_,I.base.free,λb o e hx=>?_,I.base.tups,I.base.frzs,I.base.tbls⟩,⟨m,hn.sameBut hs (Ne.symm (wu x c hc)),λj y v' e1 e2 e3=>?_⟩,λy c' e=>?_,I.free,I.freeC,λp hp=>?_,tracked ⟨oc,hoc,I.freeC x c hc⟩ hs,by simpa using I.len⟩ ⟨c,hs,.inr hc⟩
  ·exact (hs.2 b (Nat.ne_of_lt (Nat.lt_of_lt_of_le (Heap.lt_size e) (I.ok.cab x c hfn hc)))).trans (I.base.keep b o e n hb hx)
  ·obtain ⟨sl,e1⟩:=I.base.slot b o e n hb hx;exact ⟨sl,(hs.2 b (Nat.ne_of_lt (Nat.lt_of_lt_of_le (Heap.lt_size e) (I.ok.cab x c hfn hc)))).trans e1⟩
  ·obtain ⟨o',e1⟩:=I.base.there b o e hx;exact ⟨o',(hs.2 b (Nat.ne_of_lt (Nat.lt_of_lt_of_le (Heap.lt_size e) (I.ok.cab x c hfn hc)))).trans e1⟩
  ·by_cases hj:j=i
   ·subst hj;rw[hi] at e1;cases e1;rw[getElem?_set_self hiσ] at e2;cases e2;exact ⟨u,r,.inr ⟨.inl hk,c,hc,hc'⟩⟩
   ·rw[getElem?_set_ne (Ne.symm hj)] at e2;obtain ⟨u',r',q⟩:=hl j y v' e1 e2 e3;refine ⟨u',r',?_⟩;rcases q with q|⟨k,c',e,z'⟩
    ·exact .inl q
    ·refine .inr ⟨k,c',e,z'.sameBut hs ?_⟩;rintro rfl;exact hj (jG hN e1 (I.ok.inj _ _ _ e hc▸hi))
  ·by_cases hcc:c'=c
   ·subst hcc;exact ⟨_,hc'⟩
   ·obtain ⟨w2,z2⟩:=I.cell y c' e;exact ⟨w2,z2.sameBut hs hcc⟩
  ·obtain ⟨e,n,ne,nf,d⟩:=I.pin p hp;refine ⟨(hs.2 p.1 ?_).trans e,n,ne,nf,d⟩;intro q;rw[q,hoc] at e;have q':oc=p.2:=Option.some.inj e;exact d w' (by rw[<-q'];exact hocd)
def gr (I:Inv X Y U H s)(hN:X.N.Nodup)(hi:X.N[i]? =some x)(hx:Loc X.env.scope x)(r:RelV v u)
  (h:∀ s',Inv X Y (U.set i (some v)) H s'->Q () s') (hf:X.fn x=true\/X.env.scope.names.lookup x=some .local:=by first|exact .inl rfl|exact .inr rfl|assumption):wpAny M A (storeName X.env x u) Q E s:=
 kq I hN hi hx r (λs' I' _=>h s' I') hf
def Inv.vV {s':Shared}(I:Inv X Y U H s)(ho:s'.os=s.os)(u:Un (k9 X.stack) ch H H' s.heap s'.heap)(hok:fv X.prog X.w H' s'.heap)(hg:AllBare s'.gens)
  (hch:∀ b ∈ ch,(b ∈ X.ex\/X.s₀.heap.objs.size<=b)/\b≠X.env.locals/\(∀ x c,X.env.cells.lookup x=some c->c≠b)/\∀ p ∈ X.pn++Y,p.1≠b):Inv X Y U H' s':=by
 obtain ⟨h',g',d',t',o'⟩:=s';have e:o'=s.os:=ho;subst e;exact I.call (g':=g') (t':=t') (d':=d') u hok hg hch
end
@[reducible]def XK:=Addr->Hp->Prop
@[reducible]def St:=List (Option V)
@[reducible]def VK:=V->Hp->Prop
@[reducible]def TE:=St->Hp->VK->Prop
@[reducible]def TT:=St->Hp->(Bool->Hp->Prop)->Prop
@[reducible]def TA:=St->Hp->(List V->Hp->Prop)->Prop
structure Ends where
 nx:St->Hp->Prop
 rt:VK
 bk:St->Hp->Prop:=λ_ _=>False
 ct:St->Hp->Prop:=λ_ _=>False
@[reducible]def TS:=Ends->St->Hp->Prop
abbrev EP (X:Cx)(Y:JS)(U:St)(Q:VK)(u:Value)(s':Shared):Prop:=∃ v H',Inv X Y U H' s'/\RelV v u/\Q v H'
abbrev TP (X:Cx)(Y:JS)(U:St)(Q:Bool->Hp->Prop)(b:Bool)(s':Shared):Prop:=∃ H',Inv X Y U H' s'/\Q b H'
abbrev AP (X:Cx)(Y:JS)(U:St)(Q:List V->Hp->Prop)(us:List Value)(s':Shared):Prop:=∃ vs H',Inv X Y U H' s'/\Vals vs us/\Q vs H'
abbrev SP (X:Cx)(Y:JS)(D:Ends)(f:Flow)(s':Shared):Prop:=
 match f with
 | .next=>∃ σ' H',Inv X Y σ' H' s'/\D.nx σ' H'
 | .brk=>∃ σ' H',Inv X Y σ' H' s'/\D.bk σ' H'
 | .cont=>∃ σ' H',Inv X Y σ' H' s'/\D.ct σ' H'
 | .ret u=>∃ v σ' H',Inv X Y σ' H' s'/\RelV v u/\D.rt v H'
abbrev PE (X:Cx)(e:Expr)(t:TE):Prop:=
 ∀ (Y:JS) (s:Shared) (U:St) (H:Hp) (Q:VK),Inv X Y U H s->t U H Q->wpAny (model X.prog X.w) X.A (eval e X.env) (EP X Y U Q) X.xe s
abbrev PT (X:Cx)(e:Expr)(t:TT):Prop:=
 ∀ (Y:JS) (s:Shared) (U:St) (H:Hp) (Q:Bool->Hp->Prop),Inv X Y U H s->t U H Q->wpAny (model X.prog X.w) X.A (isTrue e X.env (eval e X.env)) (TP X Y U Q) X.xe s
abbrev PW (X:Cx)(e:Expr)(t:TT):Prop:=
 ∀ (whole:Sem Value) (Y:JS) (s:Shared) (U:St) (H:Hp) (Q:Bool->Hp->Prop),Inv X Y U H s->t U H Q->wpAny (model X.prog X.w) X.A (isTrue e X.env whole) (TP X Y U Q) X.xe s
variable {e:Expr}
def PW.pt {X:Cx}{t:TT}(h:PW X e t):PT X e t:=h _
abbrev PA (X:Cx)(es:List Expr)(t:TA):Prop:=
 ∀ (pos:Pos) (Y:JS) (s:Shared) (U:St) (H:Hp) (Q:List V->Hp->Prop),Inv X Y U H s->t U H Q->wpAny (model X.prog X.w) X.A (spliced (backTo pos (starEach es X.env))) (AP X Y U Q) X.xe s
abbrev PS (X:Cx)(st:Stmt)(t:TS):Prop:=
 ∀ (Y:JS) (s:Shared) (U:St) (H:Hp) (D:Ends),Inv X Y U H s->t D U H->wpAny (model X.prog X.w) X.A (exec st X.env) (SP X Y D) X.xe s
abbrev yq (X:Cx)(st:List Stmt)(t:TS):Prop:=
 ∀ (Y:JS) (s:Shared) (U:St) (H:Hp) (D:Ends),Inv X Y U H s->t D U H->wpAny (model X.prog X.w) X.A (execs st X.env) (SP X Y D) X.xe s
variable {s:Shared}
def au {α:Type}{t:Sem α}{Q Q':α->Shared->Prop}(h:wpAny M A t Q E s)(hQ:∀ a s,Q a s->Q' a s):wpAny M A t Q' E s:=wpAny_mono h hQ λ_ _ x=>x
variable {Q:JR}{Y:JS}{U:St}{c:Expr}
section
variable {X:Cx}
abbrev IH (i:Nat):TE:=λU H Q=>∃ v,U[i]? =some (some v)/\Q v H
abbrev tC (v:V):TE:=λ_ H Q=>Q v H
def Eo {pos:Pos}(hN:X.N[i]? =some x)(hv:Hc X.env.scope x)(hd:(x ==("__debug__":Str))=false:=by decide) (hcd:(x ==("__classdict__":Str))=false:=by decide):PE X (.Name x pos) (IH i):=by
 intro Y s U H Q I h;obtain ⟨v,e,h⟩:=h;obtain ⟨m,hn,hl⟩:=I.loc;obtain ⟨u,r,l⟩:=hl i x v hN e hv;have fin:EP X Y U Q u s:=⟨v,H,I,r,h⟩;rcases l with ⟨hk,hm⟩|⟨hk,c,hc,hcell⟩
 ·exact wpAny_Name (wpAny_loadName_local I.ok.kind hk hn hm fin) hd
 ·rcases hk with hk|hk
  ·exact wpAny_Name (wpAny_loadName_cell I.ok.kind hk hc hcell fin) hd
  ·exact wpAny_Name (wpAny_loadName_free I.ok.kind hk hc hcell fin hcd) hd
def Cs {i j pos}:PE X (.Constant (.int i) j pos) (tC (.int i)):=λ_ _ _ H _ I h=>wpAny_Constant_int ⟨.int i,H,I.tok _,⟨_,rfl⟩,h⟩
def FW {b j pos}:PE X (.Constant (.bool b) j pos) (tC (.bl b)):=λ_ _ _ H _ I h=>Constant_bool ⟨.bl b,H,I,rfl,h⟩
def Cr {j pos}:PE X (.Constant .none j pos) (tC .non):=λ_ _ _ H _ I h=>Constant_none ⟨.non,H,I,rfl,h⟩
def wj {x j pos}:PE X (.Constant (.str x) j pos) (tC (.str x)):=λ_ _ _ H _ I h=>Calls.Constant_str ⟨.str x,H,I.tok _,⟨_,rfl⟩,h⟩
abbrev Gl (X:Cx)(x:Str):Prop:=X.env.kindOf x=some .globalImplicit
def bj {pos:Pos}(I:Inv X Y U H s)(hg:Gl X x)(hm:X.mg x=some u)(h:Q u s)
  (hd:(x ==("__debug__":Str))=false:=by decide):wpAny (model X.prog X.w) X.A (eval (.Name x pos) X.env) Q E s:=
 Calls.Name_function_global I.ok.kind hg (Calls.loadGlobal_global (by rw[I.ok.glob];exact I.mod.glob.keeps I.bk) hm h) hd
def cE {pos:Pos}(I:Inv X Y U H s)(hg:Gl X x)(hm:X.mg x=none)(hv:bootBuiltins x=some u)(h:Q u s)
  (hn:x≠"__name__":=by decide) (hd:(x ==("__debug__":Str))=false:=by decide):wpAny (model X.prog X.w) X.A (eval (.Name x pos) X.env) Q E s:=by
 obtain ⟨mb,h1,h2⟩:=I.mod.blt;exact Calls.Name_function_global I.ok.kind hg (Calls.loadGlobal_builtin (by rw[I.ok.glob];exact I.mod.glob.keeps I.bk) hm (by rw[I.ok.blt];exact h1.keeps I.bk) ((h2 x hn).trans hv) h) hd
def mD {pos:Pos}(hg:Gl X x)(hm:X.mg x=some u)(r:RelV v u)(hd:(x ==("__debug__":Str))=false:=by decide):PE X (.Name x pos) (tC v):=
 λ_ _ _ H _ I h=>bj I hg hm ⟨v,H,I,r,h⟩ hd
def yA {pos:Pos}(hg:Gl X x)(hm:X.mg x=none)(hv:bootBuiltins x=some u)(r:RelV v u)(hn:x≠"__name__":=by decide) (hd:(x ==("__debug__":Str))=false:=by decide):PE X (.Name x pos) (tC v):=
 λ_ _ _ H _ I h=>cE I hg hm hv ⟨v,H,I,r,h⟩ hn hd
variable {a b:Expr}{ta tb:TE}{pos:Pos}
variable {tA tB':TT}{rest:List Expr}
abbrev Hs (t u:TT):TT:=λU H Q=>t U H λc H1=>if c=true then u U H1 Q else Q false H1
abbrev Jw (t u:TT):TT:=λU H Q=>t U H λc H1=>if c=true then Q true H1 else u U H1 Q
abbrev IF (t:TT):TT:=λU H Q=>t U H λc H1=>Q (!c) H1
def zr (ha:PT X a tA):PW X (.BoolOp .And [a] pos) tA:=by
 intro wh Y s U H Q I h;refine isTrue_and (au (ha Y s U H Q I h) λc s1 e=>?_);cases c with
 |true=>exact isTrue_and_nil e
 |false=>exact e
def CZ (ha:PT X a tA):PW X (.BoolOp .Or [a] pos) tA:=by
 intro wh Y s U H Q I h;refine isTrue_or (au (ha Y s U H Q I h) λc s1 e=>?_);cases c with
 |false=>exact isTrue_or_nil e
 |true=>exact e
def CY (ha:PT X a tA)(hb:PW X (.BoolOp .And (b::rest) pos) tB'):PW X (.BoolOp .And (a::b::rest) pos) (Hs tA tB'):=by
 intro wh Y s U H Q I h;refine isTrue_and (au (ha Y s U H _ I h) λc s1 ⟨H1,I1,q1⟩=>?_);cases c with
 |true=>exact hb wh Y s1 U H1 Q I1 q1
 |false=>exact ⟨H1,I1,q1⟩
def E6 (ha:PT X a tA)(hb:PW X (.BoolOp .Or (b::rest) pos) tB'):PW X (.BoolOp .Or (a::b::rest) pos) (Jw tA tB'):=by
 intro wh Y s U H Q I h;refine isTrue_or (au (ha Y s U H _ I h) λc s1 ⟨H1,I1,q1⟩=>?_);cases c with
 |true=>exact ⟨H1,I1,q1⟩
 |false=>exact hb wh Y s1 U H1 Q I1 q1
def Ew (ha:PT X a tA):PT X (.UnaryOp .Not a pos) (IF tA):=by
 intro Y s U H Q I h;exact isTrue_not (ha Y s U H (λc H1=>Q (!c) H1) I h)
abbrev Fm (ta tb:TE):TE:=λU H Q=>ta U H λx H1=>∃ c,x=.bl c/\if c=true then tb U H1 Q else Q (.bl false) H1
abbrev HN (ta tb:TE):TE:=λU H Q=>ta U H λx H1=>∃ c,x=.bl c/\if c=true then Q (.bl true) H1 else tb U H1 Q
abbrev FG (ta:TE):TE:=λU H Q=>ta U H λx H1=>∃ c,x=.bl c/\Q (.bl (!c)) H1
def uJ {op}{t:TE}(h:PE X a t):PE X (.BoolOp op [a] pos) t:=λY s U H Q I hw=>BoolOp_one (h Y s U H Q I hw)
def Eh (ha:PE X a ta)(hb:PE X (.BoolOp .And (b::rest) pos) tb):PE X (.BoolOp .And (a::b::rest) pos) (Fm ta tb):=by
 intro Y s U H Q I h;refine BoolOp_and (au (ha Y s U H _ I h) λv s1 ⟨x,H1,I1,r1,q1⟩=>?_);obtain ⟨c,rfl,q1⟩:=q1;cases r1;refine wpAny_truthy_bool ?_;cases c with
 |true=>exact hb Y s1 U H1 Q I1 q1
 |false=>exact ⟨.bl false,H1,I1,rfl,q1⟩
def GV (ha:PE X a ta)(hb:PE X (.BoolOp .Or (b::rest) pos) tb):PE X (.BoolOp .Or (a::b::rest) pos) (HN ta tb):=by
 intro Y s U H Q I h;refine BoolOp_or (au (ha Y s U H _ I h) λv s1 ⟨x,H1,I1,r1,q1⟩=>?_);obtain ⟨c,rfl,q1⟩:=q1;cases r1;refine wpAny_truthy_bool ?_;cases c with
 |false=>exact hb Y s1 U H1 Q I1 q1
 |true=>exact ⟨.bl true,H1,I1,rfl,q1⟩
def Dr (ha:PE X a ta):PE X (.UnaryOp .Not a pos) (FG ta):=by
 intro Y s U H Q I h;refine UnaryOp_ (au (ha Y s U H _ I h) λv s1 ⟨x,H1,I1,r1,q1⟩=>?_);obtain ⟨c,rfl,q1⟩:=q1;cases r1;exact not_of (wpAny_truthy_bool ⟨.bl (!c),H1,I1,rfl,q1⟩)
abbrev Jo (t:TT)(ta tb:TE):TE:=λU H Q=>t U H λc H1=>if c=true then ta U H1 Q else tb U H1 Q
def xA (hc:PT X c tA)(ha:PE X a ta)(hb:PE X b tb):PE X (.IfExp c a b pos) (Jo tA ta tb):=by
 intro Y s U H Q I h;refine wpAny_IfExp (au (hc Y s U H _ I h) λd s1 ⟨H1,I1,q1⟩=>?_);cases d with
 |true=>exact ha Y s1 U H1 Q I1 q1
 |false=>exact hb Y s1 U H1 Q I1 q1
end
abbrev bg (K:W.Frag)(H:Hp)(a:Addr)(xs:List V):Prop:=
 Rd H a (.lst xs)\/
  ∃ (o:Obj) (its:Array Value) (n:Nat),K.lookup a=some o/\o.cls=.type "list"/\o.dict=none/\o.data=.seq its n/\its.size<=sizeLine/\Vals xs its.toList
abbrev bc (K:W.Frag)(H:Hp)(a:Addr)(xs:List V):Prop:=
 Rd H a (.tup xs)\/
  ∃ (o:Obj) (its:Array Value) (n:Nat),K.lookup a=some o/\o.cls=.type "tuple"/\o.data=.seq its n/\its.size<=sizeLine/\Vals xs its.toList
abbrev Iu:Value->Option V
 | .none=>some .non
 | .bool b=>some (.bl b)
 | .int i _=>some (.int i)
 | .str x _=>some (.str x)
 | .bytes b _=>some (.byt b)
 | .float b _=>some (.flt b)
 | .ref a=>some (.ref a)
 | .type n=>some (.ty n)
 |_=>none
def RelV.abs {x:V}(r:RelV x u):Iu u=some x:=by
 cases x with
 |non=>cases r;rfl
 |bl _=>cases r;rfl
 |int _=>obtain ⟨t,rfl⟩:=r;rfl
 |str _=>obtain ⟨t,rfl⟩:=r;rfl
 |byt _=>obtain ⟨t,rfl⟩:=r;rfl
 |flt _=>obtain ⟨t,rfl⟩:=r;rfl
 |ref _=>cases r;rfl
 |ty _=>cases r;rfl
def RelV.inj {x y:V}(r:RelV x u)(q:RelV y u):x=y:=Option.some.inj (r.abs.symm.trans q.abs)
def Vals.inj:∀ {xs ys:List V}{us:List Value},Vals xs us->Vals ys us->xs=ys
 |_,_,_,.nil,.nil=>rfl
 |_,_,_,.cons r t,.cons r' t'=>by rw[r.inj r',Vals.inj t t']
variable {K:W.Frag}
section
variable {X:Cx}{Y:JS}{U:St}{H:Hp}{s:Shared}{a:Addr}{xs ys:List V}
def bg.of (h:H a=some (.lst xs)):bg K H a xs:=.inl (.inl h)
def bc.of (h:H a=some (.tup xs)):bc K H a xs:=.inl (.inl h)
def Inv.list (I:Inv X Y U H s)(h:bg X.K H a xs):∃ its:List Value,Vals xs its/\PlainL s.heap a its.toArray/\xs.length<=sizeLine:=by
 rcases h with h|⟨o,its,n,hk,hc,hd,hs,hz,r⟩
 ·obtain ⟨z,its,n,r,e⟩:=h.ok I.hok;exact ⟨its,r,⟨_,n,e,rfl,rfl,rfl⟩,z⟩
 ·refine ⟨its.toList,r,⟨o,n,I.bG a o hk,hc,hd,by simpa using hs⟩,?_⟩;have e:=r.length;simp only[Array.length_toList] at e
  omega
def Inv.tuple (I:Inv X Y U H s)(h:bc X.K H a xs):∃ its:List Value,Vals xs its/\IsTup s.heap a its.toArray/\xs.length<=sizeLine:=by
 rcases h with h|⟨o,its,n,hk,hc,hs,hz,r⟩
 ·obtain ⟨z,its,r,p⟩:=h.ok I.hok;exact ⟨its,r,p,z⟩
 ·refine ⟨its.toList,r,⟨o,I.bG a o hk,hc,n,by simpa using hs⟩,?_⟩;have e:=r.length;simp only[Array.length_toList] at e
  omega
def Inv.jL (I:Inv X Y U H s)(h:bg X.K H a xs)(h':bg X.K H a ys):xs=ys:=by
 obtain ⟨its,r,⟨o,n,e,_,_,d⟩,_⟩:=I.list h;obtain ⟨its',r',⟨o',n',e',_,_,d'⟩,_⟩:=I.list h';rw[e] at e';cases e';rw[d] at d'
 injection d' with d1 _
 have:its=its':=by simpa using congrArg Array.toList d1
 subst this;exact r.inj r'
def Inv.eG (I:Inv X Y U H s)(h:bc X.K H a xs)(h':bc X.K H a ys):xs=ys:=by
 obtain ⟨its,r,⟨o,e,_,n,d⟩,_⟩:=I.tuple h;obtain ⟨its',r',⟨o',e',_,n',d'⟩,_⟩:=I.tuple h';rw[e] at e';cases e';rw[d] at d'
 injection d' with d1 _
 have:its=its':=by simpa using congrArg Array.toList d1
 subst this;exact r.inj r'
end
section
variable {X:Cx}{Y:JS}{U:St}{H:Hp}{s:Shared}{E:JR}
end
section
variable {X:Cx}{st:Stmt}{rest:List Stmt}{t u:TS}{e:Expr}{te:TE}{pos:Pos}
abbrev Gi:TS:=λD U H=>D.nx U H
abbrev Iw (t u:TS):TS:=λD U H=>t { D with nx:=u D } U H
def Ab:yq X [] Gi:=λ_ _ U H _ I h=>wpAny_execs_nil ⟨U,H,I,h⟩
def vT (h1:PS X st t)(h2:yq X rest u):yq X (st::rest) (Iw t u):=by
 intro Y s U H D I h;refine wpAny_execs_cons (au (h1 Y s U H { D with nx:=u D } I h) λf s1 q=>?_);cases f with
 |next=>
  obtain ⟨σ',H',I',q⟩:=q;exact h2 Y s1 σ' H' D I' q
 |ret v=>exact q
 |brk=>exact q
 |cont=>exact q
def Inv.quiet (I:Inv X Y U H s):interactive X.env=false:=by simp[interactive,I.ok.kind]
abbrev Fc (te:TE):TS:=λD U H=>te U H λ_ H1=>D.nx U H1
def zP (he:PE X e te)(hs:swapsWith e none pos.line X.env=pure false:=by rfl):PS X (.Expr e pos) (Fc te):=by
 intro Y s U H D I h;exact wpAny_Expr_any (au (he Y s U H _ I h) λv s1 ⟨x,H1,I1,r1,q1⟩=>⟨U,H1,I1,q1⟩) I.quiet hs
abbrev Hv (te:TE):TS:=λD U H=>te U H D.rt
def D6 (he:PE X e te):PS X (.Return (some e) pos) (Hv te):=by
 intro Y s U H D I h;exact wpAny_Return_some (au (he Y s U H _ I h) λv s1 ⟨x,H1,I1,r1,q1⟩=>⟨x,U,H1,I1,r1,q1⟩)
abbrev IE (c:TT)(t u:TS):TS:=λD U H=>c U H λb H1=>if b=true then t D U H1 else u D U H1
def Gp {a b:List Stmt}{tc:TT}(hc:PT X c tc)(ha:yq X a t)(hb:yq X b u):PS X (.If c a b pos) (IE tc t u):=by
 intro Y s U H D I h;refine wpAny_If (au (hc Y s U H _ I h) λd s1 ⟨H1,I1,q1⟩=>?_);cases d with
 |true=>exact ha Y s1 U H1 D I1 q1
 |false=>exact hb Y s1 U H1 D I1 q1
end
@[reducible]def TG:=V->St->Hp->(St->Hp->Prop)->Prop
@[reducible]def AV:=List V->St->Hp->(St->Hp->Prop)->Prop
abbrev PG (X:Cx)(target:Expr)(t:TG):Prop:=
 ∀ (Y:JS) (s:Shared) (U:St) (H:Hp) (v:V) (u:Value) (Q:St->Hp->Prop),Inv X Y U H s->RelV v u->t v U H Q->
  wpAny (model X.prog X.w) X.A (assign target X.env u) (λ_ s'=>∃ σ' H',Inv X Y σ' H' s'/\Q σ' H') X.xe s
abbrev DU (X:Cx)(ts:List Expr)(t:AV):Prop:=
 ∀ (Y:JS) (s:Shared) (U:St) (H:Hp) (vs:List V) (us:List Value) (Q:St->Hp->Prop),Inv X Y U H s->Vals vs us->t vs U H Q->
  wpAny (model X.prog X.w) X.A (assignInOrder ((assignEach ts X.env).map (·.2)) us) (λ_ s'=>∃ σ' H',Inv X Y σ' H' s'/\Q σ' H') X.xe s
@[reducible]def tD:=V->V->V->Hp->(Hp->Prop)->Prop
abbrev Ag (X:Cx)(t:tD):Prop:=
 ∀ (Y:JS) (s:Shared) (U:St) (H:Hp) (o i v:V) (ov iv u:Value) (Q:Hp->Prop),Inv X Y U H s->RelV o ov->RelV i iv->RelV v u->t o i v H Q->
  wpAny (model X.prog X.w) X.A (setItem ov iv u) (λ_ s'=>∃ H',Inv X Y U H' s'/\Q H') X.xe s
@[reducible]def Hh:=V->V->Hp->VK->Prop
abbrev Hq (X:Cx)(op:Operator)(t:Hh):Prop:=
 ∀ (Y:JS) (s:Shared) (U:St) (H:Hp) (x y:V) (v u:Value) (Q:VK),Inv X Y U H s->RelV x v->RelV y u->t x y H Q->
  wpAny (model X.prog X.w) X.A (inplaceOp op v u) (EP X Y U Q) X.xe s
variable {es:List Expr}{k:Nat}{tg:Expr}{te:TE}
section
variable {X:Cx}{pos:Pos}
abbrev fU (i:Nat):TG:=λv U H Q=>Q (U.set i (some v)) H
def fY (hN:X.N.Nodup)(hi:X.N[i]? =some x)(hx:Loc X.env.scope x)(hf:X.fn x=true\/X.env.scope.names.lookup x=some .local:=by first|exact .inl rfl|exact .inr rfl|assumption):PG X (.Name x pos) (fU i):=by
 intro Y s U H v u Q I r h;exact wpAny_assign_Name (gr I hN hi hx r (λs' I'=>⟨_,H,I',h⟩) hf)
abbrev HU:AV:=λvs U H Q=>vs=[]/\Q U H
abbrev FQ (t:TG)(u:AV):AV:=λvs U H Q=>∃ v r,vs=v::r/\t v U H λσ' H'=>u r σ' H' Q
def lr:DU X [] HU:=by
 intro Y s U H vs us Q I r h;obtain ⟨e,h⟩:=h;subst e;cases r;exact assignInOrder_nil ⟨U,H,I,h⟩
def gq {t:TG}{u:AV}(h1:PG X e t)(h2:DU X es u)
  (hs:(assignEach (e::es) X.env).map (·.2)=assign e X.env::(assignEach es X.env).map (·.2):=by rfl):DU X (e::es) (FQ t u):=by
 intro Y s U H vs us Q I r h;obtain ⟨v,vr,e1,h⟩:=h;subst e1;cases r with
 |cons r rr=>
  rw[hs];refine assignInOrder_cons (au (h1 Y s U H _ _ _ I r h) λ_ s1 ⟨σ1,H1,I1,q1⟩=>?_);exact h2 Y s1 σ1 H1 _ _ Q I1 rr q1
abbrev Aw (K:W.Frag)(n:Nat)(t:AV):TG:=λv U H Q=>∃ a xs,v=.ref a/\bc K H a xs/\xs.length=n/\t xs U H Q
def lq {t:AV}{n:Nat}(hc:X.calm=true)(h:DU X es t)
  (hn:(assignEach es X.env).length=n:=by rfl) (hst:(assignEach es X.env).findIdx? (·.1)=none:=by rfl):PG X (.Tuple es k pos) (Aw X.K n t):=by
 intro Y s U H v u Q I r hw;obtain ⟨a,xs,e1,hq,hl,hw⟩:=hw;subst e1;cases r;obtain ⟨its,rv,ht,hz⟩:=I.tuple hq;refine assign_Tuple_tuple (I.ok.hd hc) ht (by simp[hn,<-hl,rv.length]) hst λh' hx=>?_
 have I1:Inv X Y U H { s with heap:=h' }:=I.kept (t':=s.toks) λb o e=>hx b o (Nat.ne_of_lt (Heap.lt_size e)) e
 exact h Y _ U H xs _ Q I1 (by simpa using rv) hw
abbrev HR (to ti:TE)(t:tD):TG:=λv U H Q=>to U H λo H1=>ti U H1 λi H2=>t o i v H2 λH3=>Q U H3
def Eu {o i:Expr}{to ti:TE}{t:tD}(ho:PE X o to)(hi:PE X i ti)(hs:Ag X t)
  (ha:∀ v,assign (.Subscript o i pos) X.env v=(do
   let ov <-holding [v] (eval o X.env)
   let iv <-holding [v,ov] (eval i X.env)
   standAt pos
   holding [v,ov,iv] (setItem ov iv v)
   release [v,ov,iv] []):=by intro _;rfl):PG X (.Subscript o i pos) (HR to ti t):=by
 intro Y s U H v u Q I r h;rw[ha];refine wpAny_bind (wpAny_holding (au (ho Y s U H _ I h) λov s1 ⟨x,H1,I1,r1,q1⟩=>?_));refine wpAny_bind (wpAny_holding (au (hi Y s1 U H1 _ I1 q1) λiv s2 ⟨y,H2,I2,r2,q2⟩=>?_));refine wpAny_bind (wpAny_standAt (wpAny_bind (wpAny_holding (au (hs Y s2 U H2 x y v ov iv u _ I2 r1 r2 r q2) λ_ s3 ⟨H3,I3,q3⟩=>?_))));exact wpAny_release ⟨U,H3,I3,q3⟩
abbrev Gr (te:TE)(g:TG):TS:=λD U H=>te U H λx H1=>g x U H1 D.nx
def wM {g:TG}(he:PE X e te)(hg:PG X tg g)(hs:swapsWithSole [tg] e pos.line X.env=pure false:=by rfl) (hw:swappedStores [tg] e X.env=pure none:=by rfl)
  (h1:(assignEach [tg] X.env).map (·.2)=[assign tg X.env]:=by rfl):PS X (.Assign [tg] e pos) (Gr te g):=by
 intro Y s U H D I h;refine wpAny_Assign_stores (au (he Y s U H _ I h) λv s1 ⟨x,H1,I1,r1,q1⟩=>?_) hs hw;rw[h1];exact au (hg Y s1 U H1 x v _ I1 r1 q1) λ_ s2 q=>q
def xy {pos':Pos}(hN:X.N.Nodup)(hi:X.N[i]? =some x)(hx:Loc X.env.scope x)(he:PE X e te)(hs:swapsWith e (some (.Name x pos')) pos.line X.env=pure false:=by rfl) (hf:X.fn x=true\/X.env.scope.names.lookup x=some .local:=by first|exact .inl rfl|exact .inr rfl|assumption):
  PS X (.Assign [.Name x pos'] e pos) (Gr te (fU i)):=by
 intro Y s U H D I h;refine wpAny_Assign_Name (au (he Y s U H _ I h) λv s1 ⟨y,H1,I1,r1,q1⟩=>?_) hs;exact gr I1 hN hi hx r1 (λs2 I2=>⟨_,H1,I2,q1⟩) hf
abbrev FO (to ti te:TE)(tget:V->V->Hp->VK->Prop)(tip:Hh)(tset:tD):TS:=λD U H=>to U H λo H1=>ti U H1 λi H2=>tget o i H2 λx H3=>te U H3 λy H4=>tip x y H4 λz H5=>tset o i z H5 λH6=>D.nx U H6
abbrev Et (X:Cx)(t:V->V->Hp->VK->Prop):Prop:=
 ∀ (Y:JS) (s:Shared) (U:St) (H:Hp) (o i:V) (ov iv:Value) (Q:VK),Inv X Y U H s->RelV o ov->RelV i iv->t o i H Q->
  wpAny (model X.prog X.w) X.A (getItem ov iv) (EP X Y U Q) X.xe s
def AW {o i:Expr}{to ti:TE}{tget:V->V->Hp->VK->Prop}{tip:Hh}{tset:tD}{op:Operator}{tpos:Pos}(ho:PE X o to)(hi:PE X i ti)(hg:Et X tget)(he:PE X e te)(hp:Hq X op tip)(hs:Ag X tset)
  (ha:∀ ov iv new,augStore i ov iv new=(do holding [new,ov,iv] (setItem ov iv new);release [new,ov,iv] [];pure .next):=by intros;rfl):PS X (.AugAssign (.Subscript o i tpos) op e pos) (FO to ti te tget tip tset):=by
 intro Y s U H D I h;refine wpAny_AugAssign_SubscriptAny (au (ho Y s U H _ I h) λov s1 ⟨x1,H1,I1,r1,q1⟩=>?_) ha;refine au (hi Y s1 U H1 _ I1 q1) λiv s2 ⟨x2,H2,I2,r2,q2⟩=>?_
 refine au (hg Y s2 U H2 x1 x2 ov iv _ I2 r1 r2 q2) λold s3 ⟨x3,H3,I3,r3,q3⟩=>?_
 refine au (he Y s3 U H3 _ I3 q3) λv s4 ⟨x4,H4,I4,r4,q4⟩=>?_
 refine au (hp Y s4 U H4 x3 x4 old v _ I4 r3 r4 q4) λnew s5 ⟨x5,H5,I5,r5,q5⟩=>?_
 exact au (hs Y s5 U H5 x1 x2 x5 ov iv new _ I5 r1 r2 r5 q5) λ_ s6 ⟨H6,I6,q6⟩=>⟨U,H6,I6,q6⟩
abbrev I0 (f:Int->Int->Int):Hh:=λx y H Q=>∃ i j,x=.int i/\y=.int j/\Q (.int (f i j)) H
def CM:Hq X .Add (I0 λi j=>i+j):=by
 intro Y s U H x y v u Q I r1 r2 h;obtain ⟨i,j,e1,e2,q⟩:=h;subst e1;subst e2;obtain ⟨t,rfl⟩:=r1;obtain ⟨t',rfl⟩:=r2;exact iadd_int ⟨.int _,H,I.tok _,⟨_,rfl⟩,q⟩
def En:Hq X .Sub (I0 λi j=>i-j):=by
 intro Y s U H x y v u Q I r1 r2 h;obtain ⟨i,j,e1,e2,q⟩:=h;subst e1;subst e2;obtain ⟨t,rfl⟩:=r1;obtain ⟨t',rfl⟩:=r2;exact isub_int ⟨.int _,H,I.tok _,⟨_,rfl⟩,q⟩
end
variable {body:List Stmt}
section
variable {X:Cx}{pos:Pos}
abbrev Ez (c:TT)(tb:TS):TS:=λD U H=>∃ W:Nat->St->Hp->Prop,(∃ m,W m U H)/\∀ m U H,W m U H->
 c U H λb H1=>if b=true then ∃ N:St->Hp->Prop,(∀ σ' H',N σ' H'->∃ m',m'<m/\W m' σ' H')/\tb { D with nx:=N,ct:=N,bk:=D.nx } U H1 else D.nx U H1
def xR {tc:TT}{tb:TS}(hp:PassesOwn (model X.prog X.w) X.A X.env X.xe)(hc:PT X c tc)(hb:yq X body tb):PS X (.While c body [] pos) (Ez tc tb):=by
 intro Y s U H D I h;obtain ⟨W,⟨m0,w0⟩,turn⟩:=h;refine wpAny_While (codeAny_whileLoop (λn s'=>∃ σ' H',Inv X Y σ' H' s'/\W n σ' H') ?_ m0 ⟨U,H,I,w0⟩);rintro n s1 ⟨σ1,H1,I1,w1⟩;refine wpAny_passesOwn hp (au (hc Y s1 σ1 H1 _ I1 (turn n σ1 H1 w1)) λb s2 ⟨H2,I2,q2⟩=>?_);cases b with
 |true=>
  obtain ⟨N,hN,q2⟩:=q2;rw[if_pos rfl];refine wpAny_passesOwn hp (au (hb Y s2 σ1 H2 _ I2 q2) λf s3 q3=>?_);cases f with
  |next=>
   obtain ⟨σ3,H3,I3,n3⟩:=q3;obtain ⟨m',hm,w3⟩:=hN σ3 H3 n3;exact ⟨m',hm,σ3,H3,I3,w3⟩
  |cont=>
   obtain ⟨σ3,H3,I3,n3⟩:=q3;obtain ⟨m',hm,w3⟩:=hN σ3 H3 n3;exact ⟨m',hm,σ3,H3,I3,w3⟩
  |brk=>exact q3
  |ret v=>exact q3
 |false=>
  rw[if_neg Bool.false_ne_true];exact wpAny_execs_nil ⟨σ1,H2,I2,q2⟩
end
structure It where
 go:Nat->Hp->Prop
 yld:Nat->Hp->V->Hp->Prop
 stop:Nat->Hp->Prop
abbrev gz (X:Cx)(Y:JS)(H:Hp)(b:Addr):Prop:=
 H b=none/\b≠X.env.locals/\b ∉ X.fs/\(b ∈ X.ex\/X.s₀.heap.objs.size<=b)/\(∀ x c,X.env.cells.lookup x=some c->c≠b)/\∀ p ∈ X.pn++Y,p.1≠b
def Inv.pI {X:Cx}{H':Hp}(I:Inv X Y U H s)(hb:s.heap.objs.size<=b)(hn:H' b=none):gz X Y H' b:=by
 refine ⟨hn,Nat.ne_of_gt (Nat.lt_of_lt_of_le I.lt hb),I.Ip hb,.inr (Nat.le_trans I.sz hb),λx c e z=>?_,λp hp z=>?_⟩
 ·obtain ⟨v,q⟩:=I.cell x c e;exact absurd (Nat.lt_of_lt_of_le q.lt (by rw[z];exact hb)) (Nat.lt_irrefl _)
 ·exact absurd (Nat.lt_of_lt_of_le (Heap.lt_size (I.pin p hp).1) (by rw[z];exact hb)) (Nat.lt_irrefl _)
structure Turn (P:Program) (w:World) (K:W.Frag) (tg:Expr) (J:It) (fp:List Addr) (it:Addr) (tn:Nat->Heap->Prop):Prop where
 mem:it ∈ fp
 obj:∀ i h,tn i h->∀ b ∈ fp,∃ o,h.get? b=some o/\∀ v,o.data≠.cell v
 keep:∀ i h h',tn i h->(∀ b ∈ fp,∀ o,h.get? b=some o->h'.get? b=some o)->tn i h'
 item:∀ (X:Cx),X.prog=P->X.w=w->X.K=K->X.calm=true->∀ (i:Nat) (Y:JS) (s:Shared) (U:St) (H:Hp) (E:JR),Inv X Y U H s->(∀ b ∈ fp,gz X Y H b)->tn i s.heap->J.go i H->
  wpAny (model P w) X.A (pyNext (.ref it)) (λr s1=>∃ u,r=some u/\
   wpAny (model P w) X.A (letOwnedTupleGo tg (.ref it) u) (λ_ s2=>∃ x H',Inv X Y U H' s2/\RelV x u/\J.yld i H x H'/\tn (i+1) s2.heap/\∀ b ∈ fp,H' b=none) E s1) E s
 done:∀ (X:Cx),X.prog=P->X.w=w->X.K=K->X.calm=true->∀ (i:Nat) (Y:JS) (s:Shared) (U:St) (H:Hp) (E:JR),Inv X Y U H s->(∀ b ∈ fp,gz X Y H b)->tn i s.heap->J.stop i H->
  wpAny (model P w) X.A (pyNext (.ref it)) (λr s1=>r=none/\Inv X Y U H s1) E s
 self:∀ (A:Around) (i:Nat) (s:Shared) (Q:JR) (E:JR),tn i s.heap->Q (.ref it) s->wpAny (model P w) A (pyIter (.ref it)) Q E s
@[reducible]def TI:=St->Hp->(It->Hp->Prop)->Prop
abbrev FC (X:Cx)(Y:JS)(U:St)(tg:Expr)(R:It->Hp->Prop)(itv:Value)(s2:Shared):Prop:=
 ∃ (it:Addr) (fp:List Addr) (tn:Nat->Heap->Prop) (J:It) (H':Hp),itv=.ref it/\Inv X Y U H' s2/\Turn X.prog X.w X.K tg J fp it tn/\tn 0 s2.heap/\(∀ b ∈ fp,gz X Y H' b)/\R J H'
abbrev PI (X:Cx)(tg iter:Expr)(wi:TI):Prop:=
 ∀ (Y:JS) (s:Shared) (U:St) (H:Hp) (R:It->Hp->Prop),Inv X Y U H s->wi U H R->
  wpAny (model X.prog X.w) X.A (eval iter X.env) (λv s1=>wpAny (model X.prog X.w) X.A (pyIter v) (FC X Y U tg R) X.xe s1) X.xe s
def rW {it:Addr}{o:Obj}{n:String}{vs:Array Value}{Q:JQ}(ho:s.heap.get? it=some o)(hc:o.cls=.type n)(hd:o.data=.fields vs)
  (hn:["enumerate","zip","dict_itemiterator","dict_reverseitemiterator","odict_iterator","itertools.zip_longest","itertools.pairwise"].contains n=false) (hQ:Q () s):wpAny M A (letOwnedTupleGo tg (.ref it) u) Q E s:=by
 unfold letOwnedTupleGo;cases tg<;>first
  |exact wpAny_pure hQ
  |(cases u<;>first
    |exact wpAny_pure hQ
    |(refine wpAny_bind (wpAny_load ho ?_)
      rw[hc,hd];show wpAny M A (if (["enumerate","zip","dict_itemiterator","dict_reverseitemiterator","odict_iterator","itertools.zip_longest","itertools.pairwise"].contains n&&vs[0]? ==some (rawInt _))=true then _ else _) Q E s;rw[if_neg (by intro h;rw[hn,Bool.false_and] at h;cases h)];exact wpAny_pure hQ))
abbrev EF (K:W.Frag)(a:Addr):It:=
 ⟨λi H=>∃ xs x,bg K H a xs/\xs[i]? =some x,λi H x H'=>H'=H/\∀ xs,bg K H a xs->xs[i]? =some x,λi H=>∃ xs,bg K H a xs/\xs.length<=i⟩
abbrev FX (K:W.Frag)(a:Addr):It:=
 ⟨λi H=>∃ xs x,bc K H a xs/\xs[i]? =some x,λi H x H'=>H'=H/\∀ xs,bc K H a xs->xs[i]? =some x,λi H=>∃ xs,bc K H a xs/\xs.length<=i⟩
abbrev Eg (lo:Int)(n:Nat):It:=⟨λi _=>i<n,λi H x H'=>H'=H/\x=.int (lo+i),λi _=>n<=i⟩
def t8 (a it:Addr):Turn P w K tg (EF K a) [it] it (λi h=>h.IsListIter it a i) where
 mem:=by simp
 obj:=λi h st b hb=>by
  have e:b=it:=by simpa using hb
  subst e;obtain ⟨o,e,c,d⟩:=st;exact ⟨o,e,λv z=>by rw[d] at z;cases z⟩
 keep:=λi h h' st k=>st.at λo e=>k it (by simp) o e
 item:=by
  intro X hP hw hK hc i Y s U H E I hf st hg;subst hP hw hK;obtain ⟨xs,x,hq,hx⟩:=hg;obtain ⟨its,rv,p,hz⟩:=I.list hq;obtain ⟨u,hu,ru⟩:=rv.get hx;obtain ⟨f0,f1,f2,f3,f4,f5⟩:=hf it (by simp);refine wpAny_pyNext_list_item st p.isList (x:=u) (by simpa using hu) λh' st' sb=>?_
  have I1:Inv X Y U H { s with heap:=h' }:=I.turned (t':=s.toks) (λb o hb e=>(sb.2 b hb).trans e) f0 f1 f3 f4 f5;obtain ⟨o,e,c,d⟩:=id st';exact ⟨u,rfl,rW (s:={ s with heap:=h' }) e c d (by decide) ⟨x,H,I1,ru,⟨rfl,λys hy=>by rw[I.jL hy hq];exact hx⟩,st',λb hb=>(hf b hb).1⟩⟩
 done:=by
  intro X hP hw hK hc i Y s U H E I hf st hg;subst hP hw hK;obtain ⟨xs,hq,hx⟩:=hg;obtain ⟨its,rv,p,hz⟩:=I.list hq;obtain ⟨f0,f1,f2,f3,f4,f5⟩:=hf it (by simp);have hl:=rv.length;exact wpAny_pyNext_list_end (I.ok.hd hc) st p.isList (by simp;omega) λh' eb=>⟨rfl,I.turned (t':=s.toks) (λb o hb e=>eb b o hb e) f0 f1 f3 f4 f5⟩
 self:=λ_ _ _ _ _ st h=>wpAny_pyIter_listiter st h
def pD (a it:Addr):Turn P w K tg (FX K a) [it] it (λi h=>h.IsTupleIter it a i) where
 mem:=by simp
 obj:=λi h st b hb=>by
  have e:b=it:=by simpa using hb
  subst e;obtain ⟨o,e,c,d⟩:=st;exact ⟨o,e,λv z=>by rw[d] at z;cases z⟩
 keep:=λi h h' st k=>st.at λo e=>k it (by simp) o e
 item:=by
  intro X hP hw hK hc i Y s U H E I hf st hg;subst hP hw hK;obtain ⟨xs,x,hq,hx⟩:=hg;obtain ⟨its,rv,p,hz⟩:=I.tuple hq;obtain ⟨u,hu,ru⟩:=rv.get hx;obtain ⟨f0,f1,f2,f3,f4,f5⟩:=hf it (by simp);refine wpAny_pyNext_tuple_item st (show s.heap.IsTuple a its.toArray from p) (x:=u) (by simpa using hu) λh' st' sb=>?_
  have I1:Inv X Y U H { s with heap:=h' }:=I.turned (t':=s.toks) (λb o hb e=>(sb.2 b hb).trans e) f0 f1 f3 f4 f5;obtain ⟨o,e,c,d⟩:=id st';exact ⟨u,rfl,rW (s:={ s with heap:=h' }) e c d (by decide) ⟨x,H,I1,ru,⟨rfl,λys hy=>by rw[I.eG hy hq];exact hx⟩,st',λb hb=>(hf b hb).1⟩⟩
 done:=by
  intro X hP hw hK hc i Y s U H E I hf st hg;subst hP hw hK;obtain ⟨xs,hq,hx⟩:=hg;obtain ⟨its,rv,p,hz⟩:=I.tuple hq;obtain ⟨f0,f1,f2,f3,f4,f5⟩:=hf it (by simp);have hl:=rv.length;exact wpAny_pyNext_tuple_end (I.ok.hd hc) st (show s.heap.IsTuple a its.toArray from p) (by simp;omega) λh' eb=>⟨rfl,I.turned (t':=s.toks) (λb o hb e=>eb b o hb e) f0 f1 f3 f4 f5⟩
 self:=λ_ _ _ _ _ st h=>wpAny_pyIter_tupleiter st h
def pV (it:Addr)(lo:Int)(n:Nat):Turn P w K tg (Eg lo n) [it] it (λi h=>IsRangeIter h it (lo+(i:Nat)*1) ((n:Int)-(i:Nat)) 1) where
 mem:=by simp
 obj:=λi h st b hb=>by
  have e:b=it:=by simpa using hb
  subst e;exact ⟨_,st,λv z=>by
   have z':Data.fields _=Data.cell v:=z;cases z'⟩
 keep:=λi h h' st k=>k it (by simp) _ st
 item:=by
  intro X hP hw hK hc i Y s U H E I hf st hg;subst hP hw hK;obtain ⟨f0,f1,f2,f3,f4,f5⟩:=hf it (by simp);have W:=Walks.range (prog:=X.prog) (w:=X.w) (I.ok.hd hc) it lo 1 n;refine W.item i s _ _ hg st λv h' tk hv st' kk=>?_
  obtain ⟨t,rfl⟩:=hv;have I1:Inv X Y U H { s with heap:=h',toks:=tk }:=I.turned (λb o hb e=>kk b o (by simpa using hb) e) f0 f1 f3 f4 f5;refine ⟨_,rfl,rW (s:={ s with heap:=h',toks:=tk }) (n:="range_iterator") st' rfl rfl (by decide) ⟨.int (lo+i),H,I1,⟨t,?_⟩,⟨rfl,rfl⟩,st',λb hb=>(hf b hb).1⟩⟩;rw[Int.mul_one]
 done:=by
  intro X hP hw hK hc i Y s U H E I hf st hg;subst hP hw hK;obtain ⟨f0,f1,f2,f3,f4,f5⟩:=hf it (by simp);exact wpAny_pyNext_range_end (I.ok.hd hc) st (by have:n<=i:=hg;omega) λh' eb=>⟨rfl,I.turned (t':=s.toks) (λb o hb e=>eb b o hb e) f0 f1 f3 f4 f5⟩
 self:=λ_ _ _ _ _ st h=>wpAny_pyIter_rangeiter st h
variable {pos:Pos}{fp:List Addr}
section
variable {X:Cx}{tg:Expr}
def xf {R:It->Hp->Prop}{lo hi:Int}{t u v:Tok}{tk:Nat}(I:Inv X Y U H s)(h1: -(2 ^ 62)<=lo)(h2:lo<2 ^ 62)(h3: -(2 ^ 62)<=hi)(h4:hi<2 ^ 62)
  (q:R (Eg lo (hi-lo).toNat) H):wpAny (model X.prog X.w) X.A (pyIter (.ref s.heap.objs.size)) (FC X Y U tg R) E { s with heap:=s.heap.push { cls:=.type "range",data:=.fields #[.int lo t,.int hi u,.int 1 v] },toks:=tk }:=by
 refine wpAny_pyIter_range (IsRange.new ..) (small_one h1 h2 h3 h4) ?_;have I1:Inv X Y U H { s with heap:=s.heap.push { cls:=.type "range",data:=.fields #[.int lo t,.int hi u,.int 1 v] },toks:=tk }:=I.kept λb o e=>Heap.get?_push_of_some _ e
 refine ⟨(s.heap.push { cls:=.type "range",data:=.fields #[.int lo t,.int hi u,.int 1 v] }).objs.size,[(s.heap.push { cls:=.type "range",data:=.fields #[.int lo t,.int hi u,.int 1 v] }).objs.size],_,_,H,rfl,
  I1.kept (t':=tk) λb o e=>Heap.get?_push_of_some _ e,pV _ lo (hi-lo).toNat,?_,λb hb=>?_,q⟩
 ·have e1:lo+((0:Nat):Int)*1=lo:=by simp
  have e2:(((hi-lo).toNat:Nat):Int)-((0:Nat):Int)=Builtin.Range.rangeSize lo hi 1:=by rw[rangeSize_one];split<;>omega
  show IsRangeIter _ _ (lo+((0:Nat):Int)*1) ((((hi-lo).toNat:Nat):Int)-((0:Nat):Int)) 1;rw[e1,e2];exact Heap.get?_push_size _ rfl
 ·have e:b=(s.heap.push { cls:=.type "range",data:=.fields #[.int lo t,.int hi u,.int 1 v] }).objs.size:=by simpa using hb
  subst e;exact I1.pI (Nat.le_refl _) (I1.hok.fresh (Nat.le_refl _))
abbrev Fi (ta:TA):TI:=λU H R=>ta U H λvs H1=>∃ j:Int,vs=[.int j]/\ -(2 ^ 62)<=j/\j<2 ^ 62/\R (Eg 0 j.toNat) H1
def tL {a:Expr}{ta:TA}{p:Pos}(hg:Gl X "range") (hm:X.mg "range"=none) (ha:PA X [a] ta) (hs:starEach [a] X.env=[(false,eval a X.env)]:=by rfl):PI X tg (.Call (.Name "range" p) [a] [] pos) (Fi ta):=by
 intro Y s U H R I h;refine Call_ (cE I hg hm boot_range (PyProof.Rows.callWith_type1 (au (ha pos Y s U H _ I h) λus s1 ⟨vs,H1,I1,r1,q1⟩=>?_) hs rfl));obtain ⟨j,e,q1,q2,q⟩:=q1;subst e;cases r1 with
 |cons r rr=>
  cases rr;obtain ⟨t,rfl⟩:=r;exact call_range_1 (xf I1 nofun nofun q1 q2 (by simpa using q))
abbrev Ig (wi:TI)(g:TG)(tb:TS):TS:=λD U H=>wi U H λJ H1=>∃ W:Nat->Nat->St->Hp->Prop,(∃ m,W 0 m U H1)/\∀ i m U H,W i m U H->
 (J.stop i H/\D.nx U H)\/(J.go i H/\∃ N:St->Hp->Prop,(∀ σ' H',N σ' H'->∃ m',m'<m/\W (i+1) m' σ' H')/\∀ x H',J.yld i H x H'->g x U H' λσ2 H2=>tb { D with nx:=N,ct:=N,bk:=D.nx } σ2 H2)
abbrev l8 (fp:List Addr)(h:Heap):List (Addr×Obj):=fp.filterMap λb=>(h.get? b).map λo=>(b,o)
def bD {o:Obj}(hb:b ∈ fp)(e:h.get? b=some o):(b,o) ∈ l8 fp h:=List.mem_filterMap.mpr ⟨b,hb,by rw[e];rfl⟩
def um {p:Addr×Obj}(hp:p ∈ l8 fp h):p.1 ∈ fp/\h.get? p.1=some p.2:=by
 obtain ⟨b,hb,e⟩:=List.mem_filterMap.mp hp;cases q:h.get? b with
 |none=>rw[q] at e;cases e
 |some o=>
  rw[q] at e;have e':(b,o)=p:=Option.some.inj e;subst e';exact ⟨hb,q⟩
def Inv.pinned (I:Inv X Y U H s)(hf:∀ b ∈ fp,gz X Y H b) (ho:∀ b ∈ fp,∃ o,s.heap.get? b=some o/\∀ v,o.data≠.cell v):Inv X (Y++l8 fp s.heap) U H s:=
 I.lF λp hp=>(List.mem_append.mp hp).elim (λz=>I.pin p (mem_append_right _ z)) λz=>by
  obtain ⟨hb,e⟩:=um z;obtain ⟨f0,f1,f2,_⟩:=hf p.1 hb;obtain ⟨o,e',d⟩:=ho p.1 hb;rw[e] at e';cases e';exact ⟨e,f0,f1,f2,d⟩
def Inv.dI {pl:JS}(I:Inv X (Y++pl) U H s):Inv X Y U H s:=I.lF λp hp=>I.pin p (mem_append_right _ (mem_append_left _ hp))
def D8 {iter:Expr}{wi:TI}{g:TG}{tb:TS}(hp:PassesOwn (model X.prog X.w) X.A X.env X.xe)(hc:X.calm=true)(hi:PI X tg iter wi)(hg:PG X tg g)(hb:yq X body tb)
  (hs:∀ x,foldedSetIterable iter X.env x=pure x:=by intro _;rfl):PS X (.For tg iter body [] pos) (Ig wi g tb):=by
 intro Y s U H D I h;refine wpAny_For (au (hi Y s U H _ I h) λv s1 h1=>au h1 λitv s2 h2=>?_) hs;obtain ⟨it,fp,tn,J,H2,e,I2,T,mM,f2,W,⟨m0,w0⟩,turn⟩:=h2;subst e;have stat:∀ {H':Hp},(∀ b ∈ fp,H' b=none)->∀ b ∈ fp,gz X Y H' b:=λhn b hb=>⟨hn b hb,(f2 b hb).2⟩
 refine codeAny_forLoop_any (λn s'=>∃ i σ' H',Inv X Y σ' H' s'/\tn i s'.heap/\(∀ b ∈ fp,H' b=none)/\W i n σ' H') ?_ m0 ⟨0,U,H2,I2,mM,λb hb=>(f2 b hb).1,w0⟩;rintro n s3 ⟨i,σ3,H3,I3,st3,fr3,w3⟩;rcases turn i n σ3 H3 w3 with ⟨stop,qn⟩|⟨go,N,hN,step⟩
 ·refine wpAny_passesOwn hp (au (T.done X rfl rfl rfl hc i Y s3 σ3 H3 X.xe I3 (stat fr3) st3 stop) λr s4 ⟨hr,I4⟩=>?_);subst hr;exact wpAny_execs_nil ⟨σ3,H3,I4,qn⟩
 ·refine wpAny_passesOwn hp (au (T.item X rfl rfl rfl hc i Y s3 σ3 H3 X.xe I3 (stat fr3) st3 go) λr s4 ⟨u,hr,h4⟩=>?_);subst hr;refine wpAny_passesOwn hp (au h4 λ_ s5 ⟨x,H5,I5,r5,y5,st5,fr5⟩=>?_);have I5':=I5.pinned (stat fr5) (T.obj _ _ st5);refine wpAny_passesOwn hp (au (hg _ s5 σ3 H5 x u _ I5' r5 (step x H5 y5)) λ_ s6 ⟨σ6,H6,I6,q6⟩=>?_);refine wpAny_passesOwn hp (au (hb _ s6 σ6 H6 _ I6 q6) λf s7 q7=>?_);have again:∀ {σ7:St}{H7:Hp},Inv X (Y++l8 fp s5.heap) σ7 H7 s7->N σ7 H7->∃ m,m<n/\∃ i σ' H',Inv X Y σ' H' s7/\tn i s7.heap/\(∀ b ∈ fp,H' b=none)/\W i m σ' H':=λ{σ7 H7} I7 n7=>by
   obtain ⟨m',hm,w7⟩:=hN σ7 H7 n7;refine ⟨m',hm,i+1,σ7,H7,I7.dI,T.keep _ _ _ st5 λb hb o e=>(I7.pin (b,o) (mem_append_right _ (mem_append_right _ (bD hb e)))).1,λb hb=>?_,w7⟩;obtain ⟨o,e,d⟩:=T.obj _ _ st5 b hb;exact (I7.pin (b,o) (mem_append_right _ (mem_append_right _ (bD hb e)))).2.1
  cases f with
  |next=>obtain ⟨σ7,H7,I7,n7⟩:=q7;exact again I7 n7
  |cont=>obtain ⟨σ7,H7,I7,n7⟩:=q7;exact again I7 n7
  |brk=>obtain ⟨σ7,H7,I7,q7⟩:=q7;exact ⟨σ7,H7,I7.dI,q7⟩
  |ret v=>obtain ⟨x7,σ7,H7,I7,r7,q7⟩:=q7;exact ⟨x7,σ7,H7,I7.dI,r7,q7⟩
end
@[reducible]def R2:=V->V->Hp->VK->Prop
abbrev cS (X:Cx)(f:Value->Value->Sem Value)(r:R2):Prop:=
 ∀ (Y:JS) (s:Shared) (U:St) (H:Hp) (x y:V) (v u:Value) (Q:VK),Inv X Y U H s->RelV x v->RelV y u->r x y H Q->
  wpAny (model X.prog X.w) X.A (f v u) (EP X Y U Q) X.xe s
abbrev G6 (X:Cx)(f:Value->Sem Value)(r:V->Hp->VK->Prop):Prop:=
 ∀ (Y:JS) (s:Shared) (U:St) (H:Hp) (x:V) (v:Value) (Q:VK),Inv X Y U H s->RelV x v->r x H Q->
  wpAny (model X.prog X.w) X.A (f v) (EP X Y U Q) X.xe s
abbrev ck (X:Cx)(f:Value)(r:List V->Hp->VK->Prop):Prop:=
 ∀ (Y:JS) (s:Shared) (U:St) (H:Hp) (xs:List V) (us:List Value) (Q:VK),Inv X Y U H s->Vals xs us->r xs H Q->
  wpAny (model X.prog X.w) X.A (call f us) (EP X Y U Q) X.xe s
abbrev HW (X:Cx)(r:V->Hp->(Bool->Hp->Prop)->Prop):Prop:=
 ∀ (Y:JS) (s:Shared) (U:St) (H:Hp) (x:V) (v:Value) (Q:Bool->Hp->Prop),Inv X Y U H s->RelV x v->r x H Q->
  wpAny (model X.prog X.w) X.A (truthy v) (TP X Y U Q) X.xe s
abbrev He (r:R2)(ta tb:TE):TE:=λU H Q=>ta U H λx H1=>tb U H1 λy H2=>r x y H2 Q
abbrev JN (r:V->Hp->VK->Prop)(ta:TE):TE:=λU H Q=>ta U H λx H1=>r x H1 Q
abbrev rI (C:Int->Int->Prop)(g:Int->Int->V):R2:=λx y H Q=>∃ i j,x=.int i/\y=.int j/\C i j/\Q (g i j) H
abbrev yz (g:Int->Int->V):R2:=λx y H Q=>∃ i j,x=.int i/\y=.int j/\Q (g i j) H
abbrev rU (g:Int->V):V->Hp->VK->Prop:=λx H Q=>∃ i,x=.int i/\Q (g i) H
variable {f:Value->Value->Sem Value}{r:R2}{g:Int->Int->Int}
section
variable {X:Cx}{a b c:Expr}{ta tb tc:TE}{pos:Pos}
def DR (ha:PE X a ta)(hb:PE X b tb){R:V->V->Hp->Prop}(I:Inv X Y U H s)
  (h:ta U H λx H1=>tb U H1 λy H2=>R x y H2)
  (hf:∀ v u s2 x y H2,Inv X Y U H2 s2->RelV x v->RelV y u->R x y H2->wpAny (model X.prog X.w) X.A (f v u) Q X.xe s2):
  wpAny (model X.prog X.w) X.A (eval a X.env) (λv s₁=>wpAny (model X.prog X.w) X.A (eval b X.env) (λu s₂=>wpAny (model X.prog X.w) X.A (f v u) Q X.xe s₂) X.xe s₁) X.xe s:=by
 refine au (ha Y s U H _ I h) λv s1 ⟨x,H1,I1,r1,q1⟩=>?_
 refine au (hb Y s1 U H1 _ I1 q1) λu s2 ⟨y,H2,I2,r2,q2⟩=>?_
 exact hf v u s2 x y H2 I2 r1 r2 q2
def GP {op:Operator}(ho:cS X (binaryOp op) r)(ha:PE X a ta)(hb:PE X b tb):PE X (.BinOp a op b pos) (He r ta tb):=by
 intro Y s U H Q I h;exact wpAny_BinOp (DR ha hb I h λv u s2 x y H2 I2 rx ry q=>ho Y s2 U H2 x y v u Q I2 rx ry q)
def GR {op:UnaryOp}{r:V->Hp->VK->Prop}(ho:G6 X (unaryOp op) r)(ha:PE X a ta):PE X (.UnaryOp op a pos) (JN r ta):=by
 intro Y s U H Q I h;exact UnaryOp_ (au (ha Y s U H _ I h) λv s1 ⟨x,H1,I1,r1,q1⟩=>ho Y s1 U H1 x v Q I1 r1 q1)
def Ho {C:Int->Int->Prop}
  (rule:∀ (i j:Int) (t u:Tok) (s:Shared) (Q:JR) (E:JR),C i j->Q (.int (g i j) s.toks) { s with toks:=s.toks+1 }->wpAny (model X.prog X.w) X.A (f (.int i t) (.int j u)) Q E s):
  cS X f (rI C λi j=>.int (g i j)):=by
 intro Y s U H x y v u Q I rx ry h;obtain ⟨i,j,rfl,rfl,hc,q⟩:=h;obtain ⟨t,rfl⟩:=rx;obtain ⟨t',rfl⟩:=ry;exact rule i j t t' s _ _ hc ⟨.int (g i j),H,I.tok _,⟨_,rfl⟩,q⟩
def Fv 
  (rule:∀ (i j:Int) (t u:Tok) (s:Shared) (Q:JR) (E:JR),Q (.int (g i j) s.toks) { s with toks:=s.toks+1 }->wpAny (model X.prog X.w) X.A (f (.int i t) (.int j u)) Q E s):
  cS X f (yz λi j=>.int (g i j)):=by
 intro Y s U H x y v u Q I rx ry h;obtain ⟨i,j,rfl,rfl,q⟩:=h;obtain ⟨t,rfl⟩:=rx;obtain ⟨t',rfl⟩:=ry;exact rule i j t t' s _ _ ⟨.int (g i j),H,I.tok _,⟨_,rfl⟩,q⟩
def Ah {g:Int->Int->Bool}
  (rule:∀ (i j:Int) (t u:Tok) (s:Shared) (Q:JR) (E:JR),Q (.bool (g i j)) s->wpAny (model X.prog X.w) X.A (f (.int i t) (.int j u)) Q E s):
  cS X f (yz λi j=>.bl (g i j)):=by
 intro Y s U H x y v u Q I rx ry h;obtain ⟨i,j,rfl,rfl,q⟩:=h;obtain ⟨t,rfl⟩:=rx;obtain ⟨t',rfl⟩:=ry;exact rule i j t t' s _ _ ⟨.bl (g i j),H,I,rfl,q⟩
abbrev Hw (i j:Int):Prop:=0<j/\j<1073741824
abbrev ze (i j:Int):Prop:=0<=j/\j<=1000000/\i.natAbs<2 ^ 64
abbrev sJ (i j:Int):Prop:=(-(2 ^ 64)<i/\i<2 ^ 64)\/(-(2 ^ 64)<j/\j<2 ^ 64)
def sJ.ok {i j:Int}(h:sJ i j):IntMulOk i j:=by
 rcases h with ⟨h1,h2⟩|⟨h1,h2⟩
 ·exact .of_left (intBits_le_64 h1 h2)
 ·exact .of_right (intBits_le_64 h1 h2)
def C3:cS X (binaryOp .Add) (yz λi j=>.int (i+j)):=Fv λ_ _ _ _ _ _ _ q=>add_int q
def DL:cS X (binaryOp .Sub) (yz λi j=>.int (i-j)):=Fv λ_ _ _ _ _ _ _ q=>sub_int q
def EB:cS X (binaryOp .Mult) (rI sJ λi j=>.int (i*j)):=Ho λ_ _ _ _ _ _ _ hc q=>mul_int q hc.ok
def Ac:cS X (binaryOp .FloorDiv) (rI Hw λi j=>.int (i / j)):=Ho λi j _ _ _ _ _ hc q=>by
 have h1:(0:Int)<j:=hc.1;have h2:j<1073741824:=hc.2;exact floordiv_int nofun (by rw[Int.fdiv_eq_ediv_of_nonneg i nofun];exact q) (.inl (PyProof.noPylong_small nofun))
def Ea:cS X (binaryOp .Mod) (rI (λ_ j=>0<j) λi j=>.int (i % j)):=Ho λi j _ _ _ _ _ hc q=>by
 have h1:(0:Int)<j:=hc;exact mod_int' nofun (by rw[Int.fmod_eq_emod_of_nonneg i nofun];exact q)
def CS:cS X (binaryOp .Pow) (rI ze λi j=>.int (i ^ j.toNat)):=Ho λ_ _ _ _ _ _ _ hc q=>pow_int_small hc.1 hc.2.1 hc.2.2 q
def JA {f:Value->Sem Value}{g:Int->Int}
  (rule:∀ (i:Int) (t:Tok) (s:Shared) (Q:JR) (E:JR),Q (.int (g i) s.toks) { s with toks:=s.toks+1 }->wpAny (model X.prog X.w) X.A (f (.int i t)) Q E s):
  G6 X f (rU λi=>.int (g i)):=by
 intro Y s U H x v Q I rx h;obtain ⟨i,rfl,q⟩:=h;obtain ⟨t,rfl⟩:=rx;exact rule i t s _ _ ⟨.int (g i),H,I.tok _,⟨_,rfl⟩,q⟩
def EA:G6 X (unaryOp .USub) (rU λi=>.int (-i)):=JA λ_ _ _ _ _ q=>neg_int q
end
variable {op:CmpOp}
section
variable {X:Cx}{a b c:Expr}{ta tb tc:TE}{pos:Pos}
def xS {Q:VK}{k k':Bool}(I:Inv X Y U H s)(q:Q (.bl k) H)(e:k=k'):EP X Y U Q (.bool k') s:=by
 subst e;exact ⟨.bl k,H,I,rfl,q⟩
def E0:cS X (compareOp .Lt) (yz λi j=>.bl (decide (i<j))):=Ah λ_ _ _ _ _ _ _ q=>lt_int q
def F7:cS X (compareOp .LtE) (yz λi j=>.bl (decide (i<=j))):=Ah λ_ _ _ _ _ _ _ q=>le_int q
def G2:cS X (compareOp .Gt) (yz λi j=>.bl (decide (j<i))):=Ah λ_ _ _ _ _ _ _ q=>gt_int q
def EK:cS X (compareOp .GtE) (yz λi j=>.bl (decide (j<=i))):=Ah λ_ _ _ _ _ _ _ q=>ge_int q
def DA:cS X (compareOp .Is) (λx y H Q=>y=.non/\Q (.bl (decide (x=.non))) H):=by
 intro Y s U H x y v u Q I rx ry h;obtain ⟨rfl,q⟩:=h;cases ry;refine is_none_gen (xS I q ?_);cases x<;>first
  |(cases rx;rfl)
  |(obtain ⟨t,rfl⟩:=rx;rfl)
def Am:cS X (compareOp .IsNot) (λx y H Q=>y=.non/\Q (.bl (!decide (x=.non))) H):=by
 intro Y s U H x y v u Q I rx ry h;obtain ⟨rfl,q⟩:=h;cases ry;refine isnot_none_gen (xS I q ?_);cases x<;>first
  |(cases rx;rfl)
  |(obtain ⟨t,rfl⟩:=rx;rfl)
def yK (ho:cS X (compareOp op) r)(ha:PE X a ta)(hb:PE X b tb)(hm:behindInMarks op b=false):PE X (.Compare a [op] [b] pos) (He r ta tb):=by
 intro Y s U H Q I h;exact wpAny_Compare1 (DR ha hb I h λv u s2 x y H2 I2 rx ry q=>ho Y s2 U H2 x y v u Q I2 rx ry q) hm
abbrev Cc (t:TE):TT:=λU H Q=>t U H λx H'=>∃ k,x=.bl k/\Q k H'
def A7 (ho:cS X (compareOp op) r)(ha:PE X a ta)(hb:PE X b tb)(hm:behindInMarks op b=false):PT X (.Compare a [op] [b] pos) (Cc (He r ta tb)):=by
 intro Y s U H Q I h;refine wpAny_isTrue_Compare1 (au (ha Y s U H _ I h) λv s1 ⟨x,H1,I1,r1,q1⟩=>au (hb Y s1 U H1 _ I1 q1) λu s2 ⟨y,H2,I2,r2,q2⟩=>
  au (ho Y s2 U H2 x y v u _ I2 r1 r2 q2) λc s3 ⟨z,H3,I3,r3,k,e,q3⟩=>?_) hm
 subst e;cases r3;exact wpAny_truthy_bool ⟨H3,I3,q3⟩
abbrev xC (r r':R2)(ta tb tc:TE):TE:=λU H Q=>ta U H λx H1=>tb U H1 λy H2=>r x y H2 λz H3=>∃ k,z=.bl k/\
 (if k=true then tc U H3 λw' H4=>r' y w' H4 Q else Q (.bl false) H3)
def xU {op':CmpOp}{r':R2}(ho:cS X (compareOp op) r)(ho':cS X (compareOp op') r')(ha:PE X a ta)(hb:PE X b tb)(hc:PE X c tc)
  (hm:lastMarks [op,op'] [b,c]=false:=by with_unfolding_all rfl):PE X (.Compare a [op,op'] [b,c] pos) (xC r r' ta tb tc):=by
 intro Y s U H Q I h;refine Compare_chain (au (ha Y s U H _ I h) λv s1 ⟨x,H1,I1,r1,q1⟩=>chain_link (au (hb Y s1 U H1 _ I1 q1) λu s2 ⟨y,H2,I2,r2,q2⟩=>
  au (ho Y s2 U H2 x y v u _ I2 r1 r2 q2) λd s3 ⟨z,H3,I3,r3,k,e,q3⟩=>?_)) hm
 subst e;cases r3;refine wpAny_truthy_bool ?_;cases k with
 |false=>exact ite_ff ⟨.bl false,H3,I3,rfl,q3⟩
 |true=>exact ite_tt (chain_last (au (hc Y s3 U H3 _ I3 q3) λw' s4 ⟨z',H4,I4,r4,q4⟩=>ho' Y s4 U H4 y z' u w' Q I4 r2 r4 q4))
def vX {op':CmpOp}{r':R2}(ho:cS X (compareOp op) r)(ho':cS X (compareOp op') r')(ha:PE X a ta)(hb:PE X b tb)(hc:PE X c tc)
  (hm:lastMarks [op,op'] [b,c]=false:=by with_unfolding_all rfl):PT X (.Compare a [op,op'] [b,c] pos) (Cc (xC r r' ta tb tc)):=by
 intro Y s U H Q I h;refine isTrue_chain (au (ha Y s U H _ I h) λv s1 ⟨x,H1,I1,r1,q1⟩=>test_link (au (hb Y s1 U H1 _ I1 q1) λu s2 ⟨y,H2,I2,r2,q2⟩=>
  au (ho Y s2 U H2 x y v u _ I2 r1 r2 q2) λd s3 ⟨z,H3,I3,r3,k,e,q3⟩=>?_)) hm
 subst e;cases r3;refine wpAny_truthy_bool ?_;cases k with
 |false=>
  obtain ⟨k',e',q'⟩:=q3;cases e';exact ite_ff ⟨H3,I3,q'⟩
 |true=>
  refine ite_tt (test_last (au (hc Y s3 U H3 _ I3 q3) λw' s4 ⟨z',H4,I4,r4,q4⟩=>au (ho' Y s4 U H4 y z' u w' _ I4 r2 r4 q4) λd' s5 ⟨z2,H5,I5,r5,k2,e2,q5⟩=>?_));subst e2;cases r5;exact wpAny_truthy_bool ⟨H5,I5,q5⟩
abbrev AE (K:W.Frag)(x:V)(H:Hp)(k:Bool):Prop:=
 match x with
 | .non=>k=false
 | .bl b=>k=b
 | .int i=>k=(i != 0)
 | .str y=>y.length<=sizeLine/\k=((y.length:Int) != 0)
 | .byt y=>y.size<=sizeLine/\k=((y.size:Int) != 0)
 | .ref p=>(∃ xs,bg K H p xs/\k= !xs.isEmpty)\/(∃ xs,bc K H p xs/\k= !xs.isEmpty)\/∃ kvs,H p=some (.dK kvs)/\k= !kvs.isEmpty
 |_=>False
def pC {κ:Type}{kvs:List (κ×V)}{vs:List (κ×Value)}(r:KV kvs vs):(!vs.isEmpty)= !kvs.isEmpty:=by
 cases r<;>rfl
def jR {its:List Value}(r:Vals xs its):(!its.toArray.isEmpty)= !xs.isEmpty:=by
 cases r<;>simp
def gJ:(sizeLine:Nat)<2 ^ 63:=by rw[sizeLine_eq];decide
def DO:HW X (λx H Q=>∃ k,AE X.K x H k/\Q k H):=by
 intro Y s U H x v Q I rx h;obtain ⟨k,e,q⟩:=h;have hl:=gJ;have hs:sizeLine=16777216:=sizeLine_eq;cases x with
 |non=>
  cases rx;have e':k=false:=e;subst e';exact truthy_none ⟨H,I,q⟩
 |bl b=>
  cases rx;have e':k=b:=e;subst e';exact wpAny_truthy_bool ⟨H,I,q⟩
 |int i=>
  obtain ⟨t,rfl⟩:=rx;have e':k=(i != 0):=e;subst e';exact PySem.P.truthy_int ⟨H,I,q⟩
 |str y=>
  obtain ⟨t,rfl⟩:=rx;obtain ⟨hy,e'⟩:y.length<=sizeLine/\k=((y.length:Int) != 0):=e;subst e';exact PySem.P.truthy_str nofun ⟨H,I.tok _,q⟩
 |byt y=>
  obtain ⟨t,rfl⟩:=rx;obtain ⟨hy,e'⟩:y.size<=sizeLine/\k=((y.size:Int) != 0):=e;subst e';exact W.truthy_bytes nofun ⟨H,I.tok _,q⟩
 |ref p=>
  cases rx;have e':(∃ xs,bg X.K H p xs/\k= !xs.isEmpty)\/(∃ xs,bc X.K H p xs/\k= !xs.isEmpty)\/∃ kvs,H p=some (.dK kvs)/\k= !kvs.isEmpty:=e;rcases e' with ⟨xs,hx,e'⟩|⟨xs,hx,e'⟩|⟨kvs,hx,e'⟩
  ·subst e';obtain ⟨its,r,pl,hz⟩:=I.list hx;have hlen:=r.length;exact wpAny_truthy_list pl.isList (by simp only[size_toArray];omega) ⟨H,I.tok _,by rw[jR r];exact q⟩
  ·subst e';obtain ⟨its,r,pl,hz⟩:=I.tuple hx;have hlen:=r.length;exact truthy_tuple pl (by simp only[size_toArray];omega) ⟨H,I.tok _,by rw[jR r];exact q⟩
  ·subst e';obtain ⟨hz,hS,vs,r,m⟩:kvs.length<=sizeLine/\(p ==sysModules)=false/\∃ vs,KV kvs vs/\s.heap.DictOf (aE X.prog X.w) p vs:=I.hok p _ hx;have hlen:kvs.length=vs.length:=Paired.length r;exact wpAny_truthy_dict hS m nofun ⟨H,I.tok _,by rw[pC r];exact q⟩
 |_=>exact (show False from e).elim
def we (ha:PE X a ta)(he:∀ whole,isTrue a X.env whole=(do let v <-whole;standAt a.pos;holding [v] (truthy v))):
  PT X a (λU H Q=>ta U H λx H'=>∃ k,AE X.K x H' k/\Q k H'):=by
 intro Y s U H Q I h;exact isTrue_plain (au (ha Y s U H _ I h) λv s1 ⟨x,H1,I1,r1,q1⟩=>DO Y s1 U H1 x v Q I1 r1 q1) (he _)
def pQ:cS X (binaryOp .Add) (λx y H Q=>∃ i j,x=.str i/\y=.str j/\i.length+j.length<=sizeLine/\Q (.str (i++j)) H):=by
 intro Y s U H x y v u Q I rx ry h;obtain ⟨i,j,rfl,rfl,hz,q⟩:=h;obtain ⟨t,rfl⟩:=rx;obtain ⟨t',rfl⟩:=ry;exact add_str (λt' tk=>⟨.str (i++j),H,I.tok _,⟨_,rfl⟩,q⟩) hz
def vals1 {x:V}(r:Vals [x] us):∃ u,us=[u]/\RelV x u:=by
 cases r with
 |cons r1 r2=>cases r2;exact ⟨_,rfl,r1⟩
def vals2 {x y:V}(r:Vals [x,y] us):∃ u w',us=[u,w']/\RelV x u/\RelV y w':=by
 cases r with
 |cons r1 r2=>
  cases r2 with
  |cons r3 r4=>cases r4;exact ⟨_,_,rfl,r1,r3⟩
def ua (hc:X.calm=true):ck X (.builtin "max") (λxs H Q=>∃ i j,xs=[.int i,.int j]/\Q (.int (if j>i then j else i)) H):=by
 intro Y s U H xs us Q I r h;obtain ⟨i,j,rfl,q⟩:=h;obtain ⟨u,w',rfl,⟨t,rfl⟩,⟨t',rfl⟩⟩:=vals2 r;refine max_two_ints (I.ok.hd hc) λh' tk k=>⟨_,H,I.kept k,?_,q⟩
 by_cases hj:j>i
 ·rw[if_pos hj,if_pos hj];exact ⟨_,rfl⟩
 ·rw[if_neg hj,if_neg hj];exact ⟨_,rfl⟩
def ub (hc:X.calm=true):ck X (.builtin "min") (λxs H Q=>∃ i j,xs=[.int i,.int j]/\Q (.int (if j<i then j else i)) H):=by
 intro Y s U H xs us Q I r h;obtain ⟨i,j,rfl,q⟩:=h;obtain ⟨u,w',rfl,⟨t,rfl⟩,⟨t',rfl⟩⟩:=vals2 r;refine min_two_ints (I.ok.hd hc) λh' tk k=>⟨_,H,I.kept k,?_,q⟩
 by_cases hj:j<i
 ·rw[if_pos hj,if_pos hj];exact ⟨_,rfl⟩
 ·rw[if_neg hj,if_neg hj];exact ⟨_,rfl⟩
def tI:ck X (.type "int") (λxs H Q=>(∃ i,xs=[.int i]/\Q (.int i) H)\/∃ k,xs=[.bl k]/\Q (.int (if k then 1 else 0)) H):=by
 intro Y s U H xs us Q I r h;rcases h with ⟨i,rfl,q⟩|⟨k,rfl,q⟩
 ·obtain ⟨u,rfl,t,rfl⟩:=vals1 r;exact call_int_int ⟨.int i,H,I,⟨_,rfl⟩,q⟩
 ·obtain ⟨u,rfl,r1⟩:=vals1 r;cases r1;exact call_int_bool ⟨.int (if k then 1 else 0),H,I.tok _,⟨_,rfl⟩,q⟩
def lL:ck X (.type "str") (λxs H Q=>∃ i,xs=[.int i]/\i.natAbs.log2<1920/\Q (.str (toString i)) H):=by
 intro Y s U H xs us Q I r h;obtain ⟨i,rfl,hz,q⟩:=h;obtain ⟨u,rfl,t,rfl⟩:=vals1 r;exact PySem.P.str_of_int hz ⟨.str _,H,I.tok _,⟨_,rfl⟩,q⟩
abbrev GC (K:W.Frag)(x:V)(H:Hp)(n:Nat):Prop:=
 match x with
 | .str y=>y.length<=sizeLine/\n=y.length
 | .byt y=>y.size<=sizeLine/\n=y.size
 | .ref p=>(∃ xs,bg K H p xs/\n=xs.length)\/∃ xs,bc K H p xs/\n=xs.length
 |_=>False
def uS:ck X (.builtin "len") (λxs H Q=>∃ x n,xs=[x]/\GC X.K x H n/\Q (.int n) H):=by
 intro Y s U H xs us Q I r h;obtain ⟨x,n,rfl,e,q⟩:=h;obtain ⟨u,rfl,rx⟩:=vals1 r;have hl:=gJ;have hs:sizeLine=16777216:=sizeLine_eq;cases x with
 |str y=>
  obtain ⟨t,rfl⟩:=rx;obtain ⟨hy,e'⟩:y.length<=sizeLine/\n=y.length:=e;subst e';exact len_str nofun ⟨.int _,H,I.tok _,⟨_,rfl⟩,q⟩
 |byt y=>
  obtain ⟨t,rfl⟩:=rx;obtain ⟨hy,e'⟩:y.size<=sizeLine/\n=y.size:=e;subst e';exact W.len_bytes nofun ⟨.int _,H,I.tok _,⟨_,rfl⟩,q⟩
 |ref p=>
  cases rx;have e':(∃ xs,bg X.K H p xs/\n=xs.length)\/∃ xs,bc X.K H p xs/\n=xs.length:=e;rcases e' with ⟨xs,hx,e'⟩|⟨xs,hx,e'⟩
  ·subst e';obtain ⟨its,r',pl,hz⟩:=I.list hx;have hlen:=r'.length;exact Calls.call_len_list pl.isList (by simp only[size_toArray];omega) ⟨.int xs.length,H,I.tok _,⟨_,by simp only[size_toArray];rw[hlen]⟩,q⟩
  ·subst e';obtain ⟨its,r',pl,hz⟩:=I.tuple hx;have hlen:=r'.length;exact len_tuple pl (by simp only[size_toArray];omega) ⟨.int xs.length,H,I.tok _,⟨_,by simp only[size_toArray];rw[hlen]⟩,q⟩
 |_=>exact (show False from e).elim
end
structure qJ (h:Heap) (x dx C:Addr) (mA:JT):Prop where
 obj:h.get? x=some (W.instObj C dx)
 ns:h.Ns1 dx mA
 ne:dx≠x
variable {mA:JT}
def gT {dx:Addr}(n:h.Ns1 dx mA):∃ od,h.get? dx=some od/\∀ name,W.lookIn name od=some (mA name):=by
 obtain ⟨o,es,ep,ho,hd,hk,_,hm⟩:=n;refine ⟨o,ho,λname=>?_⟩;have e:=hm name;unfold nsFind findBy at e;rw[<-Array.find?_toList] at e;unfold W.lookIn;rw[hd];dsimp only
 split
 ·rename_i y q;rw[q] at e;exact congrArg some e
 ·rename_i q;rw[q] at e;have a:es.toList.any (·.refKey)=false:=by
   rw[any_eq_false];intro y hy;obtain ⟨z,t,hkey⟩:=hk y (Array.mem_toList_iff.mp hy);simp[DictEntry.refKey,hkey]
  have a':¬ es.toList.any (·.refKey)=true:=by rw[a];exact Bool.false_ne_true
  rw[if_neg a'];exact congrArg some e
variable {C:Addr}
def qJ.look {x dx:Addr}(I:qJ h x dx C mA):∃ od,W.InstAt h x (W.instObj C dx) C (some od)/\∀ name,W.lookIn name od=some (mA name):=
 let ⟨od,ho,hl⟩:=gT I.ns
 ⟨od,⟨I.obj,rfl,rfl,ho⟩,hl⟩
variable {pl:Sem Bool}{kw:List (Str×Value)}
section
variable {prog:Program}{w:World}{A:Around}{E:JR}{s:Shared}{K:W.Frag}{x dx C f:Addr}{mA:JT}{name:Str}{v:Value}
def get_map {expr:Bool}(X:K.In s.heap)(I:qJ s.heap x dx C mA)(hg:W.plainGet K C name=true)(hh:W.hasDictIn K C=true)
  (ha:W.findIn K (.ref C) name=some none) (hv:mA name=some v) (hv':W.handedIn v=true) (h:Q v { s with toks:=s.toks+1 }):
  wpAny (model prog w) A (getAttr (.ref x) name expr) Q E s:=by
 obtain ⟨od,J,hl⟩:=I.look;exact W.get_value X J (W.plainGet_of hg).1 (W.findObj_own hh ha rfl (by rw[hl,hv])) hv' h
def wy {Q:Value×List Value->Shared->Prop}(X:K.In s.heap)(I:qJ s.heap x dx C mA)(hg:W.plainGet K C name=true)
  (hf:W.findIn K (.ref C) name=some (some (.ref f))) (ht:W.isFn K (.ref f)=true) (hv:mA name=none) (h:Q (.ref f,[.ref x]) s):
  wpAny (model prog w) A (getMethod (.ref x) name pl) Q E s:=by
 obtain ⟨od,J,hl⟩:=I.look;exact W.method_fn X J (W.plainGet_of hg).1 (W.plainGet_of hg).2 hf (beq_iff_eq.mp ht) (by show (W.lookIn name od).map (·.isSome)=some false;rw[hl,hv];rfl) h
def yQ {ns:List Str}{Q:JQ}(X:K.In s.heap)(I:qJ s.heap x dx C mA)
  (hs:W.findIn K (.ref C) "__setattr__"=some (some (.builtin "object.__setattr__"))) (hp:W.plainOver K C=true) (ht:W.takerIn K C name=some none) (hh:W.hasDictIn K C=true)
  (hw:PySem.Within mA ns) (hsz:ns.length<=sizeLine)
  (h:∀ h',qJ h' x dx C (λy=>if y=name then some v else mA y)->Heap.SameBut dx s.heap h'->Q () { s with heap:=h',toks:=s.toks+2 }):
  wpAny (model prog w) A (setAttr (.ref x) name v) Q E s:=by
 obtain ⟨od,J,hl⟩:=I.look;refine W.set_plain X J hs (W.osa_open (s:={ s with toks:=s.toks+1 }) (r:=none) X J hp ht λb=>?_);obtain ⟨cd,hc,hd'⟩:=W.any_some hh;have hx:s.heap.get? x=some ⟨.ref C,some dx,.plain,#[]⟩:=I.obj;refine wpAny_bind (wpAny_pure (wpAny_bind (wpAny_bind (wpAny_loadPart hx (wpAny_bind (W.Looks.here (s:={ s with toks:=s.toks+1 }) (W.looks_clsIn X hc) ?_))))));rw[hd'];refine wpAny_pure (a:=some dx) (wpAny_bind (wpAny_pure (wpAny_bind ?_)));refine wpAny_nsSet1 (s:={ s with toks:=s.toks+1 }) I.ns λh' hn2 hs2=>?_
 obtain ⟨oD,esD,epD,hoD,hdD,hcD⟩:=hn2.count (PySem.Within.cons name v hw);refine wpAny_bind (wpAny_lookBehind hoD (by rw[hdD];exact pastItsLine_dict (Nat.le_trans hcD (by rw[length_cons];omega))) ?_);exact wpAny_pure (h _ ⟨(hs2.2 _ (Ne.symm I.ne)).trans I.obj,hn2,I.ne⟩ hs2)
def vy {R:Result->Shared->Prop}{vs:List Value}(X:K.In s.heap)(hm:W.makesIn K C=true)
  (hi:W.findIn K (.ref C) "__init__"=some (some (.ref f))) (hf:W.typeIn K (.ref f)=some (.type "function"))
  (h:codeAny (model prog w) (A.under (.builtin "type.__call__" ⟨.ref C::vs,kw⟩)) (.call (.ref f) ⟨.ref (s.heap.objs.size+1)::vs,kw⟩) (W.InitBack (s.heap.objs.size+1) R)
   { s with heap:=(s.heap.push W.emptyDict).push (W.instObj C s.heap.objs.size) }):
  codeAny (model prog w) A (.call (.ref C) ⟨vs,kw⟩) R s:=by
 obtain ⟨hh,g,d,t,os⟩:=s;exact W.make_core (W.makes_of X hm) (W.looks_findIn X hi) (λself=>W.bind_fn X self hf) (.inl rfl) h
end
abbrev cu (f:Str)(v:V):List (Str×V)->List (Str×V)
 | []=>[(f,v)]
 |(g,x)::r=>if g=f then (g,v)::r else (g,x)::cu f v r
def dF (f g:Str)(v:V):∀ fs:List (Str×V),(cu f v fs).lookup g=if g=f then some v else fs.lookup g
 | []=>by
  show List.lookup g [(f,v)]=_
  by_cases h:g=f
  ·have hb:(g ==f)=true:=beq_iff_eq.mpr h;simp only[List.lookup,hb,if_pos h]
  ·have hb:(g ==f)=false:=beq_eq_false_iff_ne.mpr h;simp only[List.lookup,hb,if_neg h]
 |(k,x)::r=>by
  have ih:=dF f g v r;rw[show cu f v ((k,x)::r)=(if k=f then (k,v)::r else (k,x)::cu f v r) from rfl]
  by_cases hk:k=f
  ·rw[if_pos hk]
   by_cases h:g=k
   ·have hb:(g ==k)=true:=beq_iff_eq.mpr h;simp only[List.lookup,hb,if_pos (h.trans hk)]
   ·have hb:(g ==k)=false:=beq_eq_false_iff_ne.mpr h;simp only[List.lookup,hb,if_neg (λe:g=f=>h (e.trans hk.symm))]
  ·rw[if_neg hk]
   by_cases h:g=k
   ·have hb:(g ==k)=true:=beq_iff_eq.mpr h;simp only[List.lookup,hb,if_neg (λe:g=f=>hk (h.symm.trans e))]
   ·have hb:(g ==k)=false:=beq_eq_false_iff_ne.mpr h;simp only[List.lookup,hb];exact ih
def cL (f:Str)(v:V):∀ fs:List (Str×V),f ∈ (cu f v fs).map (·.1)/\∀ g,g ∈ fs.map (·.1)->g ∈ (cu f v fs).map (·.1)
 | []=>⟨by simp[cu],λg h=>by simp at h⟩
 |(k,x)::r=>by
  obtain ⟨i1,i2⟩:=cL f v r;rw[show cu f v ((k,x)::r)=(if k=f then (k,v)::r else (k,x)::cu f v r) from rfl]
  by_cases hk:k=f
  ·rw[if_pos hk];subst hk;exact ⟨by simp,λg h=>by simpa using h⟩
  ·rw[if_neg hk];refine ⟨?_,λg h=>?_⟩
   ·rw[map_cons];exact mem_cons_of_mem _ i1
   ·rw[map_cons] at h⊢;rcases mem_cons.mp h with e|e
    ·exact mem_cons.mpr (.inl e)
    ·exact mem_cons_of_mem _ (i2 g e)
def d9 (f:Str)(v:V):∀ fs:List (Str×V),(cu f v fs).length<=fs.length+1
 | []=>by simp[cu]
 |(k,x)::r=>by
  have ih:=d9 f v r;rw[show cu f v ((k,x)::r)=(if k=f then (k,v)::r else (k,x)::cu f v r) from rfl]
  by_cases hk:k=f
  ·rw[if_pos hk,length_cons,length_cons];omega
  ·rw[if_neg hk,length_cons,length_cons];omega
def cR.some_of {o:Option Value}(r:cR (some v) o):∃ u,o=some u/\RelV v u:=by
 cases o with
 |none=>exact (show False from r).elim
 |some u=>exact ⟨u,rfl,r⟩
def cR.none_of {o:Option Value}(r:cR none o):o=none:=by
 cases o with
 |none=>rfl
 |some u=>exact (show False from r).elim
def kE (r:RelV v u):W.handedIn u=true:=by
 cases v with
 |non=>cases (show u=Value.none from r);rfl
 |bl b=>cases (show u=Value.bool b from r);rfl
 |int i=>obtain ⟨t,e⟩:=(show ∃ t,u=Value.int i t from r);cases e;rfl
 |str x=>obtain ⟨t,e⟩:=(show ∃ t,u=Value.str x t from r);cases e;rfl
 |byt b=>obtain ⟨t,e⟩:=(show ∃ t,u=Value.bytes b t from r);cases e;rfl
 |flt b=>obtain ⟨t,e⟩:=(show ∃ t,u=Value.float b t from r);cases e;rfl
 |ref a=>cases (show u=Value.ref a from r);rfl
 |ty n=>cases (show u=Value.type n from r);rfl
section
variable {P:Program}{w:World}{H H':Hp}{h h':Heap}{a C dx:Addr}{fs fs':List (Str×V)}
def el (hok:fv P w H h)(e:H a=some (.ins C dx fs)):∃ mA,qJ h a dx C mA/\(∀ f,cR (fs.lookup f) (mA f))/\PySem.Within mA (fs.map (·.1))/\fs.length<=1000/\H dx=some (.own a):=by
 obtain ⟨d,z,ne,ob,mA,n,r,q⟩:=(show ax P w H h a (.ins C dx fs) from hok a _ e);exact ⟨mA,⟨ob,n,ne⟩,r,q,z,d⟩
end
structure Ao (K:W.Frag) (C:Addr):Prop where
 pg:W.plainGet K C Str.empty=true
 hd:W.hasDictIn K C=true
 po:W.plainOver K C=true
 sa:W.findIn K (.ref C) "__setattr__"=some (some (.builtin "object.__setattr__"))
def Ao.get (c:Ao K C)(f:Str):W.plainGet K C f=true:=c.pg
abbrev dJ (K:W.Frag)(C:Addr)(f:Str):Prop:=W.findIn K (.ref C) f=some none
def dJ.Fq {f:Str}(n:dJ K C f):W.takerIn K C f=some none:=by
 unfold W.takerIn;rw[show W.findIn K (.ref C) f=some none from n]
 rfl
structure Meth (K:W.Frag) (C:Addr) (m:Str) (f:Addr):Prop where
 at_:W.findIn K (.ref C) m=some (some (.ref f))
 fn:W.isFn K (.ref f)=true
 kp:W.keepIn K (.ref f)=true
section
variable {X:Cx}{Y:JS}{U:St}{H:Hp}{s:Shared}{a C dx:Addr}{fs:List (Str×V)}{f:Str}{v:V}{A:Around}{E:JR}
def qG {b:Bool}(I:Inv X Y U H s)(e:H a=some (.ins C dx fs))(c:Ao X.K C)(n:dJ X.K C f)(l:fs.lookup f=some v)
  (h:∀ u s',Inv X Y U H s'->RelV v u->Q u s'):wpAny (model X.prog X.w) A (getAttr (.ref a) f b) Q E s:=by
 obtain ⟨mA,O,r,_,_,_⟩:=el I.hok e;obtain ⟨u,hu,ru⟩:=cR.some_of (v:=v) (o:=mA f) (by rw[<-l];exact r f);exact get_map I.bG O (c.get f) c.hd n hu (kE ru) (h u _ (I.tok _) ru)
def qk {m:Str}{g:Addr}{Q:Value×List Value->Shared->Prop}(I:Inv X Y U H s)(e:H a=some (.ins C dx fs))(c:Ao X.K C)(k:Meth X.K C m g)(l:fs.lookup m=none)
  (h:Q (.ref g,[.ref a]) s):wpAny (model X.prog X.w) A (getMethod (.ref a) m pl) Q E s:=by
 obtain ⟨mA,O,r,_,_,_⟩:=el I.hok e;have hn:mA m=none:=cR.none_of (by rw[<-l];exact r m);exact wy I.bG O (c.get m) k.at_ k.fn hn h
def qF {y:V}{Q:JQ}(I:Inv X Y U H s)(e:H a=some (.ins C dx fs))(c:Ao X.K C)(n:dJ X.K C f)(hl:fs.length<1000)(ry:RelV y u)
  (h:∀ s',Inv X Y U (upd H a (.ins C dx (cu f y fs))) s'->Q () s'):wpAny (model X.prog X.w) A (setAttr (.ref a) f u) Q E s:=by
 obtain ⟨mA,O,r,wi,_,ho⟩:=el I.hok e;have hz:(fs.map (·.1)).length<=sizeLine:=by rw[length_map,sizeLine_eq];omega
 refine yQ I.bG O c.sa c.po n.Fq c.hd wi hz λh' O' sb=>h _ ?_
 have hd:∃ o,h'.get? dx=some o:=let ⟨o,_,_,e',_⟩:=O'.ns;⟨o,e'⟩;refine I.write (x:=a) (e:=dx) (by rw[e];exact True.intro) (.inr ho) (λb q hb z=>(sb.2 b hb).trans z) hd ?_;refine ⟨by rw[af O.ne];exact ho,?_,O.ne,O'.obj,_,O'.ns,λg=>?_,λg hg=>?_⟩
 ·have:=d9 f y fs;omega
 ·show cR ((cu f y fs).lookup g) (if g=f then some u else mA g);rw[dF]
  by_cases q:g=f
  ·rw[if_pos q,if_pos q];exact ry
  ·rw[if_neg q,if_neg q];exact r g
 ·by_cases q:g=f
  ·rw[q];exact (cL f y fs).1
  ·refine (cL f y fs).2 g (wi g λz=>hg ?_);show (if g=f then some u else mA g)=none;rw[if_neg q];exact z
def Inv.made (I:Inv X Y U H s):Inv X Y U (upd (upd H s.heap.objs.size (.own (s.heap.objs.size+1))) (s.heap.objs.size+1) (.ins C s.heap.objs.size []))
  { s with heap:=(s.heap.push W.emptyDict).push (W.instObj C s.heap.objs.size) }:=by
 have e1:(s.heap.push W.emptyDict).get? s.heap.objs.size=some W.emptyDict:=Heap.get?_push_size s.heap rfl;have e2:((s.heap.push W.emptyDict).push (W.instObj C s.heap.objs.size)).get? (s.heap.objs.size+1)=some (W.instObj C s.heap.objs.size):=by
  have:=Heap.get?_push_size (s.heap.push W.emptyDict) (o:=W.instObj C s.heap.objs.size) rfl
  rwa [Heap.size_push] at this
 have e3:(s.heap.push W.emptyDict).Ns s.heap.objs.size (λ_=>none):=⟨W.emptyDict,#[],_,e1,rfl,(λe he=>absurd he (by simp)),λ_=>rfl⟩;have I1:=I.laid (a:=s.heap.objs.size) (o:=.own (s.heap.objs.size+1)) (h':=s.heap.push W.emptyDict) (t':=s.toks) (λb u q=>Heap.get?_push_of_some _ q) (Nat.le_refl _) ⟨_,e1⟩;refine I1.laid (a:=s.heap.objs.size+1) (o:=.ins C s.heap.objs.size []) (t':=s.toks) (λb u q=>Heap.get?_push_of_some _ q) (Nat.le_of_eq (Heap.size_push _ _)) ?_;have ne:s.heap.objs.size≠s.heap.objs.size+1:=Nat.ne_of_lt (Nat.lt_succ_self _);refine ⟨by rw[af ne,aq],Nat.zero_le _,ne,e2,λ_=>none,(Heap.Ns1.of_empty e3).at λo q=>Heap.get?_push_of_some _ q,λ_=>True.intro,λy hy=>absurd rfl hy⟩
def zU {prog:Program}{env:Env}(hb:attributeBase e f env (eval e env)=eval e env)
  (h:wpAny (model prog w) A (eval e env) (λo s₁=>wpAny (model prog w) A (getAttr o f true) Q E s₁) E s):wpAny (model prog w) A (eval (.Attribute e f pos) env) Q E s:=
 Attribute_any_ h (by rw[arm_eval_Attribute,hb])
end
section
variable {X:Cx}{o e value:Expr}{f:Str}{pos pos' tpos:Pos}{ta tv:TE}
end
section
variable {X:Cx}{Y:JS}{U:St}{H:Hp}{s:Shared}{A:Around}{E:JR}{Q:JR}{c:Value}{b:Bool}
inductive f7 (K:W.Frag) (H:Hp):V->Value->Prop where
 |non:f7 K H .non (.type "NoneType")
 |bl (x:Bool):f7 K H (.bl x) (.type "bool")
 |int (i:Int):f7 K H (.int i) (.type "int")
 |str (x:Str):f7 K H (.str x) (.type "str")
 |flt (x:UInt64):f7 K H (.flt x) (.type "float")
 |lst {a:Addr}{xs:List V}(e:H a=some (.lst xs)):f7 K H (.ref a) (.type "list")
 |frz {a:Addr}{o:Obj}{xs:List V}(e:H a=some (.frz o (.lst xs))):f7 K H (.ref a) (.type "list")
 |tup {a:Addr}{xs:List V}(e:H a=some (.tup xs)):f7 K H (.ref a) (.type "tuple")
 |dK {a:Addr}{kvs:List (Key×V)}(e:H a=some (.dK kvs)):f7 K H (.ref a) (.type "dict")
 |dT {a:Addr}{kvs:List (List Key×V)}(e:H a=some (.dT kvs)):f7 K H (.ref a) (.type "dict")
 |ins {a C dx:Addr}{fs:List (Str×V)}(e:H a=some (.ins C dx fs)) (cl:Ao K C) (ha:W.findIn K (.ref C) "__class__"=some (some (.builtin "object.__class__")))
   (hn:W.specialIn K (.builtin "object.__class__") "__get__"=some (some (.builtin "getset_descriptor.__get__"))) (htk:W.takesIn K (.builtin "object.__class__")=some true)
   (hm:W.mroIn K C (.type "object")=some true):f7 K H (.ref a) (.ref C)
def gP {x:V}{t:Value}(I:Inv X Y U H s)(rx:RelV x u)(ty:f7 X.K H x t)(e:W.kitOne X.K t c=some b)(h:∀ tk,Q (.bool b) { s with toks:=tk }):
  wpAny (model X.prog X.w) A (call (.builtin "isinstance") [u,c]) Q E s:=by
 cases ty with
 |non=>cases (show u=Value.none from rx);exact W.kia_one W.kitx_none I.bG True.intro e (λz=>nomatch z) h
 |bl y=>cases (show u=Value.bool y from rx);exact W.kia_one W.kitx_bool I.bG True.intro e (λz=>nomatch z) h
 |int i=>obtain ⟨t,q⟩:=(show ∃ t,u=Value.int i t from rx);cases q;exact W.kia_one W.kitx_int I.bG True.intro e (λz=>nomatch z) h
 |str y=>obtain ⟨t,q⟩:=(show ∃ t,u=Value.str y t from rx);cases q;exact W.kia_one W.kitx_str I.bG True.intro e (λz=>nomatch z) h
 |flt y=>obtain ⟨t,q⟩:=(show ∃ t,u=Value.float y t from rx);cases q;exact W.kia_one W.kitx_float I.bG True.intro e (λz=>nomatch z) h
 | @lst a xs ea=>
  cases (show u=Value.ref a from rx);obtain ⟨_,_,n,_,h1⟩:=(show ax X.prog X.w H s.heap a (.lst xs) from I.hok a _ ea);exact W.kia_one W.kitx_list I.bG ⟨_,h1,rfl⟩ e (λz=>nomatch z) h
 | @frz a ob xs ea=>
  cases (show u=Value.ref a from rx);obtain ⟨_,_,_,n,_,h1⟩:=(show ax X.prog X.w H s.heap a (.frz ob (.lst xs)) from I.hok a _ ea);exact W.kia_one W.kitx_list I.bG ⟨_,h1,rfl⟩ e (λz=>nomatch z) h
 | @tup a xs ea=>
  cases (show u=Value.ref a from rx);obtain ⟨_,_,_,p⟩:=(show ax X.prog X.w H s.heap a (.tup xs) from I.hok a _ ea);obtain ⟨o,h1,h2,_⟩:=p;exact W.kia_one W.kitx_tuple I.bG ⟨o,h1,h2⟩ e (λz=>nomatch z) h
 | @dK a kvs ea=>
  cases (show u=Value.ref a from rx);obtain ⟨_,_,vs,_,p⟩:=(show ax X.prog X.w H s.heap a (.dK kvs) from I.hok a _ ea);obtain ⟨o,es,ep,h1,h2,_⟩:=p;exact W.kia_one W.kitx_dict I.bG ⟨o,h1,h2.1⟩ e (λz=>nomatch z) h
 | @dT a kvs ea=>
  cases (show u=Value.ref a from rx);obtain ⟨_,_,xs,_,o,es,ep,h1,h2,_⟩:=(show ax X.prog X.w H s.heap a (.dT kvs) from I.hok a _ ea);exact W.kia_one W.kitx_dict I.bG ⟨o,h1,h2.1⟩ e (λz=>nomatch z) h
 | @ins a C dx fs ea cl ha hn htk hm=>
  cases (show u=Value.ref a from rx);obtain ⟨mA,O,_⟩:=el I.hok ea;obtain ⟨od,J,_⟩:=O.look;exact W.kia_one (W.kitx_own (cl.get _) cl.hd ha hn htk hm) I.bG J e (λz=>nomatch z) h
end
structure bC (k:Nat) (A:Around):Prop where
 hd:A.handled=none
 dp:A.depth+3*k+5<recursionLimit
 un:A.units+16*k+200<cLine
def bC.mono {j:Nat}(r:bC k A)(h:j<=k):bC j A:=⟨r.hd,by have:=r.dp;omega,by have:=r.un;omega⟩
def bC.deeper (r:bC (k+1) A)(env:Env):bC k (A.deeper env):=
 ⟨r.hd,by have:=r.dp;show A.depth+1+3*k+5<_;omega,by have:=r.un;show A.units+3+16*k+200<_;omega⟩
def pW:(A.under (.builtin "type.__call__" ⟨.ref C::us,kw⟩)).depth=A.depth+1:=by
 first|rfl|simp[Around.under,Code.weight,Code.isCreation,Code.isGuard,Code.isCaller,Code.frames,Code.isFrame,guardIds]
def qi:(A.under (.builtin "type.__call__" ⟨.ref C::us,kw⟩)).units=A.units+1:=by
 first|rfl|simp[Around.under,Code.cUnits,Code.frames,Code.isFrame]
def bC.make (r:bC (k+1) A)(C:Addr)(us:List Value)(kw:List (Str×Value)):bC k (A.under (.builtin "type.__call__" ⟨.ref C::us,kw⟩)):=
 ⟨r.hd,by have:=r.dp;rw[pW];omega,by have:=r.un;rw[qi];omega⟩
def bC.depth (r:bC k A):A.depth<recursionLimit:=by have:=r.dp;omega
abbrev yB:TA:=λ_ H Q=>Q [] H
abbrev B2 (ta:TE)(tr:TA):TA:=λU H Q=>ta U H λx H1=>tr U H1 λxs H2=>Q (x::xs) H2
section
variable {X:Cx}{e:Expr}{es:List Expr}{te:TE}{t:TA}{pos:Pos}
def cI:PA X [] yB:=λ_ _ _ _ H Q I h=>Calls.spliced_nil ⟨[],H,I,.nil,h⟩
def zb (ha:PE X e te)(hr:PA X es t)(hs:starEach (e::es) X.env=(false,eval e X.env)::starEach es X.env:=by rfl):PA X (e::es) (B2 te t):=by
 intro pos Y s U H Q I h;rw[hs];show wpAny _ _ (spliced ((false,eval e X.env)::backTo pos (starEach es X.env))) _ _ s;refine Calls.spliced_cons (au (ha Y s U H _ I h) λu s1 ⟨x,H1,I1,r1,q1⟩=>?_);exact au (hr pos Y s1 U H1 _ I1 q1) λus s2 ⟨xs,H2,I2,r2,q2⟩=>⟨x::xs,H2,I2,.cons r1 r2,q2⟩
abbrev Ik (t:TA):TE:=λU H Q=>t U H λxs H1=>xs.length<=sizeLine/\∀ p,H1 p=none->Q (.ref p) (upd H1 p (.tup xs))
abbrev Ia (t:TA):TE:=λU H Q=>t U H λxs H1=>xs.length<=sizeLine/\∀ p,H1 p=none->Q (.ref p) (upd H1 p (.lst xs))
def xN {x1} (h:PA X es t):PE X (.Tuple es x1 pos) (Ik t):=by
 intro Y s U H Q I hq;refine wpAny_Tuple_spliced (au (h pos Y s U H _ I hq) λus s1 ⟨xs,H1,I1,r,z,q⟩=>⟨by rw[<-r.length];exact z,?_⟩);have hf:H1 s1.heap.objs.size=none:=I1.hok.fresh (Nat.le_refl _);refine ⟨.ref s1.heap.objs.size,upd H1 s1.heap.objs.size (.tup xs),I1.laid (t':=s1.toks) (λb u e=>Heap.get?_push_of_some _ e) (Nat.le_refl _) ?_,rfl,q _ hf⟩;exact ⟨z,us,r,⟨_,Heap.get?_push_size _ rfl,rfl,_,rfl⟩⟩
def CK (h:PA X es t):PE X (.List es pos) (Ia t):=by
 intro Y s U H Q I hq;refine wpAny_List_spliced (au (h pos Y s U H _ I hq) λus s1 ⟨xs,H1,I1,r,z,q⟩=>⟨by rw[<-r.length];exact z,?_⟩);have hf:H1 s1.heap.objs.size=none:=I1.hok.fresh (Nat.le_refl _);refine ⟨.ref s1.heap.objs.size,upd H1 s1.heap.objs.size (.lst xs),I1.laid (t':=s1.toks) (λb u e=>Heap.get?_push_of_some _ e) (Nat.le_refl _) ?_,rfl,q _ hf⟩;exact ⟨z,us,0,r,Heap.get?_push_size _ rfl⟩
end
@[reducible]def Sp:=List V->Hp->VK->XK->Prop
@[reducible]def rz:=List Env->Hp->Shared->XK->Value->Shared->Prop
structure ql (P:Program) (w:World) (K:W.Frag) (mg:JT) (base:Heap) (A:Around) (outer:List Env) (s:Shared) (H:Hp):Prop where
 frames:A.frames=some outer
 mod:Mod K mg base
 bs:∀ b o,base.get? b=some o->s.heap.get? b=some o/\H b=none
 bsz:base.objs.size<=s.heap.objs.size
 iB:s.heap.FunFrames base outer
 frf:∀ b ∈ k9 outer,H b=none
 hok:fv P w H s.heap
 bare:AllBare s.gens
abbrev CE (outer:List Env)(P:Program)(w:World)(H:Hp)(s:Shared)(Q:VK)(u:Value)(s':Shared):Prop:=
 ∃ v H',s'.os=s.os/\AllBare s'.gens/\Un (k9 outer) [] H H' s.heap s'.heap/\fv P w H' s'.heap/\RelV v u/\Q v H'
abbrev CR (CX:rz)(outer:List Env)(P:Program)(w:World)(H:Hp)(s:Shared)(Q:VK)(E:XK)(r:Result)(s':Shared):Prop:=
 match r with
 | .ok (.ret u)=>CE outer P w H s Q u s'
 | .ok _=>False
 | .error e=>CX outer H s E e s'
structure cU (P:Program) (w:World) (K:W.Frag) (mg:JT) (base:Heap) (CX:rz) (k:Nat) (f:Addr) (fd:FuncData) (ps:List Str) (sp:Sp):Prop where
 len:∀ vs H Q E,sp vs H Q E->vs.length=ps.length
 run:∀ (A:Around) (outer:List Env) (s:Shared) (H:Hp) (args:Args) (us:List Value) (vs:List V) (Q:VK) (E:XK),bC k A->ql P w K mg base A outer s H->BindsTo s fd args (ps.zip us)->Vals vs us->sp vs H Q E->
  codeAny (model P w) A (.call (.ref f) args) (CR CX outer P w H s Q E) s
variable {mg:JT}{base:Heap}{CX:rz}{fd:FuncData}{ps:List Str}
def cU.imp {f:Addr}{sp sp':Sp}(F:cU P w K mg base CX k f fd ps sp)
  (h:∀ vs H Q E,sp' vs H Q E->sp vs H Q E):cU P w K mg base CX k f fd ps sp':=
 ⟨λvs H Q E q=>F.len vs H Q E (h _ _ _ _ q),λA outer s H args us vs Q E hr he hb hv hs=>F.run A outer s H args us vs Q E hr he hb hv (h _ _ _ _ hs)⟩
variable {outer:List Env}
def ql.make (e:ql P w K mg base A outer s H)(C:Addr)(us:List Value)(kw:List (Str×Value)):
  ql P w K mg base (A.under (.builtin "type.__call__" ⟨.ref C::us,kw⟩)) outer s H:=⟨by first|exact e.frames|(simpa [Around.under,Code.envs,Code.isFrame,pushEnvs] using e.frames),e.mod,e.bs,e.bsz,e.iB,e.frf,e.hok,e.bare⟩
section
variable {X:Cx}{Y:JS}{U:St}{H:Hp}{s s':Shared}
def Inv.gF (I:Inv X Y U H s):ql X.prog X.w X.K X.mg X.base X.A X.stack s H:=
 ⟨I.ok.frames,I.ok.mod,I.bs,Nat.le_trans I.ok.bsz I.sz,I.stack,I.lY,I.hok,I.bare⟩
def Inv.after {Q:VK}(I:Inv X Y U H s)(h:CE X.stack X.prog X.w H s Q u s'):EP X Y U Q u s':=by
 obtain ⟨v,H',os,bare,un,hok,r,q⟩:=h;obtain ⟨hh,g,d,t,os'⟩:=s';obtain rfl:os'=s.os:=os;exact ⟨v,H',I.call (h':=hh) (g':=g) (d':=d) (t':=t) (ch:=[]) un hok bare (λb z=>absurd z (by simp)),r,q⟩
end
abbrev BN (sp:Sp)(dvs:List V)(E:St->XK)(t:TA):TE:=λU H Q=>t U H λvs H1=>sp (vs++dvs) H1 Q (E U)
abbrev Bl (C:Addr)(sp:Sp)(dvs:List V)(E:St->XK)(t:TA):TE:=λU H Q=>t U H λvs H1=>∀ x dx,H1 x=none->H1 dx=none->dx≠x->
 sp (.ref x::(vs++dvs)) (upd (upd H1 dx (.own x)) x (.ins C dx [])) (λv H2=>v=.non/\Q (.ref x) H2) (E U)
abbrev Binds (K:W.Frag)(fd:FuncData)(ps:List Str)(ds:List Value):Prop:=
 ∀ (s:Shared) (us:List Value),K.In s.heap->(us++ds).length=ps.length->BindsTo s fd ⟨us,[]⟩ (ps.zip (us++ds))
def Binds.all (h:∀ us:List Value,us.length=ps.length->bindArgs fd ⟨us,[]⟩=pure (ps.zip us)):Binds K fd ps []:=λs us _ hl=>by
 rw[append_nil] at hl⊢;exact .of_eq (h us hl)
abbrev Passes (CX:rz)(X:Cx)(E:St->XK):Prop:=∀ (Y:JS) (U:St) (H:Hp) (s:Shared) (e:Value) (s':Shared),Inv X Y U H s->CX X.stack H s (E U) e s'->X.xe e s'
variable {vs:List V}
section
variable {X:Cx}{CX:rz}{k:Nat}{f C:Addr}{fd:FuncData}{ps:List Str}{sp:Sp}{dvs:List V}{ds:List Value}{E:St->XK}{x m:Str}{p pos apos:Pos}{e o:Expr}{es:List Expr}{ta:TE}{t:TA}
def lI {Q:VK}(F:cU X.prog X.w X.K X.mg X.base CX k f fd ps sp)(hr:bC k X.A)(hb:Binds X.K fd ps ds)(hd:Vals dvs ds)(hx:Passes CX X E)
  (I:Inv X Y U H s) (r:Vals vs us) (h:sp (vs++dvs) H Q (E U)):wpAny (model X.prog X.w) X.A (call (.ref f) us) (EP X Y U Q) X.xe s:=by
 have r2:Vals (vs++dvs) (us++ds):=r.append hd;have hl:(us++ds).length=ps.length:=by rw[<-r2.length];exact F.len _ _ _ _ h
 refine wpAny_call (codeAny_mono (F.run X.A X.stack s H ⟨us,[]⟩ (us++ds) (vs++dvs) Q (E U) hr I.gF (hb s us I.bG hl) r2 h) λr s' hq=>?_);cases r with
 |error e=>exact hx Y U H s e s' I hq
 |ok fl=>
  cases fl with
  |ret u=>exact I.after hq
  |next=>exact False.elim hq
  |brk=>exact False.elim hq
  |cont=>exact False.elim hq
def yU (F:cU X.prog X.w X.K X.mg X.base CX k f fd ps sp)(hr:bC k X.A)(hg:Gl X x)(hm:X.mg x=some (.ref f))(hk:W.keepIn X.K (.ref f)=true)(hb:Binds X.K fd ps ds)(hd:Vals dvs ds)(hx:Passes CX X E)
  (ha:PA X (e::es) t) (hdb:(x ==("__debug__":Str))=false:=by decide) (he:starEach (e::es) X.env=(false,eval e X.env)::starEach es X.env:=by rfl) (hpl:(backTo pos (starEach es X.env)).any (·.1)=false:=by rfl):
  PE X (.Call (.Name x p) (e::es) [] pos) (BN sp dvs E t):=by
 intro Y s U H Q I h;refine wpAny_Call_Name_kw (bj I hg hm ?_ hdb);refine W.callWith_K (h₀:=X.base) I.ok.mod.kin hk (au (ha pos Y s U H _ I h) λus s1 ⟨vs,H1,I1,r,q⟩=>⟨I1.bG,?_⟩) he hpl;exact lI F hr hb hd hx I1 r q
def vN (F:cU X.prog X.w X.K X.mg X.base CX k f fd ps sp)(hr:bC k X.A)(hg:Gl X x)(hm:X.mg x=some (.ref f))(hk:W.keepIn X.K (.ref f)=true)(hb:Binds X.K fd ps ds)(hd:Vals dvs ds)(hx:Passes CX X E)
  (hdb:(x ==("__debug__":Str))=false:=by decide):PE X (.Call (.Name x p) [] [] pos) (BN sp dvs E yB):=by
 intro Y s U H Q I h;refine wpAny_Call_Name_kw (bj I hg hm ?_ hdb);exact W.callWith_K0 I.bG hk (lI (us:=[]) F hr hb hd hx I .nil h)
structure Mk (K:W.Frag) (C f:Addr):Prop where
 makes:W.makesIn K C=true
 init:W.findIn K (.ref C) "__init__"=some (some (.ref f))
 fn:W.isFn K (.ref f)=true
 kp:W.keepIn K (.ref C)=true
def mQ {Q:VK}(M:Mk X.K C f)(F:cU X.prog X.w X.K X.mg X.base CX k f fd ps sp)(hr:bC (k+1) X.A)(hb:Binds X.K fd ps ds)(hd:Vals dvs ds)
  (hx:Passes CX X E) (I:Inv X Y U H s) (r:Vals vs us)
  (h:∀ x dx,H x=none->H dx=none->dx≠x->sp (.ref x::(vs++dvs)) (upd (upd H dx (.own x)) x (.ins C dx [])) (λv H2=>v=.non/\Q (.ref x) H2) (E U)):
  wpAny (model X.prog X.w) X.A (call (.ref C) us) (EP X Y U Q) X.xe s:=by
 have hq:=h (s.heap.objs.size+1) s.heap.objs.size (I.hok.fresh (Nat.le_succ _)) (I.hok.fresh (Nat.le_refl _)) (Nat.ne_of_lt (Nat.lt_succ_self _));have I2:=Inv.made (C:=C) I;have r2:Vals (V.ref (s.heap.objs.size+1)::(vs++dvs)) (Value.ref (s.heap.objs.size+1)::(us++ds)):=.cons rfl (r.append hd);have hl:(Value.ref (s.heap.objs.size+1)::us++ds).length=ps.length:=by
  have e:=r2.length;rw[F.len _ _ _ _ hq] at e;exact e.symm
 refine wpAny_call (vy (f:=f) I.bG M.makes M.init (beq_iff_eq.mp M.fn) (codeAny_mono (F.run _ X.stack _ _ ⟨Value.ref (s.heap.objs.size+1)::us,[]⟩ (Value.ref (s.heap.objs.size+1)::(us++ds)) _ _ (E U) (hr.make C us [])
  (I2.gF.make C us []) (hb _ (Value.ref (s.heap.objs.size+1)::us) I2.bG hl) r2 hq) λr s' hq'=>?_))
 cases r with
 |error e=>exact hx Y U _ _ e s' I2 hq'
 |ok fl=>
  cases fl with
  |ret u=>
   obtain ⟨v,H',I3,rv,ev,q3⟩:=I2.after hq';subst ev;exact ⟨rv,⟨V.ref (s.heap.objs.size+1),H',I3,rfl,q3⟩⟩
  |next=>exact False.elim hq'
  |brk=>exact False.elim hq'
  |cont=>exact False.elim hq'
def A5 (M:Mk X.K C f)(F:cU X.prog X.w X.K X.mg X.base CX k f fd ps sp)(hr:bC (k+1) X.A)(hg:Gl X x)(hm:X.mg x=some (.ref C))(hb:Binds X.K fd ps ds)(hd:Vals dvs ds)(hx:Passes CX X E)
  (ha:PA X (e::es) t) (hdb:(x ==("__debug__":Str))=false:=by decide) (he:starEach (e::es) X.env=(false,eval e X.env)::starEach es X.env:=by rfl) (hpl:(backTo pos (starEach es X.env)).any (·.1)=false:=by rfl):
  PE X (.Call (.Name x p) (e::es) [] pos) (Bl C sp dvs E t):=by
 intro Y s U H Q I h;refine wpAny_Call_Name_kw (bj I hg hm ?_ hdb);refine W.callWith_K (h₀:=X.base) I.ok.mod.kin M.kp (au (ha pos Y s U H _ I h) λus s1 ⟨vs,H1,I1,r,q⟩=>⟨I1.bG,?_⟩) he hpl;exact mQ M F hr hb hd hx I1 r q
def wt (M:Mk X.K C f)(F:cU X.prog X.w X.K X.mg X.base CX k f fd ps sp)(hr:bC (k+1) X.A)(hg:Gl X x)(hm:X.mg x=some (.ref C))(hb:Binds X.K fd ps ds)(hd:Vals dvs ds)(hx:Passes CX X E)
  (hdb:(x ==("__debug__":Str))=false:=by decide):PE X (.Call (.Name x p) [] [] pos) (Bl C sp dvs E yB):=by
 intro Y s U H Q I h;refine wpAny_Call_Name_kw (bj I hg hm ?_ hdb);exact W.callWith_K0 I.bG M.kp (mQ (us:=[]) M F hr hb hd hx I .nil h)
end
section
variable {X:Cx}{CX:rz}{k:Nat}{f C:Addr}{fd:FuncData}{ps ks:List Str}{sp:Sp}{E:St->XK}{x m:Str}{p pos apos kpos:Pos}{e o:Expr}{es:List Expr}{kws:List Keyword}{te ta:TE}{t tk:TA}{nm:Option Str}
variable {g:List Value->List Value->List Value}{gV:List V->List V->List V}
end
structure i4 (N P:List Str) (sc:Scope):Prop where
 kind:sc.kind=.function
 co:sc.isCoroutine=false
 gen:sc.isGenerator=false
 nd:N.Nodup
 pre:N.take P.length=P
 par:∀ x ∈ P,sc.names.lookup x=some .local\/sc.names.lookup x=some .cell
 nofree:∀ y ∈ sc.names,y.2≠.free
def kj {kindOf:Str->Option NameKind}{x:Str}:∀ {binds:List (Str×Value)}{m:JT},(∀ v,(x,v) ∉ binds)->bindL kindOf binds m x=m x
 | [],_,_=>rfl
 |(n,v)::r,m,h=>by
  unfold bindL;rw[kj λw hw=>h w (mem_cons_of_mem _ hw)]
  split
  ·have:x≠n:=by rintro rfl;exact h v mem_cons_self
   simp[this]
  ·rfl
def kP {kindOf:Str->Option NameKind}{x:Str}:∀ {binds:List (Str×Value)}{m:JT},(∀ v,(x,v) ∉ binds)->bindC kindOf binds m x=m x
 | [],_,_=>rfl
 |(n,v)::r,m,h=>by
  unfold bindC;rw[kP λw hw=>h w (mem_cons_of_mem _ hw)]
  split
  ·rfl
  ·have:x≠n:=by rintro rfl;exact h v mem_cons_self
   simp[this]
def kR {kindOf:Str->Option NameKind}{x:Str}{v:Value}:∀ {P:List Str}{vs:List Value}{i:Nat}{m:JT},P.Nodup->P[i]? =some x->vs[i]? =some v->kindOf x=some .local->
  bindL kindOf (P.zip vs) m x=some v
 | [],_,_,_,_,h,_,_=>by simp at h
 |_::_,[],_,_,_,_,h,_=>by simp at h
 |p::P,w::vs,0,m,nd,h1,h2,hk=>by
  simp at h1 h2;subst h1;subst h2;show bindL kindOf ((p,w)::P.zip vs) m p=_;unfold bindL;rw[kj λv hv=>(nodup_cons.mp nd).1 (of_mem_zip hv).1,if_pos hk];simp
 |p::P,w::vs,i+1,m,nd,h1,h2,hk=>by
  show bindL kindOf ((p,w)::P.zip vs) m x=_;unfold bindL;exact kR (i:=i) (nodup_cons.mp nd).2 (by simpa using h1) (by simpa using h2) hk
def kZ {kindOf:Str->Option NameKind}{x:Str}{v:Value}:∀ {P:List Str}{vs:List Value}{i:Nat}{m:JT},P.Nodup->P[i]? =some x->vs[i]? =some v->kindOf x≠some .local->
  bindC kindOf (P.zip vs) m x=some v
 | [],_,_,_,_,h,_,_=>by simp at h
 |_::_,[],_,_,_,_,h,_=>by simp at h
 |p::P,w::vs,0,m,nd,h1,h2,hk=>by
  simp at h1 h2;subst h1;subst h2;show bindC kindOf ((p,w)::P.zip vs) m p=_;unfold bindC;rw[kP λv hv=>(nodup_cons.mp nd).1 (of_mem_zip hv).1,if_neg hk];simp
 |p::P,w::vs,i+1,m,nd,h1,h2,hk=>by
  show bindC kindOf ((p,w)::P.zip vs) m x=_;unfold bindC;exact kZ (i:=i) (nodup_cons.mp nd).2 (by simpa using h1) (by simpa using h2) hk
abbrev start (N:List Str)(vs:List V):St:=vs.map some++List.replicate (N.length-vs.length) none
abbrev sF (CX:rz)(P:Program)(w:World)(K:W.Frag)(mg:JT)(base:Heap)(N:List Str)(qual:Str)(scope:Scope)(f:Addr)(cd:Value)(A:Around)(outer:List Env)(s:Shared)(H:Hp)(E:XK):Cx where
 prog:=P
 w:=w
 K:=K
 mg:=mg
 base:=base
 A:=A.deeper (envOfC qual scope s.heap.objs.size f cd)
 N:=N
 s₀:=s
 H₀:=H
 env:=envOfC qual scope s.heap.objs.size f cd
 outer:=outer
 stack:=envOfC qual scope s.heap.objs.size f cd::outer
 ex:=[]
 calm:=true
 fn:=λ_=>true
 pn:=[]
 xe:=λe s'=>wpAny (model P w) (A.deeper (envOfC qual scope s.heap.objs.size f cd)) (leaving (envOfC qual scope s.heap.objs.size f cd) e) (λ_ s''=>CX outer H s E e s'') (λe' s''=>CX outer H s E e' s'') s'
def mV {sc:Scope}{n:Nat}(h:sc.names.lookup x=some .cell):∃ c,(cellsFrom n sc.names []).lookup x=some c:=by
 have q:=W.cellsFrom_some sc.names n [] (.inl h);exact Option.isSome_iff_exists.mp q
variable {scope:Scope}
def ug {N:List Str}{qual:Str}{f:Addr}{cd:Value}{s1:Shared}{E:XK}
  (S:i4 N ps scope) (hd:A.handled=none) (e0:ql P w K mg base A outer s H) (hl:vs.length=ps.length) (r:Vals vs us)
  (x:InCallC s s.heap.objs.size (bindL (envOfC qual scope s.heap.objs.size f cd).kindOf (ps.zip us) λ_=>none) (cellsFrom (s.heap.objs.size+1) scope.names []) (bindC (envOfC qual scope s.heap.objs.size f cd).kindOf (ps.zip us) λ_=>none) s1):
  Inv (sF CX P w K mg base N qual scope f cd A outer s H E) [] (start N vs) H s1:=by
 have hpl:ps.length<=N.length:=by have:=congrArg List.length S.pre;rw[length_take] at this;omega
 obtain ⟨h1,tk,rfl,hk⟩:=x.done;have noA:∀ b:Addr,b ∉ (sF CX P w K mg base N qual scope f cd A outer s H E).ex:=λb z=>absurd (show b ∈ ([]:List Addr) from z) (by simp)
 refine ⟨⟨e0.mod,S.kind,rfl,rfl,Nat.le_refl _,λy z c h1 h2=>?_,λy hy=>?_,λy c _ h=>?_,λ_=>hd,Around.frames_deeper e0.frames,.inr ⟨rfl,rfl⟩,λb z=>absurd z (noA b),e0.bs,e0.bsz,λb _ _=>noA b,λb z=>absurd z (noA b),e0.iB,e0.frf⟩,
  rfl,e0.bare,Un.kept hk,⟨_,x.toInCall.ns,λi y v h1 h2 h3=>?_⟩,λy c h=>⟨_,x.cell y c h⟩,e0.hok.fresh (Nat.le_refl _),λy c h=>?_,λp hp=>absurd (show p ∈ ([]:JS) from hp) (by simp),e0.hok.kept hk,?_⟩
 ·exact name_of_addr x.apart (PySem.mem_of_lookup h1) (PySem.mem_of_lookup h2)
 ·have hy:scope.names.lookup y=some .cell\/scope.names.lookup y=some .free:=hy;rcases hy with hy|hy
  ·exact mV hy
  ·exact absurd rfl (S.nofree _ (PySem.mem_of_lookup hy))
 ·exact Nat.le_of_lt (x.above y c (PySem.mem_of_lookup h))
 ·have hi:i<vs.length:=by
   unfold start at h2
   by_cases hi:i<vs.length
   ·exact hi
   ·rw[getElem?_append_right (by simpa using hi)] at h2;rw[getElem?_replicate] at h2
    split at h2<;>cases h2
  have ha:vs[i]? =some v:=by
   unfold start at h2;rw[getElem?_append_left (by simpa using hi),getElem?_map] at h2;cases e:vs[i]? with
   |none=>rw[e] at h2;cases h2
   |some a=>rw[e] at h2;cases h2;rfl
  obtain ⟨u,hu,rv⟩:=r.get ha;have hp:ps[i]? =some y:=by
   rw[<-S.pre,List.getElem?_take_of_lt nofun];exact h1
  have ndP:ps.Nodup:=by rw[<-S.pre];exact S.nd.sublist (take_sublist _ _)
  refine ⟨u,rv,?_⟩;rcases S.par y (mem_of_getElem? hp) with k|k
  ·exact .inl ⟨k,kR ndP hp hu k⟩
  ·obtain ⟨c,e⟩:=mV (n:=s.heap.objs.size+1) k;refine .inr ⟨.inl k,c,e,?_⟩;have q:=x.cell y c e;rw[kZ ndP hp hu (by show scope.names.lookup y≠_;rw[k];decide)] at q;exact q
 ·exact e0.hok.fresh (Nat.le_of_lt (x.above y c (PySem.mem_of_lookup h)))
 ·unfold start;show _=N.length;rw[length_append,length_map,length_replicate]
  omega
def FT {f:Addr}{name qual:Str}{params:Arguments}{dV kV doc pm cdv ct oc:Value}{an od:Option Addr}
  {osl:Array (Option Value)}{N:List Str}{sp:Sp}(lk:K.lookup f=some ⟨oc,od,.func (W.fnOf name qual params body scope dV kV doc pm an cdv ct),osl⟩) (hcd:W.codeIn K cdv qual=true) (S:i4 N ps scope)
  (len:∀ vs H Q E,sp vs H Q E->vs.length=ps.length)
  (hbody:∀ (A:Around) (outer:List Env) (s:Shared) (H:Hp) (vs:List V) (Q:VK) (E:XK),bC k (A.deeper (envOfC qual scope s.heap.objs.size f cdv))->sp vs H Q E->
   ∃ t,yq (sF CX P w K mg base N qual scope f cdv A outer s H E) body t/\t { nx:=λ_ H'=>Q .non H',rt:=Q } (start N vs) H):
  cU P w K mg base CX (k+1) f (W.fnOf name qual params body scope dV kV doc pm an cdv ct) ps sp:=by
 refine ⟨len,λA outer s H args us vs Q E hr e0 hb r hsp=>?_⟩;have hl:=len _ _ _ _ hsp;have KX:K.In s.heap:=e0.mod.kin.keeps λb o e=>(e0.bs b o e).1
 have lim:s.heap.NoLimit:=e0.mod.nolimit.keeps λb o e=>(e0.bs b o e).1
 have hkind:∀ y ∈ ps.zip us,scope.names.lookup y.1=some .local\/(scope.names.lookup y.1=some .cell/\((cellsFrom (s.heap.objs.size+1) scope.names []).lookup y.1).isSome=true):=λ⟨n,v⟩ hy=>by
  rcases S.par n (of_mem_zip hy).1 with q|q
  ·exact .inl q
  ·exact .inr ⟨q,W.cellsFrom_some _ _ _ (.inl q)⟩
 refine codeAny_call_function hr.depth (KX _ _ lk) rfl S.co S.gen rfl (W.codeRec_of KX hcd) (hb _ _ _ _ ?_);refine wpAny_newFunctionEnv_cells S.kind hkind λenv he s1 x=>?_
 subst he;refine ⟨lim.keeps x.toInCall.keep,codeAny_func ?_⟩;obtain ⟨t,ht,hq⟩:=hbody A outer s H vs Q E (hr.deeper _) hsp;have I:Inv (sF CX P w K mg base N qual scope f cdv A outer s H E) [] (start N vs) H s1:=ug S hr.hd e0 hl r x;refine wpAny_mono (ht [] s1 (start N vs) H _ I hq) (λfl s' hs=>?_) λe s' hs=>hs
 have fin:∀ {σ':St}{H':Hp}{v:V}{u:Value},Inv (sF CX P w K mg base N qual scope f cdv A outer s H E) [] σ' H' s'->RelV v u->Q v H'->CE outer P w H s Q u s':=
  λ{σ' H' v u} J rv q=>⟨v,H',J.os,J.bare,J.base,J.hok,rv,q⟩
 cases fl with
 |ret u=>
  obtain ⟨v,σ',H',J,rv,q⟩:=hs;exact fin J rv q
 |next=>
  obtain ⟨σ',H',J,q⟩:=hs;exact fin (v:=V.non) (u:=Value.none) J rfl q
 |brk=>
  obtain ⟨_,_,_,q⟩:=hs;exact False.elim q
 |cont=>
  obtain ⟨_,_,_,q⟩:=hs;exact False.elim q
section
variable {X:Cx}{x:Str}{p pos:Pos}{e:Expr}{es:List Expr}{t:TA}{id T:String}{r:List V->Hp->VK->Prop}
abbrev Ji (r:List V->Hp->VK->Prop)(t:TA):TE:=λU H Q=>t U H λvs H1=>r vs H1 Q
def jv (hc:ck X (.builtin id) r)(hg:Gl X x)(hm:X.mg x=none)(hv:bootBuiltins x=some (.builtin id))(ha:PA X (e::es) t)(hn:x≠"__name__":=by decide) (hdb:(x ==("__debug__":Str))=false:=by decide)
  (he:starEach (e::es) X.env=(false,eval e X.env)::starEach es X.env:=by rfl) (hpl:(backTo pos (starEach es X.env)).any (·.1)=false:=by rfl):PE X (.Call (.Name x p) (e::es) [] pos) (Ji r t):=by
 intro Y s U H Q I h;refine wpAny_Call_Name_kw (cE I hg hm hv ?_ hn hdb);exact PyProof.Rows.callWith_builtin1 (au (ha pos Y s U H _ I h) λus s1 ⟨vs,H1,I1,r1,q1⟩=>hc Y s1 U H1 vs us Q I1 r1 q1) he hpl
def uy (hc:ck X (.type T) r)(hg:Gl X x)(hm:X.mg x=none)(hv:bootBuiltins x=some (.type T))(ha:PA X (e::es) t)(hn:x≠"__name__":=by decide) (hdb:(x ==("__debug__":Str))=false:=by decide)
  (he:starEach (e::es) X.env=(false,eval e X.env)::starEach es X.env:=by rfl) (hpl:(backTo pos (starEach es X.env)).any (·.1)=false:=by rfl):PE X (.Call (.Name x p) (e::es) [] pos) (Ji r t):=by
 intro Y s U H Q I h;refine wpAny_Call_Name_kw (cE I hg hm hv ?_ hn hdb);exact PyProof.Rows.callWith_type1 (au (ha pos Y s U H _ I h) λus s1 ⟨vs,H1,I1,r1,q1⟩=>hc Y s1 U H1 vs us Q I1 r1 q1) he hpl
end
end L2
namespace HT
open PySem PyProof.Rows
section
open PySem.SeqAt
open PySem.AutoSeq1 (wpAny_loadPart')
open PySem.MeetsSeq PySem.MeetsSeq2 PySem.MeetsSeq3
end
section
variable {prog:Program}{w:World}{A:Around}{E:JR}{s:Shared}
abbrev bz (n d:Nat):Option Int->Nat
 |none=>d
 |some v=>if v<0 then (v+(n:Int)).toNat else min v.toNat n
def CJ (n d:Nat)(hd:d<=n)(o:Option Int):bz n d o<=n:=by
 cases o with
 |none=>exact hd
 |some v=>
  show (if v<0 then (v+(n:Int)).toNat else min v.toNat n)<=n
  by_cases hv:v<0
  ·rw[if_pos hv];omega
  ·rw[if_neg hv];exact Nat.min_le_right _ _
def sv (v:Int)(n d:Nat):(if v<0 then max (v+(n:Int)) 0 else min v (n:Int))=((bz n d (some v):Nat):Int):=by
 show (if v<0 then max (v+(n:Int)) 0 else min v (n:Int))=(((if v<0 then (v+(n:Int)).toNat else min v.toNat n):Nat):Int)
 by_cases hv:v<0
 ·simp only[if_pos hv];omega
 ·simp only[if_neg hv];omega
def qy (lo hi:Option Int)(n:Nat):Builtin.Slice.sliceAdjust lo hi 1 (n:Int)=(((bz n 0 lo:Nat):Int),((bz n n hi:Nat):Int)):=by
 have h1:¬ ((1:Int)<0):=by omega
 unfold Builtin.Slice.sliceAdjust;simp only[h1,if_false];refine Prod.ext ?_ ?_
 ·cases lo with
  |none=>rfl
  |some v=>exact sv v n 0
 ·cases hi with
  |none=>rfl
  |some v=>exact sv v n n
def pE (i j:Nat):Builtin.Slice.slicePlaces (i:Int) (j:Int) 1=j-i:=by
 unfold Builtin.Slice.slicePlaces;have h1:(1:Int)>0:=by omega
 simp only[h1,if_true,Int.ediv_one]
 split<;>omega
def i7 {v:Value}{o:Option Int}{Q:Option Int->Shared->Prop}(p:IsPart v o)(h:Q o s):wpAny (model prog w) A (Builtin.Slice.slicePartIndex v) Q E s:=by
 cases p with
 |none=>exact slicePart_none h
 |int i t=>exact slicePart_int h
def gR {sl:Addr}{vl vu:Value}{lo hi:Option Int}{n:Nat}{Q:Int×Int×Nat->Shared->Prop}(hs:s.heap.IsSliceOf sl vl vu .none)(pl:IsPart vl lo)(pu:IsPart vu hi)
  (h:Q (((bz n 0 lo:Nat):Int),1,bz n n hi-bz n 0 lo) s):wpAny (model prog w) A (Builtin.Slice.sliceApplied (.ref sl) (pure (n:Int))) Q E s:=by
 obtain ⟨os,hos,hcs,hds⟩:=id hs;unfold Builtin.Slice.sliceApplied Builtin.Slice.sliceFields;refine wpAny_bind (wpAny_bind (wpAny_field hos hds (x:=vl) rfl (wpAny_bind (wpAny_field hos hds (x:=vu) rfl (wpAny_bind (wpAny_field hos hds (x:=.none) rfl (wpAny_pure ?_)))))));refine wpAny_bind (slicePart_none ?_);show wpAny _ _ (if ((1:Int) ==0)=true then _ else _) _ _ s;rw[if_neg (by decide)];refine wpAny_bind (i7 pl (wpAny_bind (i7 pu (wpAny_bind (wpAny_pure ?_)))));show wpAny _ _ (match Builtin.Slice.sliceAdjust lo hi 1 (n:Int) with|(lo,hi)=>pure (lo,(1:Int),Builtin.Slice.slicePlaces lo hi 1)) _ _ s;rw[qy lo hi n];show wpAny _ _ (pure (((bz n 0 lo:Nat):Int),(1:Int),Builtin.Slice.slicePlaces ((bz n 0 lo:Nat):Int) ((bz n n hi:Nat):Int) 1)) _ _ s;rw[pE];exact wpAny_pure h
def vd (xs:Array Value)(i k:Nat):((List.range k).filterMap λ(m:Nat)=>xs[((i:Int)+(m:Int)*1).toNat]?).toArray=((xs.toList.drop i).take k).toArray:=by
 have e:(λ(m:Nat)=>xs[((i:Int)+(m:Int)*1).toNat]?)=λm=>xs[i+m]? :=by
  funext m
  have:((i:Int)+(m:Int)*1).toNat=i+m:=by omega
  rw[this]
 rw[e];have:=pick_run xs i k;rw[List.filterMap_map] at this;have e2:((λx=>xs[x]?)∘λx=>i+x)=λm=>xs[i+m]? :=rfl
 rw[e2] at this;rw[this]
def gi {t sl:Addr}{items:Array Value}{vl vu:Value}{lo hi:Option Int}{Q:JR}(ht:IsTup s.heap t items)(hs:s.heap.IsSliceOf sl vl vu .none)(pl:IsPart vl lo)(pu:IsPart vu hi)
  (hw:¬ (bz items.size 0 lo=0/\bz items.size items.size hi=items.size))
  (h:Q (.ref s.heap.objs.size) { s with heap:=s.heap.push { cls:=.type "tuple",data:=.seq ((items.toList.drop (bz items.size 0 lo)).take (bz items.size items.size hi-bz items.size 0 lo)).toArray } })
  (hsz:items.size<=sizeLine):wpAny (model prog w) A (getItem (.ref t) (.ref sl)) Q E s:=by
 have htake:sizeOk (.seq ((items.toList.drop (bz items.size 0 lo)).take (bz items.size items.size hi-bz items.size 0 lo)).toArray):=by
  show ((items.toList.drop (bz items.size 0 lo)).take (bz items.size items.size hi-bz items.size 0 lo)).toArray.size<=sizeLine;rw[size_toArray,length_take,length_drop,Array.length_toList]
  omega
 have hj:bz items.size items.size hi<=items.size:=CJ _ _ (Nat.le_refl _) hi;obtain ⟨os,hos,hcs,hds⟩:=id hs;have hTs:s.TypeIs (.ref sl) "slice":=⟨os,hos,hcs⟩;unfold getItem
 try with_reducible refine wpAny_holding ?_
 first|refine wpAny_bind (wpAny_pure ?_)|skip
 refine wpAny_bind (wpAny_sequenceKey ht.typeIs (by decide) ?_);refine wpAny_bind (wpAny_callSpecial?_slot (name:=Str.ofString "__getitem__") ht.typeIs PyProof.Rows.slot_tuple_getitem
  (wpAny_call_entry PyProof.Rows.slot_tuple_getitem ht.typeIs entry_tuple_getitem ?_ (args_tuple_getitem _ _)))
 show wpAny _ _ (Builtin.Tuple.tupleItemsOf (.ref t) >>= _) _ _ s;refine wpAny_bind (tupleItemsOf_ ht ?_);refine wpAny_bind (wpAny_typeOf hTs ?_);rw[if_pos (by decide)];refine wpAny_bind (gR hs pl pu ?_);have hno:¬ ((((bz items.size 0 lo:Nat):Int) ==0&&(1:Int) ==1&&(bz items.size items.size hi-bz items.size 0 lo) ==items.size)=true):=by
  intro q;rw[Bool.and_eq_true,Bool.and_eq_true] at q;have q1:((bz items.size 0 lo:Nat):Int)=0:=eq_of_beq q.1.1;have q2:bz items.size items.size hi-bz items.size 0 lo=items.size:=eq_of_beq q.2;exact hw ⟨by omega,by omega⟩
 show wpAny _ _ (if (((bz items.size 0 lo:Nat):Int) ==0&&(1:Int) ==1&&(bz items.size items.size hi-bz items.size 0 lo) ==items.size)=true then _ else _) _ _ s;rw[if_neg hno,vd]
 first
  |exact wpAny_bind (m:=Builtin.Tuple.tupleExact _) (wpAny_newObj_type (wpAny_pure ⟨_,rfl,wpAny_pure h⟩) htake)
  |exact wpAny_bind (m:=Builtin.Tuple.tupleExact _) (wpAny_newObj_type (wpAny_bind (wpAny_pure (wpAny_pure ⟨_,rfl,wpAny_pure h⟩))) htake)
  |exact wpAny_bind (wpAny_bind (m:=Builtin.Tuple.tupleExact _) (wpAny_newObj_type (wpAny_pure (wpAny_pure ⟨_,rfl,wpAny_pure h⟩)) htake))
  |exact wpAny_bind (wpAny_bind (m:=Builtin.Tuple.tupleExact _) (wpAny_newObj_type (wpAny_pure ⟨_,rfl,wpAny_pure h⟩) htake))
end
end HT
namespace L2
open PySem PySem.Spec PyProof.Rows
@[reducible]def TO:=St->Hp->(Option Int->Hp->Prop)->Prop
abbrev PO (X:Cx)(e:Option Expr)(t:TO):Prop:=
 ∀ (Y:JS) (s:Shared) (U:St) (H:Hp) (Q:Option Int->Hp->Prop),Inv X Y U H s->t U H Q->
  wpAny (model X.prog X.w) X.A (evalPart e X.env) (λu s'=>∃ o H',Inv X Y U H' s'/\IsPart u o/\Q o H') X.xe s
abbrev AH:TO:=λ_ H Q=>Q none H
abbrev FD (t:TE):TO:=λU H Q=>t U H λx H1=>∃ i,x=.int i/\Q (some i) H1
section
variable {X:Cx}{e:Expr}{te:TE}{lo hi:Option Expr}{tl th:TO}{pos p2:Pos}
def yo:PO X none AH:=by
 intro Y s U H Q I h;rw[evalPart_none];exact wpAny_pure ⟨none,H,I,.none,h⟩
def zQ (h:PE X e te):PO X (some e) (FD te):=by
 intro Y s U H Q I hw;rw[evalPart_some];refine au (h Y s U H _ I hw) λu s1 ⟨x,H1,I1,r1,q1⟩=>?_
 obtain ⟨i,rfl,q⟩:=q1;obtain ⟨t,rfl⟩:=r1;exact ⟨some i,H1,I1,.int i t,q⟩
abbrev Ft (X:Cx)(r:V->Option Int->Option Int->Hp->VK->Prop):Prop:=
 ∀ (Y:JS) (s:Shared) (U:St) (H:Hp) (x:V) (v vl vu:Value) (lo hi:Option Int) (sl:Addr) (Q:VK),Inv X Y U H s->RelV x v->s.heap.IsSliceOf sl vl vu .none->IsPart vl lo->IsPart vu hi->r x lo hi H Q->
  ∃ T id,typeLookup (.type T) "__getitem__"=pure (some (.builtin id))/\s.TypeIs v T/\wpAny (model X.prog X.w) X.A (getItem v (.ref sl)) (EP X Y U Q) X.xe s
abbrev JH (r:V->Option Int->Option Int->Hp->VK->Prop)(te:TE)(tl th:TO):TE:=λU H Q=>te U H λx H1=>tl U H1 λl H2=>th U H2 λu H3=>r x l u H3 Q
def uM {r:V->Option Int->Option Int->Hp->VK->Prop}(hr:Ft X r)(he:PE X e te)(hl:PO X lo tl)(hu:PO X hi th):PE X (.Subscript e (.Slice lo hi none p2) pos) (JH r te tl th):=by
 intro Y s U H Q I h;refine Subscript_ (au (he Y s U H _ I h) λv s1 ⟨x,H1,I1,r1,q1⟩=>?_);refine wpAny_Slice (au (hl Y s1 U H1 _ I1 q1) λvl s2 ⟨l,H2,I2,pl,q2⟩=>au (hu Y s2 U H2 _ I2 q2) λvu s3 ⟨u,H3,I3,pu,q3⟩=>?_);rw[evalPart_none];refine wpAny_pure ?_;have I4:Inv X Y U H3 { s3 with heap:=s3.heap.push { cls:=.type "slice",data:=.fields #[vl,vu,.none] } }:=I3.kept (t':=s3.toks) λb ob q=>Heap.get?_push_of_some _ q
 obtain ⟨T,id,hT,ht,hg⟩:=hr Y { s3 with heap:=s3.heap.push { cls:=.type "slice",data:=.fields #[vl,vu,.none] } } U H3 x v vl vu l u s3.heap.objs.size Q I4 r1 (Heap.IsSliceOf.new ..) pl pu q3;show wpAny (model X.prog X.w) X.A (subscriptTail e (.Slice lo hi none p2) v (.ref s3.heap.objs.size)) (EP X Y U Q) X.xe { s3 with heap:=s3.heap.push { cls:=.type "slice",data:=.fields #[vl,vu,.none] } };exact tail_any (ops:=[.ref s3.heap.objs.size,v]) ht hT hg (by with_unfolding_all rfl)
abbrev gZ (xs:List V)(lo hi:Option Int):List V:=(xs.drop (HT.bz xs.length 0 lo)).take (HT.bz xs.length xs.length hi-HT.bz xs.length 0 lo)
def iw (xs:List V)(lo hi:Option Int):(gZ xs lo hi).length<=xs.length:=by
 unfold gZ;rw[length_take,length_drop]
 omega
abbrev GG (K:W.Frag):V->Option Int->Option Int->Hp->VK->Prop:=λx lo hi H Q=>∃ a xs,x=.ref a/\bc K H a xs/\
 ¬ (HT.bz xs.length 0 lo=0/\HT.bz xs.length xs.length hi=xs.length)/\∀ p,H p=none->Q (.ref p) (upd H p (.tup (gZ xs lo hi)))
def El:Ft X (GG X.K):=by
 intro Y s U H x v vl vu lo hi sl Q I rx hs pl pu h;obtain ⟨a,xs,rfl,hx,hw,q⟩:=h;cases rx;obtain ⟨its,r,ht,hz⟩:=I.tuple hx;have hlen:its.toArray.size=xs.length:=by rw[size_toArray];exact r.length.symm
 refine ⟨"tuple",_,PyProof.Rows.slot_tuple_getitem.lookup,ht.typeIs,?_⟩;refine HT.gi ht hs pl pu (by rw[hlen];exact hw) ?_ (by rw[hlen];exact hz);rw[hlen];refine ⟨.ref s.heap.objs.size,_,I.laid (t':=s.toks) (o:=.tup (gZ xs lo hi)) (λb ob q=>Heap.get?_push_of_some _ q) (Nat.le_refl _) ?_,rfl,q _ (I.hok.fresh (Nat.le_refl _))⟩;exact ⟨Nat.le_trans (iw xs lo hi) hz,_,(r.drop (HT.bz xs.length 0 lo)).take (HT.bz xs.length xs.length hi-HT.bz xs.length 0 lo),IsTup.new _ _⟩
end
abbrev vM (n:Nat)(i:Int):Option Nat:=if 0<=i then (if i<n then some i.toNat else none) else if -(n:Int)<=i then some (i+n).toNat else none
variable {α:Type}
abbrev mL (xs:List α)(i:Int):Option α:=(vM xs.length i).bind λj=>xs[j]?
variable {n:Nat}
def qX {i:Int}{j:Nat}(h:vM n i=some j):seqIndex? i n=some j/\j<n/\ -(n:Int)<=i/\i<n:=by
 unfold vM at h
 by_cases h0:0<=i
 ·rw[if_pos h0] at h
  by_cases h1:i<n
  ·rw[if_pos h1] at h;have e:i.toNat=j:=Option.some.inj h;exact ⟨by rw[seqIndex_of h0 h1,e],by omega,by omega,h1⟩
  ·rw[if_neg h1] at h;cases h
 ·rw[if_neg h0] at h
  by_cases h1: -(n:Int)<=i
  ·rw[if_pos h1] at h;have e:(i+n).toNat=j:=Option.some.inj h;exact ⟨by rw[seqIndex_neg nofun h1,e],by omega,h1,by omega⟩
  ·rw[if_neg h1] at h;cases h
def c6 {xs:List α}{i:Int}{v:α}(h:mL xs i=some v):∃ j,seqIndex? i xs.length=some j/\xs[j]? =some v/\j<xs.length/\ -(xs.length:Int)<=i/\i<xs.length:=by
 unfold mL at h;cases e:vM xs.length i with
 |none=>rw[e] at h;cases h
 |some j=>
  rw[e] at h;obtain ⟨h1,h2,h3,h4⟩:=qX e;exact ⟨j,h1,h,h2,h3,h4⟩
def cZ {xs:List α}{j:Nat}{v:α}(h:xs[j]? =some v):mL xs (j:Int)=some v:=by
 have hj:j<xs.length:=(List.getElem?_eq_some_iff.mp h).1;have e:vM xs.length (j:Int)=some j:=by
  unfold vM;rw[if_pos nofun,if_pos nofun];simp
 unfold mL;rw[e];exact h
abbrev se (b:Expr):Prop:=∀ o i,subscripted b false o i=operate [o,i] (getItem o i)
abbrev E3 (X:Cx)(r:R2):Prop:=
 ∀ (value slice:Expr) (Y:JS) (s:Shared) (U:St) (H:Hp) (x y:V) (v u:Value) (Q:VK),Inv X Y U H s->RelV x v->RelV y u->r x y H Q->
  subscripted slice false v u=operate [v,u] (getItem v u)->wpAny (model X.prog X.w) X.A (subscriptTail value slice v u) (EP X Y U Q) X.xe s
abbrev Hg (X:Cx)(id:String)(r:V->List V->Hp->VK->Prop):Prop:=
 ∀ (Y:JS) (s:Shared) (U:St) (H:Hp) (x:V) (xs:List V) (v:Value) (us:List Value) (Q:VK),Inv X Y U H s->RelV x v->Vals xs us->r x xs H Q->
  wpAny (model X.prog X.w) X.A (call (.builtin id) (v::us)) (EP X Y U Q) X.xe s
variable {Y:JS}{U:St}{H:Hp}{s:Shared}{y:V}{u:Value}
section
variable {X:Cx}{a b:Expr}{ta tb:TE}{pos:Pos}
def GH {r:R2}(hr:E3 X r)(ha:PE X a ta)(hb:PE X b tb)(hs:se b):PE X (.Subscript a b pos) (He r ta tb):=by
 intro Y s U H Q I h;exact Subscript_ (DR ha hb I h λv u s2 x y H2 I2 rx ry q=>hr a b Y s2 U H2 x y v u Q I2 rx ry q (hs _ _))
abbrev Ih (K:W.Frag):R2:=λx y H Q=>∃ p xs i v,x=.ref p/\y=.int i/\bg K H p xs/\mL xs i=some v/\Q v H
abbrev IJ (K:W.Frag):R2:=λx y H Q=>∃ p xs i v,x=.ref p/\y=.int i/\bc K H p xs/\mL xs i=some v/\Q v H
def AX:E3 X (Ih X.K):=by
 intro value slice Y s U H x y v u Q I rx ry h hs;obtain ⟨p,xs,i,z,rfl,rfl,hq,he,q⟩:=h;cases rx;obtain ⟨t,rfl⟩:=ry;obtain ⟨its,r,pl,hz⟩:=I.list hq;obtain ⟨j,h1,h2,h3,h4,h5⟩:=c6 he;obtain ⟨w,ew,rw'⟩:=r.get h2;have hl:=r.length;have hn:=gJ;have fin:EP X Y U Q w s:=⟨z,H,I,rw',q⟩
 by_cases h0:0<=i
 ·have hj:i.toNat=j:=by
   rw[seqIndex_of h0 h5] at h1;exact Option.some.inj h1
  exact item_listR pl.isList h0 nofun (by rw[hj];simpa using ew) fin hs
 ·have hj:(i+(its.toArray.size:Int)).toNat=j:=by
   rw[seqIndex_neg nofun h4] at h1;rw[size_toArray,<-hl];exact Option.some.inj h1
  exact subscriptTail_builtinR (x:=w) pl.isList.typeIs slot_list_getitem.lookup
   (wpAny_getItem_list_neg (Q:=λr s'=>r=w/\EP X Y U Q r s') pl.isList nofun (by rw[size_toArray]<;>omega) nofun (by rw[hj];simpa using ew) ⟨rfl,fin⟩) hs
def DW:E3 X (IJ X.K):=by
 intro value slice Y s U H x y v u Q I rx ry h hs;obtain ⟨p,xs,i,z,rfl,rfl,hq,he,q⟩:=h;cases rx;obtain ⟨t,rfl⟩:=ry;obtain ⟨its,r,pl,hz⟩:=I.tuple hq;obtain ⟨j,h1,h2,h3,h4,h5⟩:=c6 he;obtain ⟨w,ew,rw'⟩:=r.get h2;have hl:=r.length;have hn:=gJ;have fin:EP X Y U Q w s:=⟨z,H,I,rw',q⟩;exact subscriptTail_builtinR (x:=w) pl.typeIs slot_tuple_getitem.lookup
  (getItem_tuple (j:=j) (Q:=λr s'=>r=w/\EP X Y U Q r s') pl nofun nofun (by rw[size_toArray,<-hl];exact h1) (by simpa using ew) ⟨rfl,fin⟩) hs
def pB (its:List Value)(n j:Nat)(u:Value):Obj.mapSeq (·.setIfInBounds j u) { cls:=.type "list",data:=.seq its.toArray n }={ cls:=.type "list",data:=.seq (its.set j u).toArray n }:=by
 simp[Obj.mapSeq]
def Inv.lst {Y:JS}{U:St}{H:Hp}{s:Shared}{p:Addr}{xs:List V}(I:Inv X Y U H s)(h:H p=some (.lst xs)):
  ∃ (its:List Value) (n:Nat),Vals xs its/\s.heap.get? p=some { cls:=.type "list",data:=.seq its.toArray n }/\xs.length<=sizeLine:=by
 obtain ⟨z,its,n,r,e⟩:=I.hok p _ h;exact ⟨its,n,r,e,z⟩
def Inv.CP {p:Addr}{xs ys:List V}{its its':List Value}{n':Nat}{f:Obj->Obj}(I:Inv X Y U H s)(h:H p=some (.lst xs))
  (ho:s.heap.get? p=some { cls:=.type "list",data:=.seq its.toArray n }) (hf:f { cls:=.type "list",data:=.seq its.toArray n }={ cls:=.type "list",data:=.seq its'.toArray n' }) (r:Vals ys its') (hz:ys.length<=sizeLine) (t:Nat):
  Inv X Y U (upd H p (.lst ys)) { s with heap:=s.heap.update p f,toks:=t }:=by
 have e:(s.heap.update p f).get? p=some { cls:=.type "list",data:=.seq its'.toArray n' }:=by
  rw[Heap.get?_update_self f ho (by rw[hf]<;>rfl),hf]
 refine I.write (x:=p) (e:=p) (by rw[h];trivial) (.inl rfl) (λb u hb q=>(Heap.get?_update_other _ _ (Ne.symm hb)).trans q) ⟨_,e⟩ ?_;exact ⟨hz,its',n',r,e⟩
abbrev Gg:V->V->V->Hp->(Hp->Prop)->Prop:=λo i v H Q=>∃ p xs k j,o=.ref p/\i=.int k/\H p=some (.lst xs)/\vM xs.length k=some j/\Q (upd H p (.lst (xs.set j v)))
def set_list:Ag X Gg:=by
 intro Y s U H o i v ov iv u Q I ro ri rv h;obtain ⟨p,xs,k,j,rfl,rfl,hp,hj,q⟩:=h;cases ro;obtain ⟨t,rfl⟩:=ri;obtain ⟨its,n,r,ho,hz⟩:=I.lst hp;obtain ⟨h1,h2,h3,h4⟩:=qX hj;have hl:=r.length;have hn:=gJ;have I':Inv X Y U (upd H p (.lst (xs.set j v))) { s with heap:=s.heap.update p (Obj.mapSeq (·.setIfInBounds j u)) }:=
  I.CP hp ho (pB its n j u) (r.set rv j) (by rw[length_set];exact hz) s.toks
 by_cases h0:0<=k
 ·have hk:k.toNat=j:=by
   rw[seqIndex_of h0 h4] at h1;exact Option.some.inj h1
  exact W.ki_setAt ho h0 nofun (by rw[size_toArray,<-hl];exact h4) (by rw[hk];exact ⟨_,I',q⟩)
 ·have hk:(k+(its.toArray.size:Int)).toNat=j:=by
   rw[seqIndex_neg nofun h3] at h1;rw[size_toArray,<-hl];exact Option.some.inj h1
  exact W.ki_setBack ho nofun (by rw[size_toArray,<-hl];exact h3) nofun (by rw[hk];exact ⟨_,I',q⟩)
def lD (lo hi:Option Int)(n:Nat):(sliceBounds lo hi none n).1=((HT.bz n 0 lo:Nat):Int)/\(sliceBounds lo hi none n).2.1=((HT.bz n n hi:Nat):Int)/\(sliceBounds lo hi none n).2.2=1:=by
 refine ⟨?_,?_,rfl⟩
 ·cases lo with
  |none=>simp[sliceBounds,HT.bz]
  |some i=>
   simp only[sliceBounds,HT.bz,Option.getD_none,show (1:Int)>0 by decide,if_true]
   by_cases h:i<0
   ·simp only[h,if_true]<;>omega
   ·simp only[h,if_false]<;>omega
 ·cases hi with
  |none=>simp[sliceBounds,HT.bz]
  |some i=>
   simp only[sliceBounds,HT.bz,Option.getD_none,show (1:Int)>0 by decide,if_true]
   by_cases h:i<0
   ·simp only[h,if_true]<;>omega
   ·simp only[h,if_false]<;>omega
def j7 (its:List Value)(lo hi:Option Int):slicePick its.toArray lo hi none=((its.drop (HT.bz its.length 0 lo)).take (HT.bz its.length its.length hi-HT.bz its.length 0 lo)).toArray:=by
 obtain ⟨h1,h2,h3⟩:=lD lo hi its.toArray.size;unfold slicePick;rw[h1,h2,h3];simp only[sliceRange_one,pick_run,size_toArray]<;>rfl
abbrev HS (K:W.Frag):V->Option Int->Option Int->Hp->VK->Prop:=λx lo hi H Q=>∃ a xs,x=.ref a/\bg K H a xs/\∀ p,H p=none->Q (.ref p) (upd H p (.lst (gZ xs lo hi)))
def AS:Ft X (HS X.K):=by
 intro Y s U H x v vl vu lo hi sl Q I rx hs pl pu h;obtain ⟨a,xs,rfl,hx,q⟩:=h;cases rx;obtain ⟨its,r,ht,hz⟩:=I.list hx;have hlen:=r.length;refine ⟨"list",_,slot_list_getitem.lookup,ht.isList.typeIs,?_⟩;refine wpAny_getItem_list_slice ht.isList hs pl pu .none (by simp) ?_ (by rw[size_toArray]<;>omega);rw[j7,<-hlen];refine ⟨.ref s.heap.objs.size,_,I.laid (t':=s.toks) (o:=.lst (gZ xs lo hi)) (λb ob q=>Heap.get?_push_of_some _ q) (Nat.le_refl _) ?_,rfl,q _ (I.hok.fresh (Nat.le_refl _))⟩;exact ⟨Nat.le_trans (iw xs lo hi) hz,_,0,(r.drop (HT.bz xs.length 0 lo)).take (HT.bz xs.length xs.length hi-HT.bz xs.length 0 lo),Heap.get?_push_size _ rfl⟩
abbrev aJ:V->Bool
 | .non=>true
 | .bl _=>true
 | .int _=>true
 | .str _=>true
 |_=>false
abbrev jT:V->V->Bool
 | .non,.non=>true
 | .bl a,.bl b=>a ==b
 | .bl a,.int b=>(if a then 1 else 0) ==b
 | .int a,.bl b=>a ==(if b then 1 else 0)
 | .int a,.int b=>a ==b
 | .str a,.str b=>a ==b
 |_,_=>false
def vI {A:Around}{x:V}{v:Value}(ry:RelV y u)(rx:RelV x v)(fy:aJ y=true)(fx:aJ x=true):SeqAt.EqAt A s u v (jT y x):=by
 cases y with
 |non=>
  cases ry;cases x with
  |non=>cases rx;exact SeqAt.EqAt.same _
  |bl b=>cases rx;exact SeqAt.EqAt.none_bool b
  |int b=>obtain ⟨t,rfl⟩:=rx;exact SeqAt.EqAt.none_int b t
  |str b=>obtain ⟨t,rfl⟩:=rx;exact SeqAt.EqAt.none_str b t
  |_=>exact absurd (show false=true from fx) Bool.false_ne_true
 |bl a=>
  cases ry;cases x with
  |non=>cases rx;exact SeqAt.EqAt.bool_none a
  |bl b=>cases rx;exact SeqAt.EqAt.bool_bool a b
  |int b=>obtain ⟨t,rfl⟩:=rx;exact SeqAt.EqAt.bool_int a b t
  |str b=>obtain ⟨t,rfl⟩:=rx;exact SeqAt.EqAt.bool_str a b t
  |_=>exact absurd (show false=true from fx) Bool.false_ne_true
 |int a=>
  obtain ⟨t',rfl⟩:=ry;cases x with
  |non=>cases rx;exact SeqAt.EqAt.int_none a t'
  |bl b=>cases rx;exact SeqAt.EqAt.int_bool a t' b
  |int b=>obtain ⟨t,rfl⟩:=rx;exact SeqAt.EqAt.int_int a t' b t
  |str b=>obtain ⟨t,rfl⟩:=rx;exact SeqAt.EqAt.int_str a t' b t
  |_=>exact absurd (show false=true from fx) Bool.false_ne_true
 |str a=>
  obtain ⟨t',rfl⟩:=ry;cases x with
  |non=>cases rx;exact SeqAt.EqAt.str_none a t'
  |bl b=>cases rx;exact SeqAt.EqAt.str_bool a t' b
  |int b=>obtain ⟨t,rfl⟩:=rx;exact SeqAt.EqAt.str_int a t' b t
  |str b=>obtain ⟨t,rfl⟩:=rx;exact SeqAt.EqAt.str_str a t' b t
  |_=>exact absurd (show false=true from fx) Bool.false_ne_true
 |_=>exact absurd (show false=true from fy) Bool.false_ne_true
abbrev yw (x:V)(u:Value):Bool:=match u with
 | .none=>jT .non x
 | .bool b=>jT (.bl b) x
 | .int i _=>jT (.int i) x
 | .str z _=>jT (.str z) x
 |_=>false
def w9 {x:V}(r:RelV y u)(f:aJ y=true):yw x u=jT y x:=by
 cases y with
 |non=>cases r;rfl
 |bl b=>cases r;rfl
 |int i=>obtain ⟨t,rfl⟩:=r;rfl
 |str z=>obtain ⟨t,rfl⟩:=r;rfl
 |_=>exact absurd (show false=true from f) Bool.false_ne_true
def lH {x:V}:∀ {xs:List V}{us:List Value},Vals xs us->xs.all aJ=true->us.any (yw x)=xs.any λy=>jT y x
 |_,_,.nil,_=>rfl
 |y::xs,u::us,.cons r t,f=>by
  rw[all_cons,Bool.and_eq_true] at f;rw[any_cons,any_cons,w9 r f.1,lH t f.2]
def jk {A:Around}{s:Shared}{x:V}{v:Value}(rx:RelV x v)(fx:aJ x=true):∀ {xs:List V}{us:List Value},Vals xs us->xs.all aJ=true->∀ u ∈ us,SeqAt.EqAt A s u v (yw x u)
 |_,_,.nil,_=>λu hu=>by cases hu
 |y::xs,u::us,.cons r t,f=>λu' hu=>by
  rw[all_cons,Bool.and_eq_true] at f;rcases mem_cons.mp hu with rfl|hu
  ·rw[w9 r f.1];exact vI r rx f.1 fx
  ·exact jk rx fx t f.2 u' hu
abbrev EJ (x:V)(xs:List V):Bool:=xs.any λy=>jT y x
abbrev JG (K:W.Frag)(neg:Bool):R2:=λx y H Q=>∃ p xs,y=.ref p/\(bg K H p xs\/bc K H p xs)/\aJ x=true/\xs.all aJ=true/\Q (.bl (if neg then !EJ x xs else EJ x xs)) H
def uk:cS X (compareOp .In) (JG X.K false):=by
 intro Y s U H x y v u Q I rx ry h;obtain ⟨p,xs,rfl,hq,fx,fs,q⟩:=h;cases ry;rcases hq with hq|hq
 ·obtain ⟨its,r,pl,hz⟩:=I.list hq;refine SeqAt.in_listAt (yw x) pl.isList (λw hw=>jk rx fx r fs w (by simpa using hw)) ⟨.bl _,H,I,rfl,?_⟩;rw[show its.toArray.any (yw x)=its.any (yw x) by simp,lH r fs];exact q
 ·obtain ⟨its,r,pl,hz⟩:=I.tuple hq;refine SeqAt.in_tupleAt (yw x) pl (λw hw=>jk rx fx r fs w (by simpa using hw)) ⟨.bl _,H,I,rfl,?_⟩;rw[show its.toArray.any (yw x)=its.any (yw x) by simp,lH r fs];exact q
def lP:ck X (.type "list") (λxs H Q=>∃ p ys,xs=[.ref p]/\(bg X.K H p ys\/bc X.K H p ys)/\∀ l,H l=none->Q (.ref l) (upd H l (.lst ys))):=by
 intro Y s U H xs us Q I r h;obtain ⟨p,ys,rfl,hq,q⟩:=h;obtain ⟨u,rfl,rx⟩:=vals1 r;cases rx;have fin:∀ (its:List Value),Vals ys its->ys.length<=sizeLine->∀ (h':Heap) (c':Nat),(∀ b o',s.heap.get? b=some o'->h'.get? b=some o')->
   h'.get? s.heap.objs.size=some { cls:=.type "list",dict:=none,data:=.seq its.toArray c',slots:=#[] }->EP X Y U Q (.ref s.heap.objs.size) { s with heap:=h' }:=λits r' hz h' c' kp e=>
  ⟨.ref s.heap.objs.size,_,I.laid (t':=s.toks) kp (Nat.le_refl _) (show ax X.prog X.w _ h' _ (.lst ys) from ⟨hz,its,c',r',e⟩),rfl,q _ (I.hok.fresh (Nat.le_refl _))⟩
 rcases hq with hq|hq
 ·obtain ⟨its,r',pl,hz⟩:=I.list hq;have hlen:=r'.length;obtain ⟨o,ho,hc,n,hd⟩:=pl.isList;exact call_list_seq p (.inl rfl) ho hc hd (λh' c' kp e=>fin its r' hz h' c' kp e) (by simp only[size_toArray]<;>omega)
 ·obtain ⟨its,r',pl,hz⟩:=I.tuple hq;have hlen:=r'.length;obtain ⟨o,ho,hc,n,hd⟩:=pl;exact call_list_seq p (.inr rfl) ho hc hd (λh' c' kp e=>fin its r' hz h' c' kp e) (by simp only[size_toArray]<;>omega)
def j6:ck X (.type "tuple") (λxs H Q=>∃ p ys,xs=[.ref p]/\((bg X.K H p ys/\∀ l,H l=none->Q (.ref l) (upd H l (.tup ys)))\/(bc X.K H p ys/\Q (.ref p) H))):=by
 intro Y s U H xs us Q I r h;obtain ⟨p,ys,rfl,h⟩:=h;obtain ⟨u,rfl,rx⟩:=vals1 r;cases rx;rcases h with ⟨hq,q⟩|⟨hq,q⟩
 ·obtain ⟨its,r',pl,hz⟩:=I.list hq;have hlen:=r'.length;refine call_tuple_list pl.isList (λh' kp=>?_) (by simp only[size_toArray]<;>omega);have I1:Inv X Y U H { s with heap:=h' }:=I.kept (t':=s.toks) kp;have I2:Inv X Y U (upd H h'.objs.size (.tup ys)) { s with heap:=h'.push { cls:=.type "tuple",data:=.seq its.toArray } }:=
   I1.laid (t':=s.toks) (λb o e=>Heap.get?_push_of_some _ e) (Nat.le_refl _) (show ax X.prog X.w _ _ _ (.tup ys) from ⟨hz,its,r',IsTup.new _ _⟩)
  exact ⟨.ref h'.objs.size,_,I2,rfl,q _ (I1.hok.fresh (Nat.le_refl _))⟩
 ·obtain ⟨its,r',pl,hz⟩:=I.tuple hq;exact call_tuple_same pl ⟨.ref p,H,I,rfl,q⟩
abbrev HV (K:W.Frag)(T:String)(x:V)(H:Hp):Prop:=match x with
 | .str _=>T="str"
 | .int _=>T="int"
 | .ref p=>(T="list"/\∃ xs,bg K H p xs)\/(T="tuple"/\∃ o,K.lookup p=some o/\o.cls=.type "tuple"/\o.dict=none)\/
   (T="dict"/\((∃ kvs,H p=some (.dK kvs))\/∃ kvs,H p=some (.dT kvs)))\/(T="set"/\∃ S n,H p=some (.set S n))
 |_=>False
def xw {T:String}{x:V}{v:Value}(I:Inv X Y U H s)(r:RelV x v)(ty:HV X.K T x H):
  s.TypeIs v T/\∀ a,v=.ref a->∃ ob,s.heap.get? a=some ob/\ob.dict=none:=by
 cases x with
 |str z=>
  obtain ⟨t,rfl⟩:=r;cases (show T="str" from ty);exact ⟨typeIs_str s z t,λ_ e=>nomatch e⟩
 |int i=>
  obtain ⟨t,rfl⟩:=r;cases (show T="int" from ty);exact ⟨typeIs_int s i t,λ_ e=>nomatch e⟩
 |ref p=>
  cases r;rcases ty with ⟨rfl,xs,hq⟩|⟨rfl,o,hk,hc,hd⟩|⟨rfl,hk⟩|⟨rfl,S,n,hk⟩
  ·obtain ⟨its,_,pl,_⟩:=I.list hq;refine ⟨pl.isList.typeIs,λa e=>?_⟩;cases e;obtain ⟨o,n,e,c,hd,_⟩:=pl;exact ⟨o,e,hd⟩
  ·refine ⟨⟨o,I.bG p o hk,hc⟩,λa e=>?_⟩;cases e;exact ⟨o,I.bG _ o hk,hd⟩
  ·have z:∃ o,s.heap.get? p=some o/\o.ExactDict:=by
    rcases hk with ⟨kvs,hk⟩|⟨kvs,hk⟩
    ·obtain ⟨_,_,_,_,o,_,_,e,ex,_⟩:=I.hok p _ hk;exact ⟨o,e,ex⟩
    ·obtain ⟨_,_,_,_,o,_,_,e,ex,_⟩:=I.hok p _ hk;exact ⟨o,e,ex⟩
   obtain ⟨o,e,ex⟩:=z;refine ⟨⟨o,e,ex.1⟩,λa e2=>?_⟩;cases e2;exact ⟨o,e,ex.2.1⟩
  ·obtain ⟨o,_,_,_,e,ex,_⟩:=I.hok p _ hk;refine ⟨⟨o,e,ex.1⟩,λa e2=>?_⟩;cases e2;exact ⟨o,e,ex.2.1⟩
 |_=>exact False.elim ty
abbrev Hu (K:W.Frag)(T:String)(r:V->List V->Hp->VK->Prop)(to:TE):TE:=λU H Q=>to U H λx H1=>HV K T x H1/\r x [] H1 Q
abbrev Jv (K:W.Frag)(T:String)(r:V->List V->Hp->VK->Prop)(to:TE)(t:TA):TE:=λU H Q=>to U H λx H1=>HV K T x H1/\t U H1 λxs H2=>r x xs H2 Q
variable {o e:Expr}{es:List Expr}{to:TE}{t:TA}{name:Str}{apos cpos:Pos}{T id:String}{r:V->List V->Hp->VK->Prop}
def CU (pa:PlainAttrs T)(slot:Slot T name id)(hty:typeOf (.builtin id)=pure (.type "method_descriptor")) (hm:Hg X id r) (ho:PE X o to)
  (hbase:attributeBase o name X.env (eval o X.env)=eval o X.env:=by rfl) (hline:(apos.endLine ==cpos.line)=true:=by rfl):PE X (.Call (.Attribute o name apos) [] [] cpos) (Hu X.K T r to):=by
 intro Y s U H Q I h;refine wpAny_Call_method0_late hbase hline (au (ho Y s U H _ I h) λv s1 ⟨x,H1,I1,r1,ty,q1⟩=>?_);obtain ⟨h1,h2⟩:=xw I1 r1 ty;exact ⟨T,id,pa,slot,hty,h1,h2,Calls.callWith_builtin rfl (PySem.evalArgs_none (hm Y s1 U H1 x [] v [] Q I1 r1 .nil q1))⟩
def Gm (pa:PlainAttrs T)(slot:Slot T name id)(hty:typeOf (.builtin id)=pure (.type "method_descriptor")) (hm:Hg X id r) (ho:PE X o to) (ha:PA X (e::es) t)
  (hbase:attributeBase o name X.env (eval o X.env)=eval o X.env:=by rfl)
  (hfew:((backTo cpos (starEach (e::es) X.env)).all (λx=>!x.1)&&(backToKw cpos (keywordEach [] X.env)).all (λx=>x.1.isSome)
   &&decide ((e::es).length+([]:List Keyword).length+(if ([]:List Keyword).isEmpty then 0 else 1)<30))=true:=by rfl)
  (hline:(apos.endLine ==cpos.line)=true:=by rfl) (hs:starEach (e::es) X.env=(false,eval e X.env)::starEach es X.env:=by rfl) (hplain:(backTo cpos (starEach es X.env)).any (·.1)=false:=by rfl):
  PE X (.Call (.Attribute o name apos) (e::es) [] cpos) (Jv X.K T r to t):=by
 intro Y s U H Q I h;refine wpAny_Call_method_late hbase hfew hline rfl (au (ho Y s U H _ I h) λv s1 ⟨x,H1,I1,r1,ty,q1⟩=>?_);obtain ⟨h1,h2⟩:=xw I1 r1 ty;refine ⟨T,id,pa,slot,hty,h1,h2,?_⟩;have hA:=ha cpos Y s1 U H1 _ I1 q1;rw[hs] at hA⊢;refine Calls.callWith_builtin (by show (false||(backTo cpos (starEach es X.env)).any (·.1))=false;rw[hplain]<;>rfl) (Calls.evalArgs_plain ?_);exact au hA λus s2 ⟨vs,H2,I2,r2,q2⟩=>hm Y s2 U H2 x vs v us Q I2 r1 r2 q2
/- xs.append(e),list.index on a module's tuple .. are Hg facts of 06m -/
end
abbrev Je (X:Cx)(id:String)(r:V->List V->Hp->VK->Prop):Prop:=
 ∀ (Y:JS) (s:Shared) (U:St) (H:Hp) (x:V) (xs:List V) (v:Value) (us:List Value) (Q:VK),Inv X Y U H s->RelV x v->Vals xs us->r x xs H Q->
  wpAny (model X.prog X.w) X.A (call (.builtin id) (v::us)) (EP X Y U Q) X.xe s
def Vals.one:∀ {x:V}{us:List Value},Vals [x] us->∃ u,us=[u]/\RelV x u
 |_,_,.cons r .nil=>⟨_,rfl,r⟩
def Vals.zero:∀ {us:List Value},Vals [] us->us=[]
 |_,.nil=>rfl
variable {us:List Value}
def Vals.reverse {xs:List V}(h:Vals xs us):Vals xs.reverse us.reverse:=by
 induction h with
 |nil=>exact .nil
 |cons r t ih=>rw[List.reverse_cons,List.reverse_cons];exact Vals.append ih (.cons r .nil)
def Vals.rep {xs:List V}(h:Vals xs us):∀ k:Nat,Vals (List.replicate k xs).flatten (List.replicate k us).flatten
 |0=>.nil
 |k+1=>by
  rw[replicate_succ,replicate_succ,flatten_cons,flatten_cons];exact Vals.append h (Vals.rep h k)
def foldl_rep (its:List Value):∀ (k:Nat) (acc:List Value),
  List.foldl (λx1 x2=>x1++x2) acc.toArray (List.replicate k its.toArray)=(acc++(List.replicate k its).flatten).toArray
 |0,acc=>by simp
 |k+1,acc=>by
  have e:acc.toArray++its.toArray=(acc++its).toArray:=by simp
  have e2:(acc++its)++(List.replicate k its).flatten=acc++(List.replicate (k+1) its).flatten:=by
   rw[replicate_succ,flatten_cons,append_assoc]
  rw[<-e2,<-foldl_rep its k (acc++its),<-e,replicate_succ,foldl_cons]
section
variable {X:Cx}{Y:JS}{U:St}{H:Hp}{s:Shared}{l b:Addr}{xs ys zs:List V}
def Inv.E9 {its its':List Value}{f:Array Value->Array Value}{t':Nat}(I:Inv X Y U H s)(hH:H l=some (.lst xs))
  (e:s.heap.get? l=some { cls:=.type "list",data:=.seq its.toArray n }) (hf:f its.toArray=its'.toArray) (hv:Vals ys its') (hz:ys.length<=sizeLine):
  Inv X Y U (upd H l (.lst ys)) { s with heap:=s.heap.update l (Obj.mapSeq f),toks:=t' }:=by
 have q:=PySem.IsL.update e f;rw[hf] at q;refine I.write (x:=l) (e:=l) (by rw[hH];exact trivial) (.inl rfl) (λb' u hb hu=>(Heap.get?_update_other s.heap (Obj.mapSeq f) (Ne.symm hb)).trans hu) ⟨_,q⟩ ?_;exact ⟨hz,its',_,hv,q⟩
def Inv.Gj {its:List Value}{t':Nat}(I:Inv X Y U H s)(hv:Vals ys its)(hz:ys.length<=sizeLine):
  Inv X Y U (upd H s.heap.objs.size (.lst ys)) { s with heap:=s.heap.push { cls:=.type "list",data:=.seq its.toArray },toks:=t' }:=
 I.laid (λ_ _ q=>Heap.get?_push_of_some _ q) (Nat.le_refl _) ⟨hz,its,0,hv,Heap.get?_push_size _ rfl⟩
def Inv.fresh (I:Inv X Y U H s):H s.heap.objs.size=none:=I.hok.fresh (Nat.le_refl _)
def Inv.pX (I:Inv X Y U H s)(hH:H l=some (.lst xs)):xs.length<=sizeLine/\∃ (its:List Value) (n:Nat),Vals xs its/\xs.length=its.length/\s.heap.get? l=some { cls:=.type "list",data:=.seq its.toArray n }:=by
 obtain ⟨z,its,n,r,e⟩:=I.hok l _ hH;exact ⟨z,its,n,r,r.length,e⟩
def pk (h:n<=sizeLine):Builtin.List.listTooLong n=false:=by
 unfold Builtin.List.listTooLong;exact decide_eq_false nofun
end
section
variable {X:Cx}
abbrev zh:V->List V->Hp->VK->Prop:=λx vs H Q=>∃ l xs y,x=.ref l/\vs=[y]/\H l=some (.lst xs)/\xs.length<sizeLine/\Q .non (upd H l (.lst (xs++[y])))
def gI:Je X "list.append" zh:=by
 intro Y s U H x vs v us Q I rx rv h;obtain ⟨l,xs,y,rfl,rfl,hH,hz,q⟩:=h;cases rx;obtain ⟨u,rfl,ru⟩:=rv.one;obtain ⟨z,its,n,r,hl,e⟩:=I.pX hH;refine call_meets F.slot_list_append ⟨_,e,rfl⟩ F.entry_list_append (F.args_list_append_2 _ _) (PySem.list_append l its.toArray n u (by rw[size_toArray];omega)) ⟨e,?_⟩;refine ⟨.non,_,I.E9 (its':=its++[u]) hH e (by simp) (r.append (.cons ru .nil)) ?_,rfl,q⟩;rw[length_append,length_singleton]
 omega
abbrev Ax:V->List V->Hp->VK->Prop:=λx vs H Q=>∃ l b xs zs,x=.ref l/\vs=[.ref b]/\H l=some (.lst xs)/\H b=some (.lst zs)/\xs.length+zs.length<=sizeLine/\Q .non (upd H l (.lst (xs++zs)))
def tw:Je X "list.extend" Ax:=by
 intro Y s U H x vs v us Q I rx rv h;obtain ⟨l,b,xs,zs,rfl,rfl,hH,hB,hz,q⟩:=h;cases rx;obtain ⟨u,rfl,ru⟩:=rv.one;cases ru;obtain ⟨z,its,n,r,hl,e⟩:=I.pX hH;obtain ⟨z2,jQ,n2,r2,hl2,e2⟩:=I.pX hB;have hsz:its.toArray.size+jQ.toArray.size<=sizeLine:=by rw[size_toArray,size_toArray];omega
 have hlong:¬ (!its.toArray.isEmpty&&Builtin.List.listTooLong (its.toArray.size+jQ.toArray.size))=true:=by
  rw[pk hsz,Bool.and_false];exact Bool.false_ne_true
 refine call_meets F.slot_list_extend ⟨_,e,rfl⟩ F.entry_list_extend (F.args_list_extend_2 _ _)
  (AutoSeq1.list_extend_list_list_0 l its.toArray n b jQ.toArray n2 hlong (by rw[size_toArray];omega) nofun) ⟨e,e2,?_⟩
 refine ⟨.non,_,I.E9 (its':=its++jQ) hH e (by simp) (r.append r2) ?_,rfl,q⟩;rw[length_append]
 omega
abbrev Ic:R2:=λx y H Q=>∃ l b xs zs,x=.ref l/\y=.ref b/\H l=some (.lst xs)/\H b=some (.lst zs)/\xs.length+zs.length<=sizeLine/\∀ p,H p=none->Q (.ref p) (upd H p (.lst (xs++zs)))
def Dm:cS X (binaryOp .Add) Ic:=by
 intro Y s U H x y v u Q I rx ry h;obtain ⟨l,b,xs,zs,rfl,rfl,hH,hB,hz,q⟩:=h;cases rx;cases ry;obtain ⟨z,its,n,r,hl,e⟩:=I.pX hH;obtain ⟨z2,jQ,n2,r2,hl2,e2⟩:=I.pX hB;refine PySem.P.add_list e e2 ?_ (by rw[size_toArray,size_toArray];omega);have ea:its.toArray++jQ.toArray=(its++jQ).toArray:=by simp
 rw[ea];exact ⟨.ref _,_,I.Gj (t':=s.toks) (r.append r2) (by rw[length_append];omega),rfl,q _ I.fresh⟩
abbrev Im:R2:=λx y H Q=>∃ l k xs,x=.ref l/\y=.int k/\H l=some (.lst xs)/\ -(2 ^ 63)<=k/\k<2 ^ 63/\xs.length*k.toNat<=sizeLine/\
 ∀ p,H p=none->Q (.ref p) (upd H p (.lst (List.replicate k.toNat xs).flatten))
def len_rep (xs:List α)(k:Nat):(List.replicate k xs).flatten.length=k*xs.length:=by
 induction k with
 |zero=>simp
 |succ k ih=>rw[replicate_succ,flatten_cons,length_append,ih,Nat.succ_mul,Nat.add_comm]
def DF:cS X (binaryOp .Mult) Im:=by
 intro Y s U H x y v u Q I rx ry h;obtain ⟨l,k,xs,rfl,rfl,hH,h1,h2,hz,q⟩:=h;cases rx;obtain ⟨t,rfl⟩:=ry;obtain ⟨z,its,n,r,hl,e⟩:=I.pX hH;have hlen:its.toArray.size*k.toNat<=sizeLine:=by rw[size_toArray,<-hl];exact hz
 have hcap:¬ its.toArray.size*k.toNat>(2 ^ 63-1) / 8:=by
  have:(sizeLine:Nat)<=(2 ^ 63-1) / 8:=by decide
  omega
 have hfit:¬ (!Builtin.List.listFitsIndex k)=true:=by
  rw[fitsIndex_both h1 h2];exact Bool.false_ne_true
 have hlong:¬ Builtin.List.listTooLong (its.toArray.size*k.toNat)=true:=by
  rw[pk hlen];exact Bool.false_ne_true
 have hnew:List.foldl (λx1 x2=>x1++x2) #[] (List.replicate (if its.toArray.isEmpty=true then 0 else k.toNat) its.toArray)=(List.replicate k.toNat its).flatten.toArray:=by
  have f0:∀ m:Nat,List.foldl (λx1 x2=>x1++x2) #[] (List.replicate m its.toArray)=(List.replicate m its).flatten.toArray:=λm=>by
   have:=foldl_rep its m [];rw[nil_append] at this;exact this
  rw[f0];cases its with
  |nil=>simp
  |cons a r'=>rw[if_neg (by simp)]
 refine wpAny_binaryOp_repeat_ref (T:="list") (U:="int") (by decide) ⟨_,e,rfl⟩ (λs'=>typeIs_int s' k t) noFill_list_mul F.fills_int_mul F.slot_int_rmul repeat_list F.slot_int_index.lookup
  (call_meets F.slot_int_rmul (typeIs_int s k t) F.entry_int_rmul (F.args_int_rmul_2 _ _) (int___rmul___int_list k t l its.toArray n)
   ⟨e,rfl,⟨_,e,rfl⟩,call_meets F.slot_list_mul ⟨_,e,rfl⟩ F.entry_list_mul (F.args_list_mul_2 _ _) (AutoListH.list___mul___list_int_3 l its.toArray n k t hfit hcap hlong) ⟨e,?_⟩⟩)
 rw[hnew];exact ⟨.ref _,_,I.Gj (t':=s.toks) (r.rep k.toNat) (by rw[len_rep,Nat.mul_comm];exact hz),rfl,q _ I.fresh⟩
end
section
variable {prog:Program}{w:World}{A:Around}{E:JR}{s:Shared}
set_option maxRecDepth 100000 in
end
section
variable {X:Cx}
end
variable {o:Option V}
section
variable {κ:Type} [DecidableEq κ]
abbrev gQ (kvs:List (κ×V))(k:κ):Option V:=(kvs.find? λkv=>decide (kv.1=k)).map (·.2)
abbrev putK (kvs:List (κ×V))(k:κ)(v:V):List (κ×V):=
 if (kvs.any λkv=>decide (kv.1=k))=true then kvs.map (λkv=>if kv.1=k then (kv.1,v) else kv) else kvs++[(k,v)]
def jh {p:κ×V}{r:List (κ×V)}{k:κ}(e:p.1=k):gQ (p::r) k=some p.2:=by simp[gQ,find?_cons,e]
def jm {p:κ×V}{r:List (κ×V)}{k:κ}(e:¬ p.1=k):gQ (p::r) k=gQ r k:=by simp[gQ,find?_cons,e]
def nQ (k:κ):∀ kvs:List (κ×V),(kvs.any λkv=>decide (kv.1=k))=(gQ kvs k).isSome
 | []=>rfl
 |p::r=>by
  rw[any_cons]
  by_cases e:p.1=k
  ·simp only[jh e,decide_eq_true e,Bool.true_or,Option.isSome_some]
  ·rw[jm e,decide_eq_false e,Bool.false_or];exact nQ k r
def hX (kvs:List (κ×V))(k:κ)(v:V):(putK kvs k v).length<=kvs.length+1:=by
 unfold putK
 split
 ·rw[length_map];omega
 ·rw[length_append,length_cons,List.length_nil];omega
def cR.sP {u:Option Value}(r:cR o u):o.isSome=u.isSome:=by
 cases o with
 |none=>cases u with
  |none=>rfl
  |some _=>exact (show False from r).elim
 |some _=>cases u with
  |none=>exact (show False from r).elim
  |some _=>rfl
def KV.val {kvs:List (κ×V)}{vs:List (κ×Value)}(r:KV kvs vs)(k:κ):cR (gQ kvs k) (valueAt vs k):=by
 unfold KV at r
 induction r with
 |nil=>exact True.intro
 | @cons p q ps qs h t ih=>
  obtain ⟨h1,h2⟩:=h
  by_cases e:p.1=k
  ·have e':q.1=k:=h1.symm.trans e;have b:valueAt (q::qs) k=some q.2:=by simp[valueAt,find?_cons,e']
   rw[jh e,b];exact h2
  ·have e':¬ q.1=k:=λz=>e (h1.trans z)
   have b:valueAt (q::qs) k=valueAt qs k:=by simp[valueAt,find?_cons,e']
   rw[jm e,b];exact ih
def KV.any {kvs:List (κ×V)}{vs:List (κ×Value)}(r:KV kvs vs)(k:κ):(kvs.any λkv=>decide (kv.1=k))=vs.any λkv=>decide (kv.1=k):=by
 unfold KV at r
 induction r with
 |nil=>rfl
 |cons h t ih=>rw[any_cons,any_cons,ih,h.1]
def KV.DQ {kvs:List (κ×V)}{vs:List (κ×Value)}(r:KV kvs vs)(k:κ)(ry:RelV y u):
  KV (kvs.map λkv=>if kv.1=k then (kv.1,y) else kv) (vs.map λkv=>if kv.1=k then (kv.1,u) else kv):=by
 unfold KV at r⊢
 induction r with
 |nil=>exact .nil
 | @cons p q ps qs h t ih=>
  rw[map_cons,map_cons];refine .cons ?_ ih;obtain ⟨h1,h2⟩:=h
  by_cases e:p.1=k
  ·rw[if_pos e,if_pos (h1.symm.trans e)];exact ⟨h1,ry⟩
  ·rw[if_neg e,if_neg (λz=>e (h1.trans z))];exact ⟨h1,h2⟩
def KV.put {kvs:List (κ×V)}{vs:List (κ×Value)}(r:KV kvs vs)(k:κ)(ry:RelV y u):KV (putK kvs k y) (stored vs k u):=by
 unfold putK stored;rw[r.any k]
 by_cases e:(vs.any λkv=>decide (kv.1=k))=true
 ·rw[if_pos e,if_pos e];exact r.DQ k ry
 ·rw[if_neg e,if_neg e];exact Paired.snoc r ⟨rfl,ry⟩
def KV.length {kvs:List (κ×V)}{vs:List (κ×Value)}(r:KV kvs vs):kvs.length=vs.length:=Paired.length r
end
variable {P:Program}
def rF {w:World}{k:Key}(r:RelV (kV k) u):(aE P w).is k u=true:=by
 cases k with
 |inl i=>obtain ⟨t,e⟩:=(show ∃ t,u=Value.int i t from r);subst e;exact pe P w i t
 |inr x=>obtain ⟨t,e⟩:=(show ∃ t,u=Value.str x t from r);subst e;exact oY P w x t
def kF {P:Program}{w:World}:∀ {ks:List Key}{us:List Value},Vals (ks.map kV) us->ItemsAre (aE P w) ks us
 | [],_,r=>by rw[List.map_nil] at r;cases r;exact .nil
 |k::ks,_,r=>by
  rw[map_cons] at r;cases r with
  |cons h t=>exact .cons (rF h) (kF t)
@[reducible]def KT (H:Hp):List (List Key×V)->List (List Key×Addr×Value)->Prop:=Paired λp q=>p.1=q.1/\H q.2.1=some (.tup (p.1.map kV))/\RelV p.2 q.2.2
variable {xs:List (List Key×Addr×Value)}{kvs:List (List Key×V)}
def KT.val (r:KT H kvs xs)(k:List Key):cR (gQ kvs k) ((atKey xs k).map (·.2)):=by
 induction r with
 |nil=>exact True.intro
 | @cons p q ps qs h t ih=>
  obtain ⟨h1,_,h2⟩:=h
  by_cases e:p.1=k
  ·have e':q.1=k:=h1.symm.trans e;have b:atKey (q::qs) k=some q.2:=by simp[atKey,find?_cons,e']
   rw[jh e,b];exact h2
  ·have e':¬ q.1=k:=λz=>e (h1.trans z)
   have b:atKey (q::qs) k=atKey qs k:=by simp[atKey,find?_cons,e']
   rw[jm e,b];exact ih
def KT.DQ (r:KT H kvs xs)(k:List Key)(ry:RelV y u):
  KT H (kvs.map λkv=>if kv.1=k then (kv.1,y) else kv) (xs.map (putAt k u)):=by
 induction r with
 |nil=>exact .nil
 | @cons p q ps qs h t ih=>
  rw[map_cons,map_cons];refine .cons ?_ ih;obtain ⟨h1,h2,h3⟩:=h;unfold putAt
  by_cases e:p.1=k
  ·rw[if_pos e,if_pos (h1.symm.trans e)];exact ⟨h1,h2,ry⟩
  ·rw[if_neg e,if_neg (λz=>e (h1.trans z))];exact ⟨h1,h2,h3⟩
def KT.put (r:KT H kvs xs)(k:List Key){b:Addr}(hb:H b=some (.tup (k.map kV)))(ry:RelV y u):
  KT H (putK kvs k y) (storedH xs k b u):=by
 have e:(kvs.any λkv=>decide (kv.1=k))=(atKey xs k).isSome:=by
  rw[nQ,(r.val k).sP,Option.isSome_map]
 unfold putK storedH;rw[e]
 by_cases q:(atKey xs k).isSome=true
 ·rw[if_pos q,if_pos q];exact r.DQ k ry
 ·rw[if_neg q,if_neg q];exact Paired.snoc r ⟨rfl,hb,ry⟩
variable {H':Hp}
def KT.keeps (r:KT H kvs xs)(ht:∀ b ys,H b=some (.tup ys)->H' b=some (.tup ys)):KT H' kvs xs:=
 Paired.Cz r λ_ _ z=>⟨z.1,ht _ _ z.2.1,z.2.2⟩
section
variable {P:Program}{w:World}{H:Hp}{h:Heap}{a:Addr}
def BC {u:HO}(ok:fv P w H h)(e:Rd H a u):ax P w H h a u:=e.ok ok
def kr {kvs:List (Key×V)}(ok:fv P w H h)(e:Rd H a (.dK kvs)):kvs.length<=sizeLine/\(a ==sysModules)=false/\∃ vs,KV kvs vs/\h.DictOf (aE P w) a vs:=
 show ax P w H h a (.dK kvs) from BC ok e
def Gv {kvs:List (Key×V)}(ok:fv P w H h)(e:H a=some (.dK kvs)):kvs.length<=sizeLine/\(a ==sysModules)=false/\∃ vs,KV kvs vs/\h.DictOf (aE P w) a vs:=kr ok (.inl e)
def pJ {ks:List Key}(ok:fv P w H h)(e:H a=some (.tup (ks.map kV))):(tupleKind (aE P w)).is h ks a:=by
 obtain ⟨_,its,r,o,h1,h2,n,h3⟩:=(show ax P w H h a (.tup (ks.map kV)) from ok a _ e);exact ⟨o,its.toArray,n,h1,h2,h3,by simpa using kF r⟩
def vK (ok:fv P w H h)(e:Rd H a (.dT kvs)):kvs.length<=sizeLine/\(a ==sysModules)=false/\
  ∃ xs,KT H kvs xs/\h.DictOfH (tupleKind (aE P w)) a xs:=by
 obtain ⟨z,y,xs,r,o,es,ep,h1,h2,h3,h4,h5⟩:=(show ax P w H h a (.dT kvs) from BC ok e);refine ⟨z,y,xs,r,o,es,ep,h1,h2,h3,h4,λx hx=>?_,h5⟩;have all:∀ {l:List (List Key×V)}{m:List (List Key×Addr×Value)},KT H l m->∀ x ∈ m,(tupleKind (aE P w)).is h x.1 x.2.1:=by
  intro l m q
  induction q with
  |nil=>intro x hx;exact nomatch hx
  | @cons p q ps qs hq t ih=>
   intro x hx;rcases mem_cons.mp hx with e|hx
   ·subst e;exact pJ ok (by rw[<-hq.1];exact hq.2.1)
   ·exact ih x hx
 exact all r x hx
def F8 (ok:fv P w H h)(e:H a=some (.dT kvs)):kvs.length<=sizeLine/\(a ==sysModules)=false/\
  ∃ xs,KT H kvs xs/\h.DictOfH (tupleKind (aE P w)) a xs:=vK ok (.inl e)
end
abbrev Dd (H:Hp)(a:Addr)(y:V)(r:Option V):Prop:=
 (∃ kvs k,Rd H a (.dK kvs)/\y=kV k/\r=gQ kvs k)\/∃ kvs k b,Rd H a (.dT kvs)/\y=.ref b/\H b=some (.tup (k.map kV))/\r=gQ kvs k
abbrev FL (H:Hp)(a:Addr)(y v:V)(H':Hp):Prop:=
 (∃ kvs k,H a=some (.dK kvs)/\y=kV k/\kvs.length<sizeLine/\H'=upd H a (.dK (putK kvs k v)))\/
 ∃ kvs k b,H a=some (.dT kvs)/\y=.ref b/\H b=some (.tup (k.map kV))/\kvs.length<sizeLine/\H'=upd H a (.dT (putK kvs k v))
section
variable {X:Cx}{Y:JS}{U:St}{H:Hp}{s:Shared}{a:Addr}{y v:V}{u r:Value}{o:Option V}{A:Around}{E:JR}
def Inv.big (I:Inv X Y U H s):sysModules<s.heap.objs.size:=by
 have h:mainGlobals<s.heap.objs.size:=(I.mod.glob.keeps I.bk).lt;exact Nat.lt_trans (by decide) h
def tE {Q:JR}(hu:A.units+1<cLine)(I:Inv X Y U H s)(g:Dd H a y (some v))(ry:RelV y u)(h:∀ w' s',Inv X Y U H s'->RelV v w'->Q w' s'):
  wpAny (model X.prog X.w) A (getItem (.ref a) u) Q E s:=by
 rcases g with ⟨kvs,k,e,ey,l⟩|⟨kvs,k,b,e,ey,eb,l⟩
 ·subst ey;obtain ⟨z,hd,vs,rel,dd⟩:=kr I.hok e;obtain ⟨w',hw,rw'⟩:=cR.some_of (v:=v) (o:=valueAt vs k) (by rw[l];exact rel.val k);exact wpAny_getItem_of (rF ry) dd.mapOf hw (h w' _ (I.tok _) rw')
 ·subst ey;cases (show u=Value.ref b from ry);obtain ⟨z,hd,xs,rel,dd⟩:=vK I.hok e;obtain ⟨w',hw,rw'⟩:=cR.some_of (v:=v) (o:=(atKey xs k).map (·.2)) (by rw[l];exact rel.val k);obtain ⟨p,hp,hp2⟩:=Option.map_eq_some_iff.mp hw;refine wpAny_getItem_heap (tupleKind_room_in1 hu) (pJ I.hok eb) dd hp ?_;rw[hp2];exact h w' _ (I.tok _) rw'
def r8 {h':Heap}{t':Nat}{ob:HO}(I:Inv X Y U H s)(mu:Fh (H a))(hs:Heap.SameBut a s.heap h')(he:∃ q,h'.get? a=some q) (new:ax X.prog X.w (upd H a ob) h' a ob):
  Inv X Y U (upd H a ob) { s with heap:=h',toks:=t' }:=
 I.write (x:=a) (e:=a) mu (.inl rfl) (λb q hb z=>(hs.2 b hb).trans z) he new
def uP {w:World}{h':Heap}{kvs:List (Key×V)}{vs:List (Key×Value)}(z:kvs.length<=sizeLine)(hd:(a ==sysModules)=false)(rel:KV kvs vs)(dd:h'.DictOf (aE P w) a vs):
  ax P w H' h' a (.dK kvs):=⟨z,hd,vs,rel,dd⟩
def tR {Q:JQ}(hu:A.units+1<cLine)(I:Inv X Y U H s)(g:FL H a y v H')(ry:RelV y u)(rv:RelV v r)(h:∀ s',Inv X Y U H' s'->Q () s'):
  wpAny (model X.prog X.w) A (setItem (.ref a) u r) Q E s:=by
 rcases g with ⟨kvs,k,e,ey,l,eH⟩|⟨kvs,k,b,e,ey,eb,l,eH⟩
 ·subst ey eH;obtain ⟨z,hd,vs,rel,dd⟩:=Gv I.hok e;have hz:vs.length<=sizeLine:=by rw[<-rel.length];exact z
  have hl:(putK kvs k v).length<=sizeLine:=by have:=hX kvs k v;omega
  refine wpAny_setItem_pairs (hsz:=hz) (rF ry) dd λh' dd' hs=>h _ ?_
  have he:∃ q,h'.get? a=some q:=let ⟨q,_,_,hq,_⟩:=dd';⟨q,hq⟩;exact r8 I (by rw[e];exact True.intro) hs he (uP hl hd (rel.put k rv) dd')
 ·subst ey eH;cases (show u=Value.ref b from ry);obtain ⟨z,hd,xs,rel,dd⟩:=F8 I.hok e;have hz:xs.length<=sizeLine:=by rw[<-Paired.length rel];exact z
  have hl:(putK kvs k v).length<=sizeLine:=by have:=hX kvs k v;omega
  refine wpAny_setItem_heap (hsz:=hz) (tupleKind_room_in1 hu) (pJ I.hok eb) dd λh' dd' hs=>h _ ?_
  obtain ⟨q,es,ep,hq,h2,h3,h4,_,h5⟩:=dd';refine r8 I (by rw[e];exact True.intro) hs ⟨q,hq⟩ ⟨hl,hd,_,(rel.put k eb rv).keeps λc ys ec=>?_,q,es,ep,hq,h2,h3,h4,h5⟩;rw[af (GX ec e (λz=>nomatch z))];exact ec
end
section
variable {X:Cx}{Y:JS}{U:St}{H:Hp}{s:Shared}{a:Addr}{kvs:List (Key×V)}{k:Key}{u:Value}{A:Around}{E:JR}
end
def nO {X:Cx}{a:Addr}(I:Inv X Y U H s)(g:Dd H a y o):s.TypeIs (.ref a) "dict":=by
 rcases g with ⟨kvs,k,e,_,_⟩|⟨kvs,k,b,e,_,_,_⟩
 ·obtain ⟨_,_,vs,_,dd⟩:=kr I.hok e;exact dd.typeIs
 ·obtain ⟨_,_,xs,_,dd⟩:=vK I.hok e;exact dd.typeIs
section
variable {X:Cx}{o i e value:Expr}{pos pos' tpos:Pos}{td ty tv:TE}
end
section
variable {X:Cx}{pos:Pos}
end
section
variable {X:Cx}{Y:JS}{U:St}{H:Hp}{s:Shared}{a:Addr}{y d:V}{u r:Value}{o:Option V}{A:Around}{E:JR}
end
section
variable {X:Cx}{o e f:Expr}{apos cpos:Pos}{td ty tx:TE}
end
section
variable {X:Cx}{Y:JS}{U:St}{H:Hp}{s:Shared}{a:Addr}{kvs:List (Key×V)}{A:Around}{E:JR}
end
section
variable {X:Cx}{Y:JS}{U:St}{H:Hp}{s:Shared}{a:Addr}{y:V}{u:Value}{A:Around}{E:JR}
end
end L2
namespace Att
open PySem PySem.W PySem.Calls PyProof.Rows
variable {P:Params}
def iK {h:Heap}:∀ (ns:List Int) (vs:List Value),WellAll P h vs (ns.map WData.int)->IntsAre vs ns:=by
 intro ns
 induction ns with
 |nil=>
  intro vs w;rw[List.map_nil] at w;cases w;exact .nil
 |cons n ns ih=>
  intro vs w;rw[map_cons] at w;cases w with
  |cons a b=>
   cases a;exact .cons _ _ (ih _ b)
variable {l:OpenLaw}
def tj {n:Nat}(hn:l.most=some n){h:Heap}{args:List WData}{vals:List Value}
  (hpre:l.row.toRowW.claim.pre args=true) (hwl:WellAll P h vals args):
  ∃ a vs ns,vals=[Value.ref a]/\args=[WData.list (ns.map WData.int)]/\h.get? a=some { cls:=.type "list",data:=.seq vs.toArray }/\IntsAre vs ns/\ns.length<=n:=by
 have hsh:WShape.hasAll [] args [.list .int]=true:=(pre_splitW hpre).1;have hc:l.pre.holds [] { args:=args }=true:=(pre_splitW hpre).2;obtain ⟨d,r,rfl,h1,h2⟩:=hasAllW_cons hsh;obtain rfl:=hasAllW_nil h2;obtain ⟨xs,rfl,h3⟩:=hasW_list h1;obtain ⟨ns,rfl⟩:=items_int h3;have hlen:ns.length<=n:=by
  unfold OpenLaw.pre at hc;have h4:(WTm.not (.lt (.lit (.int (n:Int))) (.len (.arg 0)))).holds [] { args:=[.list (ns.map .int)] }=true:=by
   have h4:=(holds_andW hc).1;rw[hn] at h4;exact h4
  have h5:=condW_of h4 (w_not (w_lt w_lit (w_len_list (w_arg rfl))));rw[length_map] at h5;refine Nat.le_of_not_lt λq=>?_
  have q':(n:Int)<((ns.length:Nat):Int):=by omega
  first
   |(rw[decide_eq_true q'] at h5;exact absurd h5 (by decide))
   |(simp at h5;omega)
 cases hwl with
 |cons w1 w2=>
  cases w2;cases w1 with
  |list ho hall=>exact ⟨_,_,ns,rfl,rfl,ho,iK ns _ hall,hlen⟩
def sV (l:OpenLaw)(args:List WData):l.row.toRowW.claim.post args (.bool true) args=true:=
 postW_of (r:=l.row.toRowW) (X:=(true ==true))
  (show WShape.has [] (.bool true) .bool=true by first|rfl|decide|simp[WShape.has,WShape.arms,WShape.armsAll])
  (show (WTm.eq .res (.lit (.bool true))).value [] { args:=args,res:=some (.bool true),after:=args }=some (.bool (true ==true)) from w_eq_bool (w_res rfl) w_lit) rfl
def pf {n:Nat}{q:Program}{loose:List Str}{XP:(Str->Option Value)->Heap->Prop}{YP:World->Heap->Prop}{d:DefRec}
  (hn:l.most=some n) (hdf:d.params.defaults=[])
  (call:∀ (w:World) (s₀ s₁:Shared) (mg mb:JT) (fa:Addr) (o:Obj) (pm cd doc:Value) (a:Addr) (vs:List Value) (ns:List Int),
   Ground q loose [] XP w s₀ mg mb s₁.heap->YP w s₁.heap->
   s₁.heap.get? fa=some o->o.data=.func (docDef d.name d.params d.body d.scope pm cd doc)->s₁.heap.CodeRec cd d.name->mg d.name=some (.ref fa)->
   s₁.heap.get? a=some { cls:=.type "list",data:=.seq vs.toArray }->IntsAre vs ns->ns.length<=n->s₁.gens=#[]->
   codeAny (model l.prog w) callerA (.call (.ref fa) ⟨[.ref a],[]⟩) (λr s'=>r=.ok (.ret (.bool true))/\OldK s₁.heap s'.heap/\s'.os=s₁.os/\AllBare s'.gens) s₁):
  WalkO q loose XP YP l.row.toRowW d [] (λf vs=>PySem.call f vs):=by
 intro w s₀ s₁ mg mb G Y fa o pm cd doc dV kV ho hd hcd hD hmg hg args vals as hpre hlay hrd hwl hlo;obtain rfl:dV=.none:=Dflts.none hD hdf;obtain rfl:kV=.none:=Dflts.noKw hD;obtain ⟨a,vs,ns,rfl,rfl,hobj,hints,hlen⟩:=tj hn hpre hwl;refine enter_call (codeAny_mono (call w s₀ s₁ mg mb fa o pm cd doc a vs ns G Y ho (fd_plain hd) hcd hmg hobj hints hlen hg) λr s' hq=>?_);obtain ⟨rfl,h2,h3,h4⟩:=hq;exact ⟨.inl ⟨.bool true,.bool true,[],rfl,λ_=>rfl,.bool true,sV l _,λ_=>⟨List.Pairwise.nil,λ_ hm=>(nomatch hm)⟩⟩,h2,h3,h4⟩
section
variable {prog:Program}{w:World}{A:Around}{E:JR}{s:Shared}{K:Frag}
end
end Att
namespace L2
open PySem PySem.Spec PyProof.Rows
def k8:∀ {vs:List Value}{ns:List Int},IntsAre vs ns->Vals (ns.map V.int) vs
 |_,_,.nil=>.nil
 |_,_,.cons n t h=>.cons ⟨t,rfl⟩ (k8 h)
abbrev CF (H:Hp):Prop:=∀ b,H b=none\/∃ o xs,H b=some (.frz o (.lst xs))
def wZ {P:Program}{w:World}{K:W.Frag}{mg mb:JT}{CX:rz}{k:Nat}{fa a:Addr}{fd:FuncData}{x:Str}{sp:Sp}{s₁:Shared}{vs:List Value}{ns:List Int}
  (KX:K.In s₁.heap) (hns:s₁.heap.Ns mainGlobals mg) (hb:s₁.heap.Ns builtinsNs mb) (hbb:∀ x:Str,x≠"__name__"->mb x=bootBuiltins x) (hlim:s₁.heap.NoLimit) (hg:s₁.gens=#[])
  (ha:s₁.heap.get? a=some { cls:=.type "list",data:=.seq vs.toArray }) (hi:IntsAre vs ns) (hl:ns.length<=sizeLine) (hr:bC k callerA)
  (F:∀ base:Heap,K.In base->base.Ns mainGlobals mg->cU P w K mg base CX k fa fd [x] sp) (hbind:∀ (s:Shared) (u:Value),BindsTo s fd ⟨[u],[]⟩ [(x,u)])
  (hsp:∀ H:Hp,CF H->bg K H a (ns.map V.int)->sp [.ref a] H (λv _=>v=.bl true) λ_ _=>False)
  (hCX:∀ H e s',CX [] H s₁ (λ_ _=>False) e s'->False):
  codeAny (model P w) callerA (.call (.ref fa) ⟨[.ref a],[]⟩) (λr s'=>r=.ok (.ret (.bool true))/\OldK s₁.heap s'.heap/\s'.os=s₁.os/\AllBare s'.gens) s₁:=by
 have rv:=k8 hi;have lenV:=hi.length;have core:∀ H:Hp,CF H->bg K H a (ns.map V.int)->fv P w H s₁.heap->(∀ b,H b≠none->b=a)->(H a≠none->K.lookup a=none)->
   codeAny (model P w) callerA (.call (.ref fa) ⟨[.ref a],[]⟩) (λr s'=>r=.ok (.ret (.bool true))/\OldK s₁.heap s'.heap/\s'.os=s₁.os/\AllBare s'.gens) s₁:=by
  intro H hO hS hok hA hK;have base_of:∀ {b:Addr}{o:Obj},s₁.heap.get? b=some o->H b=none->(lN s₁.heap H).get? b=some o:=λe n=>ya e n
  have noA:∀ {b:Addr}{o:Obj}{es:Array DictEntry}{ep:Nat},s₁.heap.get? b=some o->o.data=.dict es ep->H b=none:=λ{b o es ep} e d=>by
   cases q:H b with
   |none=>rfl
   |some u=>
    have e':b=a:=hA b (by rw[q];simp);subst e';rw[ha] at e;cases e;have d':Data.seq vs.toArray _=Data.dict es ep:=d;cases d'
  have nsK:∀ {b:Addr}{m:JT},s₁.heap.Ns b m->(lN s₁.heap H).Ns b m:=λ{b m} ⟨o,es,ep,e,d,r⟩=>⟨o,es,ep,base_of e (noA e d),d,r⟩
  have hKb:K.In (lN s₁.heap H):=λb o e=>base_of (KX b o e) (by
   cases q:H b with
   |none=>rfl
   |some u=>
    have e':b=a:=hA b (by rw[q];simp);subst e';rw[hK (by rw[q];simp)] at e;cases e)
  have hM:Mod K mg (lN s₁.heap H):=⟨hKb,nsK hns,⟨mb,nsK hb,hbb⟩,let ⟨mc,h1,h2⟩:=hlim;⟨mc,nsK h1,h2⟩⟩;have e0:ql P w K mg (lN s₁.heap H) callerA [] s₁ H:=⟨rfl,hM,λb o e=>yx e,Nat.le_of_eq (sM _ _),trivial,λb hb=>absurd (show b ∈ ([]:List Addr) from hb) (by simp),hok,.of_eq hg⟩;refine codeAny_mono ((F _ hKb (nsK hns)).run callerA [] s₁ H ⟨[.ref a],[]⟩ [.ref a] [.ref a] _ _ hr e0 (hbind s₁ (.ref a)) (.cons rfl .nil) (hsp H hO hS)) λr s' h=>?_
  cases r with
  |error e=>exact (hCX H e s' h).elim
  |ok fl=>
   cases fl with
   |next=>exact False.elim h
   |brk=>exact False.elim h
   |cont=>exact False.elim h
   |ret u=>
    obtain ⟨v,H',os,bare,un,hok',r',q⟩:=h;have q':v=.bl true:=q;subst q';obtain rfl:u=Value.bool true:=r';refine ⟨rfl,OldK.of_keep λb o e=>?_,os,bare⟩;cases q:H b with
    |none=>exact un.keep b o e q (by intro z;exact absurd (show b ∈ ([]:List Addr) from z) (by simp)) (by simp)
    |some u=>
     rcases hO b with z|⟨ob,xs,z⟩
     ·rw[q] at z;cases z
     ·have z2:=un.frzs b ob _ z;obtain ⟨e1,_⟩:=hok b _ z;obtain ⟨e2,_⟩:=hok' b _ z2;rw[e] at e1;cases e1;exact e2
 cases hk:K.lookup a with
 |some o=>
  have e:=KX a o hk;rw[ha] at e;cases e;refine core (λ_=>none) (λ_=>.inl rfl) (.inr ⟨_,vs.toArray,_,hk,rfl,rfl,rfl,by rw[size_toArray,lenV];exact hl,by simpa using rv⟩) (λb u z=>by have z':(none:Option HO)=some u:=z;cases z') (λb z=>absurd rfl z) λz=>absurd rfl z
 |none=>
  refine core (λb=>if b=a then some (.frz { cls:=.type "list",data:=.seq vs.toArray } (.lst (ns.map V.int))) else none) (λb=>?_) (.inl (.inr ⟨{ cls:=.type "list",data:=.seq vs.toArray },if_pos rfl⟩)) (λb u z=>?_) (λb z=>?_) λ_=>hk
  ·by_cases hb:b=a
   ·exact .inr ⟨_,_,if_pos hb⟩
   ·exact .inl (if_neg hb)
  ·by_cases hb:b=a
   ·have z':=(if_pos hb).symm.trans z;cases z';subst hb;exact ⟨ha,by rw[length_map];exact hl,vs,_,rv,ha⟩
   ·have z':=(if_neg hb).symm.trans z;cases z'
  ·by_cases hb:b=a
   ·exact hb
   ·exact absurd (if_neg hb) z
def A0 {l:W.OpenLaw}{n k:Nat}{q:Program}{loose:List Str}{XP:(Str->Option Value)->Heap->Prop}{YP:World->Heap->Prop}{d:DefRec}{K:Params->W.Frag}{CX:World->rz}{sp:World->Sp}{x:Str}
  (hn:l.most=some n) (hn2:n<=sizeLine) (hdf:d.params.defaults=[]) (hr:bC k callerA)
  (hY:∀ (w:World) (h:Heap),YP w h->(K w.params).In h)
  (F:∀ (w:World) (mg:JT) (fa:Addr) (h:Heap),(K w.params).In h->h.Ns mainGlobals mg->mg d.name=some (.ref fa)->
   ∃ fd:FuncData,(∀ (s:Shared) (u:Value),BindsTo s fd ⟨[u],[]⟩ [(x,u)])/\
    ∀ base:Heap,(K w.params).In base->base.Ns mainGlobals mg->cU l.prog w (K w.params) mg base (CX w) k fa fd [x] (sp w))
  (hsp:∀ (w:World) (H:Hp) (a:Addr) (ns:List Int),ns.length<=n->CF H->bg (K w.params) H a (ns.map V.int)->sp w [.ref a] H (λv _=>v=.bl true) λ_ _=>False)
  (hCX:∀ (w:World) (H:Hp) (s:Shared) (e:Value) (s':Shared),CX w [] H s (λ_ _=>False) e s'->False):
  W.WalkO q loose XP YP l.row.toRowW d [] (λf vs=>PySem.call f vs):=by
 refine Att.pf hn hdf λw s₀ s₁ mg mb fa o pm cd doc a vs ns G Y ho hd hcd hmg hobj hints hlen hg=>?_
 have KX:=hY w _ Y;obtain ⟨fd,hb,hF⟩:=F w mg fa _ KX G.T.g hmg;exact wZ KX G.T.g G.T.b G.T.builtins G.T.nolimit hg hobj hints (Nat.le_trans hlen hn2) hr hF hb (λH hO hS=>hsp w H a ns hlen hO hS) λH e s'=>hCX w H s₁ e s'
section
variable {P:Program}{w:World}{K:W.Frag}{mg:JT}{base:Heap}
end
def cN {n:Nat}(h:n<=1000):n<sizeLine:=Nat.lt_of_le_of_lt h (by decide)
section
variable {X:Cx}
end
end L2
namespace L2
open PySem PySem.Spec PySem.W PyProof.Rows PySem.Builtin PySem.Builtin.ObjectAttr
variable {rs:List Addr}
section
variable {prog:Program}{w:World}{A:Around}{E:JR}{s:Shared}{K:W.Frag}{x C:Addr}{ox od:Obj}{name:Str}{expr:Bool}{v:Value}{Q:JR}
def nq:builtinKind "BaseException.__getattribute__"=some .slot:=by decide+kernel
def kA:splitId "BaseException.__getattribute__"=some ("BaseException","__getattribute__"):=by decide+kernel
def Ba (X:K.In s.heap)(I:W.InstAt s.heap x ox C (some od))(hga:W.findIn K (.ref C) "__getattribute__"=some (some (.builtin "BaseException.__getattribute__"))) (hgn:W.findIn K (.ref C) "__getattr__"=some none)
  (hb:W.mroIn K C (.type "BaseException")=some true) (hf:W.findObj K C (some od) name=some (.value v)) (hh:W.handedIn v=true) (h:Q v { s with toks:=s.toks+1 }):
  wpAny (model prog w) A (getAttr (.ref x) name expr) Q E s:=by
 obtain ⟨hp,g,d,t,os⟩:=s;have L0:=I.type (M:=model prog w);have L1:=looks_findIn (M:=model prog w) X hga;have L2':=looks_findIn (M:=model prog w) X hgn;have L3:=looks_find (M:=model prog w) X I hf;have L4:Looks (model prog w) hp (isInstance (.ref x) (.type "BaseException")) true:=I.type.andThen (looks_mroIn X hb);unfold getAttr getAttrBy;refine wpAny_bind (wpAny_mkText (wpAny_holding (wpAny_bind (L0.at (wpAny_bind (L1.at ?_))))));have e1:(Value.builtin "BaseException.__getattribute__" ==Value.builtin "object.__getattribute__")=false:=by decide+kernel
 dsimp only;rw[e1,Bool.and_false];show wpAny _ _ (getAttrByItsOwn _ _ _ _ _ _) _ _ _;unfold getAttrByItsOwn hookBefore;refine wpAny_bind (L2'.at ?_);refine wpAny_bind (wpAny_attempt (wpAny_holding ?_));have e2:(expr&&onTheHeap (Value.builtin "BaseException.__getattribute__"))=false:=by cases expr<;>rfl
 unfold callGetattribute;rw[e2];show wpAny _ _ (boundAndCalled _ _ _) _ _ _;unfold boundAndCalled;rw[PySem.F.attr_ValueError.ga.bind];refine wpAny_bind (wpAny_pure (wpAny_call (codeAny_call_builtin PySem.F.attr_ValueError.ga.plain PySem.F.entry_bexc_ga ?_)));refine @check_slot (model prog w) _ _ _ "BaseException.__getattribute__" "BaseException" "__getattribute__" (.ref x) [.str name t] [] _ nq kA L4 (PySem.F.args_bexc_ga (.ref x) (.str name t)) ?_;unfold Builtin.«object.__getattribute__»;refine wpAny_bind (wpAny_pure (wpAny_bind (wpAny_pure (wpAny_bind (L0.at (wpAny_bind (L3.at ?_)))))));refine wpAny_pure ?_;show wpAny _ _ (handedOut v) _ _ _;rw[handedOut_of hh];exact wpAny_pure h
abbrev x9:Value->Bool
 | .ref _=>true
 |_=>false
abbrev bJ:List Value:=[.type "ValueError",.type "Exception",.type "BaseException",.type "object"]
abbrev c7 (l:List Value):Bool:=l.dropWhile x9 ==bJ
def c8:∀ {l:List Value},c7 l=true->∃ rs:List Addr,l=rs.map Value.ref++bJ
 | [],e=>by cases e
 |c::r,e=>by
  by_cases h:x9 c=true
  ·have e':c7 r=true:=by
    unfold c7 at e⊢;rw[List.dropWhile_cons_of_pos h] at e;exact e
   obtain ⟨rs,q⟩:=c8 e';cases c with
   |ref a=>exact ⟨a::rs,by rw[q];rfl⟩
   |_=>cases h
  ·unfold c7 at e;rw[List.dropWhile_cons_of_neg h] at e;exact ⟨[],beq_iff_eq.mp e⟩
def jt (self:Value):∀ rs:List Addr,refuseLoop self "__setattr__" (rs.map Value.ref++bJ)=pure ()
 | []=>PySem.F.store_ValueError.passes self
 |a::r=>by rw[map_cons,List.cons_append,refuseLoop_ref];exact jt self r
structure cw (K:W.Frag) (C:Addr):Prop where
 mt:W.typeIn K (.ref C)=some (.type "type")
 ov:(W.clsIn K C).any (λcd=>c7 cd.mro)=true
 hd:W.hasDictIn K C=true
 ga:W.findIn K (.ref C) "__getattribute__"=some (some (.builtin "BaseException.__getattribute__"))
 gn:W.findIn K (.ref C) "__getattr__"=some none
 sa:W.findIn K (.ref C) "__setattr__"=some (some (.builtin "object.__setattr__"))
def cw.mro (c:cw K C):∃ (cd:ClassData) (rs:List Addr),W.clsIn K C=some cd/\cd.mro=rs.map Value.ref++bJ:=by
 obtain ⟨cd,h1,h2⟩:=W.any_some c.ov;obtain ⟨rs,h3⟩:=c8 h2;exact ⟨cd,rs,h1,h3⟩
def mP (h:bJ.contains v=true):(rs.map Value.ref++bJ).contains v=true:=by
 rw[List.contains_eq_mem,decide_eq_true_eq] at h⊢;exact mem_append_right _ h
def sx:(rs.map Value.ref++bJ).isEmpty=false:=by cases rs<;>rfl
def cw.sub (c:cw K C)(h:bJ.contains v=true):W.mroIn K C v=some true:=by
 obtain ⟨cd,rs,h1,h2⟩:=c.mro;unfold W.mroIn;rw[h1,Option.bind_some,h2,if_neg (by rw[sx];decide),mP h]
variable {R:Result->Shared->Prop}
def nU {tk:Tok}{odo:Option Obj}(X:K.In s.heap)(I:W.InstAt s.heap x ox C odo)(c:cw K C)(ht:W.findIn K (.ref C) name=some none)
  (h:wpAny (model prog w) A.in1 (storeInOwnDict (.ref x) (.ref C) (.str name tk) name v false)
   (λfin s'=>match fin with| .done f=>R (.ok f) s'| .again c'=>c'.quiet=true/\codeAny (model prog w) A c' R s') (λe s'=>R (.error e) s') s):
  codeAny (model prog w) A (.call (.builtin "object.__setattr__") ⟨[.ref x,.str name tk,v],[]⟩) R s:=by
 have SF:=PySem.F.store_object;obtain ⟨cd,rs,hc,hm⟩:=c.mro;have sub:Looks (model prog w) s.heap (isInstance (.ref x) (.type "object")) true:=I.type.andThen (looks_mroIn X (c.sub (by decide+kernel)));refine codeAny_call_builtin SF.slot.plain SF.entry (@check_slot (model prog w) _ _ s "object.__setattr__" "object" "__setattr__" (.ref x) [.str name tk,v] [] _ SF.kind SF.split sub (SF.args (.ref x) (.str name tk) v) ?_);have hl:Looks (model prog w) s.heap (mroOf (.ref C)) cd.mro:=(looks_clsIn X hc).andThen .now;rw[osa_eq,refuse_eq];refine wpAny_bind (wpAny_bind (I.type.here (wpAny_bind (hl.here ?_))));rw[hm,jt];refine wpAny_pure (wpAny_bind (I.type.here (wpAny_bind ((looks_findIn X ht).here (wpAny_bind (wpAny_pure ?_))))));exact h
end
variable {Q:JR}{u:Value}
section
variable {X:Cx}{Y:JS}{U:St}{H:Hp}{s:Shared}{a C dx:Addr}{fs:List (Str×V)}{f:Str}{v:V}{A:Around}{E:JR}{fr:Bool}
def uA {b:Bool}(I:Inv X Y U H s)(e:H a=some (.exc C (some dx) fs fr))(c:cw X.K C)(n:dJ X.K C f)(l:fs.lookup f=some v)
  (h:∀ u s',Inv X Y U H s'->RelV v u->Q u s'):wpAny (model X.prog X.w) A (getAttr (.ref a) f b) Q E s:=by
 obtain ⟨⟨vs,ho,_⟩,z⟩:=I.hok a _ e;rcases z with ⟨z,_⟩|⟨d,ed,_,_,_,mA,hn,r,_⟩
 ·cases z
 cases ed;obtain ⟨u,hu,ru⟩:=cR.some_of (v:=v) (o:=mA f) (by rw[<-l];exact r f);obtain ⟨od,hod,hl⟩:=gT hn;refine Ba (ox:={ cls:=.ref C,dict:=some dx,data:=.fields vs }) (od:=od) I.bG ⟨ho,rfl,rfl,hod⟩ c.ga c.gn (c.sub (by decide+kernel)) (W.findObj_own c.hd n rfl (by rw[hl,hu])) (kE ru) (h u _ (I.tok _) ru)
def pT {y:V}{Q:JQ}(I:Inv X Y U H s)(e:H a=some (.exc C (some dx) fs fr))(c:cw X.K C)(n:dJ X.K C f)(hl:fs.length<1000)(ry:RelV y u)
  (h:∀ s',Inv X Y U (upd H a (.exc C (some dx) (cu f y fs) fr)) s'->Q () s'):wpAny (model X.prog X.w) A (setAttr (.ref a) f u) Q E s:=by
 obtain ⟨⟨vs,ho,zz⟩,z⟩:=id (I.hok a _ e);rcases z with ⟨z,_⟩|⟨d,ed,hown,_,hne,mA,hn,r,wi⟩
 ·cases z
 cases ed;obtain ⟨od,hod,hlk⟩:=gT hn;have hz:(fs.map (·.1)).length<=sizeLine:=by rw[length_map,sizeLine_eq];omega
 have J:W.InstAt s.heap a { cls:=.ref C,dict:=some dx,data:=.fields vs } C (some od):=⟨ho,rfl,rfl,hod⟩;refine W.set_plain I.bG J c.sa (nU (s:={ s with toks:=s.toks+1 }) I.bG J c n ?_);obtain ⟨cd,hc,hd'⟩:=W.any_some c.hd;refine wpAny_bind (wpAny_pure (wpAny_bind (wpAny_bind (wpAny_loadPart ho (wpAny_bind (W.Looks.here (s:={ s with toks:=s.toks+1 }) (W.looks_clsIn I.bG hc) ?_))))));rw[hd'];refine wpAny_pure (a:=some dx) (wpAny_bind (wpAny_pure (wpAny_bind ?_)));refine wpAny_nsSet1 (s:={ s with toks:=s.toks+1 }) hn λh' hn2 hs2=>?_
 obtain ⟨oD,esD,epD,hoD,hdD,hcD⟩:=hn2.count (PySem.Within.cons f u wi);refine wpAny_bind (wpAny_lookBehind hoD (by rw[hdD];exact pastItsLine_dict (Nat.le_trans hcD (by rw[length_cons];omega))) ?_);refine wpAny_pure (h _ ?_);refine I.write (x:=a) (e:=dx) (by rw[e];exact True.intro) (.inr hown) (λb q hb z=>(hs2.2 b hb).trans z) ⟨oD,hoD⟩ ?_;refine ⟨⟨vs,(hs2.2 _ (Ne.symm hne)).trans ho,zz⟩,.inr ⟨dx,rfl,by rw[af hne];exact hown,?_,hne,_,hn2,λg=>?_,λg hg=>?_⟩⟩
 ·have:=d9 f y fs;omega
 ·show cR ((cu f y fs).lookup g) (if g=f then some u else mA g);rw[dF]
  by_cases q:g=f
  ·rw[if_pos q,if_pos q];exact ry
  ·rw[if_neg q,if_neg q];exact r g
 ·by_cases q:g=f
  ·rw[q];exact (cL f y fs).1
  ·refine (cL f y fs).2 g (wi g λz=>hg ?_);show (if g=f then some u else mA g)=none;rw[if_neg q];exact z
def qw {y:V}{Q:JQ}(I:Inv X Y U H s)(e:H a=some (.exc C none fs fr))(c:cw X.K C)(n:dJ X.K C f)(ry:RelV y u)
  (h:∀ d s',H d=none->Inv X Y U (upd (upd H d (.own a)) a (.exc C (some d) [(f,y)] fr)) s'->Q () s'):wpAny (model X.prog X.w) A (setAttr (.ref a) f u) Q E s:=by
 obtain ⟨⟨vs,ho,zz⟩,z⟩:=id (I.hok a _ e);have hfs:fs=[]:=by
  rcases z with ⟨_,z⟩|⟨d,ed,_⟩
  ·exact z
  ·cases ed
 subst hfs;have J:W.InstAt s.heap a { cls:=.ref C,dict:=none,data:=.fields vs } C none:=⟨ho,rfl,rfl,True.intro⟩;refine W.set_plain I.bG J c.sa (nU (s:={ s with toks:=s.toks+1 }) I.bG J c n ?_);obtain ⟨cd,hc,hd'⟩:=W.any_some c.hd;refine wpAny_bind (wpAny_pure (wpAny_bind (wpAny_bind (wpAny_loadPart ho (wpAny_bind (W.Looks.here (s:={ s with toks:=s.toks+1 }) (W.looks_clsIn I.bG hc) ?_))))));rw[hd'];have hlt:=Heap.lt_size ho;have hxs:a≠s.heap.objs.size:=Nat.ne_of_lt hlt;have ho1:(s.heap.push { cls:=.type "dict",data:=.dict #[] }).get? a=some { cls:=.ref C,dict:=none,data:=.fields vs }:=Heap.get?_push_of_some _ ho;refine wpAny_bind (wpAny_alloc' ?_);refine wpAny_bind (wpAny_update' ho1 ?_);refine wpAny_pure ?_;have hgd:((s.heap.push { cls:=.type "dict",data:=.dict #[] }).update a λo=>{ o with dict:=some s.heap.objs.size }).get? s.heap.objs.size=some { cls:=.type "dict",data:=.dict #[] }:=
  (Heap.get?_update_ne _ _ _ _ hxs.symm).trans (Heap.get?_push_at rfl rfl)
 have hga:((s.heap.push { cls:=.type "dict",data:=.dict #[] }).update a λo=>{ o with dict:=some s.heap.objs.size }).get? a=some { cls:=.ref C,dict:=some s.heap.objs.size,data:=.fields vs }:=
  Heap.get?_update_self _ ho1 rfl
 have hnd:((s.heap.push { cls:=.type "dict",data:=.dict #[] }).update a λo=>{ o with dict:=some s.heap.objs.size }).Ns s.heap.objs.size (λ_=>none):=
  ⟨_,#[],_,hgd,rfl,λe he=>absurd he (by simp),λ_=>rfl⟩
 show wpAny _ _ (storeInDict s.heap.objs.size (.str f _) f u) _ _ _;unfold storeInDict newKeyGuard;refine wpAny_bind (wpAny_pure (wpAny_bind (wpAny_nsSet1 (Heap.Ns1.of_empty hnd) λh' hn2 hs2=>?_)));obtain ⟨oD,esD,epD,hoD,hdD,hcD⟩:=hn2.count (PySem.Within.cons f u PySem.Within.nil);refine wpAny_bind (wpAny_lookBehind hoD (by rw[hdD];exact pastItsLine_dict (Nat.le_trans hcD (by rw[length_cons,List.length_nil,sizeLine_eq];omega))) ?_);have hd0:H s.heap.objs.size=none:=I.hok.fresh (Nat.le_refl _);refine wpAny_pure (h s.heap.objs.size _ hd0 ?_);have e':upd H s.heap.objs.size (.own a) a=some (.exc C none [] fr):=by rw[af hxs];exact e
 have I1:Inv X Y U (upd H s.heap.objs.size (.own a)) { s with heap:=s.heap.push { cls:=.type "dict",data:=.dict #[] },toks:=s.toks+1 }:=
  I.laid (a:=s.heap.objs.size) (o:=.own a) (t':=s.toks+1) (λb u q=>Heap.get?_push_of_some _ q) (Nat.le_refl _) ⟨_,Heap.get?_push_size s.heap rfl⟩
 have I2:=I1.write (x:=a) (e:=a) (o:=.exc C (some s.heap.objs.size) [] fr) (t':=s.toks+1) (h':=(s.heap.push { cls:=.type "dict",data:=.dict #[] }).update a λo=>{ o with dict:=some s.heap.objs.size })
  (by rw[e'];exact True.intro) (.inl rfl) (λb q hb z=>(Heap.get?_update_ne _ _ _ _ hb).trans z) ⟨_,hga⟩
  ⟨⟨vs,hga,zz⟩,.inr ⟨_,rfl,by rw[af hxs.symm,aq],Nat.zero_le _,hxs.symm,_,Heap.Ns1.of_empty hnd,λ_=>True.intro,λy hy=>absurd rfl hy⟩⟩
 have ga':h'.get? a=some { cls:=.ref C,dict:=some s.heap.objs.size,data:=.fields vs }:=(hs2.2 a hxs).trans hga;have I3:=I2.write (x:=a) (e:=s.heap.objs.size) (o:=.exc C (some s.heap.objs.size) [(f,y)] fr) (t':=s.toks+1+1) (h':=h') (by rw[aq];exact True.intro) (.inr (by rw[af hxs.symm,aq]))
  (λb q hb z=>(hs2.2 b hb).trans z) ⟨oD,hoD⟩
  ⟨⟨vs,ga',zz⟩,.inr ⟨_,rfl,by rw[af hxs.symm,af hxs.symm,aq],by show 1<=1000;decide,hxs.symm,_,hn2,λg=>?_,λg hg=>?_⟩⟩
 ·rw[A3] at I3;exact I3
 ·show cR (List.lookup g [(f,y)]) (if g=f then some u else none)
  by_cases q:g=f
  ·have hb:(g ==f)=true:=beq_iff_eq.mpr q;simp only[List.lookup,hb,if_pos q];exact ry
  ·have hb:(g ==f)=false:=beq_eq_false_iff_ne.mpr q;simp only[List.lookup,hb,if_neg q];exact True.intro
 ·by_cases q:g=f
  ·rw[q];simp
  ·exact absurd (show (if g=f then some u else none)=none by rw[if_neg q]) hg
end
section
variable {X:Cx}{Y:JS}{U:St}{H:Hp}{s:Shared}{a C:Addr}{dx:Option Addr}{fs:List (Str×V)}{f:Str}{v:V}{A:Around}{E:JR}{fr:Bool}
def Inv.fields {vs':Array Value}{h':Heap}{t':Nat}(I:Inv X Y U H s)(e:H a=some (.exc C dx fs fr))(hs:vs'.size=6)(h1:fr=true->vs'[1]? =some Value.none)
  (ha:h'.get? a=some { cls:=.ref C,dict:=dx,data:=.fields vs' }) (k:∀ b u,b≠a->s.heap.get? b=some u->h'.get? b=some u):Inv X Y U H { s with heap:=h',toks:=t' }:=by
 have I2:=I.write (x:=a) (e:=a) (o:=.exc C dx fs fr) (t':=t') (h':=h') (by rw[e];exact True.intro) (.inl rfl) k ⟨_,ha⟩ ?_
 ·have:upd H a (.exc C dx fs fr)=H:=by
   funext b
   by_cases hb:b=a
   ·rw[hb,aq,e]
   ·rw[af hb]
  rw[this] at I2;exact I2
 ·obtain ⟨_,z⟩:=id (I.hok a _ e);refine ⟨⟨vs',ha,hs,h1⟩,?_⟩;rcases z with z|⟨d,ed,d1,z1,ne,mA,⟨od,es,ep,e2,c⟩,r⟩
  ·exact .inl z
  ·exact .inr ⟨d,ed,by rw[af ne];exact d1,z1,ne,mA,⟨od,es,ep,k _ _ ne e2,c⟩,r⟩
def ji {R:Result->Shared->Prop}(I:Inv X Y U H s)(e:H a=some (.exc C dx fs fr))(c:cw X.K C)
  (h:∀ s',Inv X Y U H s'->R (.ok (.ret .none)) s'):codeAny (model X.prog X.w) A (.call (.builtin "ValueError.__init__") ⟨[.ref a,u],[]⟩) R s:=by
 have F:=PySem.F.excCall_ValueError;obtain ⟨⟨vs,ho,hsz,h1⟩,z⟩:=id (I.hok a _ e);have L4:Looks (model X.prog X.w) s.heap (isInstance (.ref a) (.type "ValueError")) true:=(show Looks (model X.prog X.w) s.heap (typeOf (.ref a)) (.ref C) from (Looks.ld ho).andThen .now).andThen (looks_mroIn I.bG (c.sub (by decide+kernel)));refine codeAny_call_builtin F.init.plain F.initEntry ?_;simp only[checkBuiltinCall,F.initKind,F.initSplit,F.initRow];refine wpAny_bind (L4.here ?_);simp only[Bool.not_true,Bool.false_eq_true,if_false];have hshort:("ValueError" != "*")=true:=by decide
 have h0:∃ a0,vs[0]? =some a0:=⟨_,Array.getElem?_eq_getElem nofun⟩;obtain ⟨a0,h0⟩:=h0;obtain ⟨hp,g,d,t,os⟩:=s;unfold Bind.checkArgs;have hn:Looks (model X.prog X.w) hp (typeOf (.ref a)) (.ref C):=(Looks.ld ho).andThen .now;obtain ⟨cd,rs,hcl,_⟩:=c.mro;obtain ⟨oc,od,sl,hC⟩:∃ oc od sl,hp.get? C=some ⟨oc,od,.cls cd,sl⟩:=by
  unfold W.clsIn at hcl
  split at hcl
  ·rename_i ho';cases hcl;exact ⟨_,_,_,I.bG _ _ ho'⟩
  ·cases hcl
 repeat (first|with_reducible refine wpAny_load hC ?_|wp_step)
 rw[h0];have ho1:(hp.push { cls:=.type "tuple",data:=.seq #[u] }).get? a=some { cls:=.ref C,dict:=dx,data:=.fields vs }:=Heap.get?_push_of_some _ ho;have hq:=Heap.get?_update_self (Obj.mapFields (·.setIfInBounds 0 (.ref hp.objs.size))) ho1 (Obj.isFreed_of_fields (Obj.data_mapFields rfl _));have fin:R (.ok (.ret Value.none)) ⟨(hp.push { cls:=.type "tuple",data:=.seq #[u] }).update a (Obj.mapFields (·.setIfInBounds 0 (.ref hp.objs.size))),g,d,t,os⟩:=by
  refine h _ (I.fields (vs':=vs.setIfInBounds 0 (.ref hp.objs.size)) (t':=t) e (by simpa using hsz) (λz=>?_) hq λb q hb z'=>?_)
  ·rw[Array.getElem?_setIfInBounds_ne (by decide)];exact h1 z
  ·exact (Heap.get?_update_ne _ _ _ _ hb).trans (Heap.get?_push_of_some _ z')
 refine wpAny_pure (wpAny_bind (wpAny_setField ho1 rfl nofun ?_));cases a0<;>first|exact wpAny_pure (wpAny_pure fin)|exact wpAny_letGo (wpAny_pure fin)
def qA (I:Inv X Y U H s)(e:H a=some (.exc C dx fs fr))(c:cw X.K C)
  (h:∀ s',Inv X Y U H s'->Q .none s'):wpAny (model X.prog X.w) A (call (.builtin "ValueError.__init__") [.ref a,u]) Q E s:=wpAny_call (ji I e c h)
end
abbrev bL (K:W.Frag)(C:Addr):Bool:=match K.lookup C with
 |some ⟨_,_,.cls cd,sl⟩=>!cd.abstract&& !cd.hasDel&&(sl.toList[4]?).join ==some (.builtin "ValueError.__new__")&&c7 cd.mro&&cd.mro.contains (.ref C)&&
   W.specialIn K (.ref C) "__call__" ==some (some (.builtin "type.__call__"))&&W.instIn K (.ref C) (.type "type") ==some true
 |_=>false
structure xo (M:Model) (h:Heap) (C:Addr):Prop where
 obj:∃ oc od cd sl,h.get? C=some ⟨oc,od,.cls cd,sl⟩/\cd.abstract=false/\cd.hasDel=false/\cd.mro.isEmpty=false
 made:W.Looks M h (Bind.madeBy (.ref C)) (some "ValueError.__new__")
 base:W.Looks M h (Bind.staticBase (.ref C)) (.ref C)
 self:W.Looks M h (isSubtype (.ref C) (.ref C)) true
 top:W.Looks M h (isSubtype (.ref C) (.type "ValueError")) true
 no1:W.Looks M h (isSubtype (.ref C) (.type "AttributeError")) false
 no2:W.Looks M h (isSubtype (.ref C) (.type "NameError")) false
 call:W.Looks M h (specialOf (.ref C) "__call__") (some (.builtin "type.__call__"))
 typ:W.Looks M h (isInstance (.ref C) (.type "type")) true
def sg {n:String}(h:bJ.contains (.type n)=false):(rs.map Value.ref++bJ).contains (.type n)=false:=by
 induction rs with
 |nil=>exact h
 |cons a r ih=>rw[map_cons,List.cons_append,List.contains_cons,ih];rfl
def kU {K:W.Frag}{M:Model}{h:Heap}(X:K.In h){C:Addr}(e:bL K C=true):xo M h C:=by
 unfold bL at e
 split at e
 ·rename_i oc od cd sl ho;simp only[Bool.and_eq_true,Bool.not_eq_true',beq_iff_eq] at e;obtain ⟨⟨⟨⟨⟨⟨e1,e2⟩,e3⟩,e4⟩,e5⟩,e7⟩,e8⟩:=e;obtain ⟨rs,em⟩:=c8 e4;have hc:W.clsIn K C=some cd:=by unfold W.clsIn;rw[ho]
  have hm:Looks M h (mroOf (.ref C)) cd.mro:=(looks_clsIn X hc).andThen .now;have ne:cd.mro.isEmpty=false:=by rw[em];exact sx
  obtain ⟨c,l,hl⟩:∃ c l,cd.mro=c::l:=by
   cases q:cd.mro with
   |nil=>rw[q] at ne;cases ne
   |cons c l=>exact ⟨c,l,rfl⟩
  have made:Looks M h (Bind.madeBy (.ref C)) (some "ValueError.__new__"):=by
   intro A Q E s k q;unfold Bind.madeBy;refine wpAny_bind (hm A _ E s k ?_);rw[hl,forIn_cons];refine wpAny_bind (wpAny_bind (wpAny_bind (wpAny_bind (wpAny_loadPart (k _ _ (X _ _ ho)) (wpAny_pure ?_)))));dsimp only;rw[<-Array.getElem?_toList,e3];exact wpAny_pure (wpAny_pure (wpAny_pure q))
  have mro:∀ {v b},cd.mro.contains v=b->W.mroIn K C v=some b:=λ{v b} q=>by
   unfold W.mroIn;rw[hc,Option.bind_some,if_neg (by rw[ne];decide),q]
  refine ⟨⟨oc,od,cd,sl,X _ _ ho,e1,e2,ne⟩,made,?_,looks_mroIn X (mro e5),looks_mroIn X (mro (by rw[em];exact mP (by decide+kernel))),looks_mroIn X (mro (by rw[em];exact sg (by decide+kernel))),looks_mroIn X (mro (by rw[em];exact sg (by decide+kernel))),looks_specialIn X e7,looks_instIn X e8⟩;intro A Q E s k q;unfold Bind.staticBase;refine wpAny_bind (hm A _ E s k ?_);rw[hl,forIn_cons];exact wpAny_bind (wpAny_bind (wpAny_bind (made A _ E s k (wpAny_pure (wpAny_pure (wpAny_pure q))))))
 ·cases e
variable {rest:List Value}
section
variable {prog:Program}{w:World}{A:Around}{K:W.Frag}{C:Addr}{R:Result->Shared->Prop}{h:Heap}{g:Array GenState}{d:Drawn}{t:Nat}{os:OsState}
def Br (Y:xo (model prog w) h C)(hz:rest.length<=sizeLine)
  (hq:R (.ok (.ret (.ref (h.objs.size+1)))) ⟨(h.push { cls:=.type "tuple",data:=.seq rest.toArray }).push { cls:=.ref C,data:=.fields #[.ref h.objs.size,.none,.none,.none,.bool false,.none] },g,d,t,os⟩):
  codeAny (model prog w) A (.call (.builtin "ValueError.__new__") ⟨.ref C::rest,[]⟩) R ⟨h,g,d,t,os⟩:=by
 obtain ⟨⟨oc,od,cd,sl,hC,e1,e2,e4⟩,made,base,self,top,no1,no2,call,typ⟩:=Y;have F:=PySem.F.excBase_ValueError;have here:Looks (model prog w) h (Bind.madeHere "BaseException.__new__" (.ref C)) ():=base.andThen (made.andThen (Looks.of_pure (by simp only[Option.map_some,F.canon,bne_self_eq_false,Bool.false_eq_true,if_false])));refine codeAny_call_builtin_code (Code.quiet_builtin _ F.quiet) ?_;simp only[checkBuiltinCall,F.newKind,F.newSplit,F.newRow]
 repeat (first|simp only[bne_self_eq_false,Bool.false_eq_true,if_false]|lk)
 refine codeAny_builtinAt F.entry ?_;unfold Builtin.«BaseException.__new__»;refine PySem.wpAt_bind ?_;show PySem.wpAt _ _ _ (stack >>= _) _ _ _;refine PySem.wpAt_bind (PySem.wpAt_stack λp below=>PySem.wpAt_of_wpAny ?_);have hends:=F.ends
 wp_walk
 refine PySem.wpAt_of_wpAny ?_;rw[F.owner]
 repeat (first|simp only[Bool.not_true,Bool.false_eq_true,if_false]|lk)
 rw[if_neg (show ¬ (rest.toArray.size>sizeLine) by rw[size_toArray];omega)];unfold newObjAsIs;refine wpAny_bind (wpAny_alloc (wpAny_pure (wpAny_bind ?_)));show wpAny _ _ (newObjAsIs _ _ _) _ _ _;unfold newObjAsIs classHasDel;refine wpAny_bind (wpAny_alloc (wpAny_bind (wpAny_bind (wpAny_load (Heap.get?_push_of_some _ (Heap.get?_push_of_some _ hC)) (wpAny_pure ?_)))));rw[e2];refine wpAny_pure (wpAny_pure ?_);show R _ _;rw[Heap.size_push];exact hq
def DN {fI:Addr}(X:K.In h)(hz:rest.length<=sizeLine)(hm:bL K C=true)(hi:W.findIn K (.ref C) "__init__"=some (some (.ref fI))) (hf:W.typeIn K (.ref fI)=some (.type "function"))
  (hq:codeAny (model prog w) (A.under (.builtin "type.__call__" ⟨.ref C::rest,[]⟩)) (.call (.ref fI) ⟨.ref (h.objs.size+1)::rest,[]⟩) (InitBack (h.objs.size+1) R)
   ⟨(h.push { cls:=.type "tuple",data:=.seq rest.toArray }).push { cls:=.ref C,data:=.fields #[.ref h.objs.size,.none,.none,.none,.bool false,.none] },g,d,t,os⟩):
  codeAny (model prog w) A (.call (.ref C) ⟨rest,[]⟩) R ⟨h,g,d,t,os⟩:=by
 have Y:=kU (M:=model prog w) X hm;have Y':=Y;obtain ⟨⟨oc,od,cd,sl,hC,e1,e2,e4⟩,made,base,self,top,no1,no2,call,typ⟩:=Y;refine codeAny_of_tree ?_;show wpAny _ _ (callAny (.ref C) _) _ _ _;refine nd_load hC ?_;show wpAny _ _ (callAny.viaDunder (.ref C) _) _ _ _;unfold callAny.viaDunder;refine wpAny_bind (call.at ?_);dsimp only;rw[tc_bind];refine wpAny_bind (wpAny_pure (wpAny_bind (wpAny_pure ?_)));refine wpAny_pure (a:=Fin.again (.call (.builtin "type.__call__") ⟨.ref C::rest,[]⟩)) (And.intro rfl ?_);refine codeAny_call_builtin_at (Code.quiet_builtin _ (by decide+kernel)) entry_typeCall (check_slot tc_kind tc_split typ (tc_args _ _ _) ?_);unfold Builtin.«type.__call__»;have hmr:Looks (model prog w) h (mroOf (.ref C)) cd.mro:=((Looks.ld (part:=none) hC).andThen .now).andThen .now
 repeat (first|simp only[e4,Bool.false_eq_true,if_false]|with_reducible refine wpAny_call ?_|lk)
 refine Br Y' hz ?_;have k:∀ b o,h.get? b=some o->((h.push { cls:=.type "tuple",data:=.seq rest.toArray }).push { cls:=.ref C,data:=.fields #[.ref h.objs.size,.none,.none,.none,.bool false,.none] }).get? b=some o:=λb o e=>Heap.get?_push_of_some _ (Heap.get?_push_of_some _ e)
 have hx:((h.push { cls:=.type "tuple",data:=.seq rest.toArray }).push { cls:=.ref C,data:=.fields #[.ref h.objs.size,.none,.none,.none,.bool false,.none] }).get? (h.objs.size+1)=some { cls:=.ref C,data:=.fields #[.ref h.objs.size,.none,.none,.none,.bool false,.none] }:=by heap_get
 have t1:Looks (model prog w) ((h.push { cls:=.type "tuple",data:=.seq rest.toArray }).push { cls:=.ref C,data:=.fields #[.ref h.objs.size,.none,.none,.none,.bool false,.none] }) (typeOf (.ref (h.objs.size+1))) (.ref C):=(Looks.ld hx).andThen .now;have s1:=self.keeps k;have i1:=(looks_findIn (M:=model prog w) X hi).keeps k;have b1:=(bind_fn (M:=model prog w) X (.ref (h.objs.size+1)) hf).keeps k;unfold isInstance callSpecial? specialOf
 repeat (first|with_reducible refine wpAny_call ?_|lk)
 refine codeAny_mono hq λr s' z=>?_
 rcases r with e|(v|_|_|_)<;>first|exact z|exact z.elim|skip
 obtain ⟨rfl,z⟩:=z;exact wpAny_pure (wpAny_pure z)
def zd (X:K.In h)(hz:rest.length<=sizeLine)(hm:bL K C=true)(hi:W.findIn K (.ref C) "__init__"=some (some (.builtin "ValueError.__init__")))
  (hq:codeAny (model prog w) (A.under (.builtin "type.__call__" ⟨.ref C::rest,[]⟩)) (.call (.builtin "ValueError.__init__") ⟨.ref (h.objs.size+1)::rest,[]⟩) (InitBack (h.objs.size+1) R)
   ⟨(h.push { cls:=.type "tuple",data:=.seq rest.toArray }).push { cls:=.ref C,data:=.fields #[.ref h.objs.size,.none,.none,.none,.bool false,.none] },g,d,t,os⟩):
  codeAny (model prog w) A (.call (.ref C) ⟨rest,[]⟩) R ⟨h,g,d,t,os⟩:=by
 have Y:=kU (M:=model prog w) X hm;have Y':=Y;obtain ⟨⟨oc,od,cd,sl,hC,e1,e2,e4⟩,made,base,self,top,no1,no2,call,typ⟩:=Y;refine codeAny_of_tree ?_;show wpAny _ _ (callAny (.ref C) _) _ _ _;refine nd_load hC ?_;show wpAny _ _ (callAny.viaDunder (.ref C) _) _ _ _;unfold callAny.viaDunder;refine wpAny_bind (call.at ?_);dsimp only;rw[tc_bind];refine wpAny_bind (wpAny_pure (wpAny_bind (wpAny_pure ?_)));refine wpAny_pure (a:=Fin.again (.call (.builtin "type.__call__") ⟨.ref C::rest,[]⟩)) (And.intro rfl ?_);refine codeAny_call_builtin_at (Code.quiet_builtin _ (by decide+kernel)) entry_typeCall (check_slot tc_kind tc_split typ (tc_args _ _ _) ?_);unfold Builtin.«type.__call__»;have hmr:Looks (model prog w) h (mroOf (.ref C)) cd.mro:=((Looks.ld (part:=none) hC).andThen .now).andThen .now
 repeat (first|simp only[e4,Bool.false_eq_true,if_false]|with_reducible refine wpAny_call ?_|lk)
 refine Br Y' hz ?_;have k:∀ b o,h.get? b=some o->((h.push { cls:=.type "tuple",data:=.seq rest.toArray }).push { cls:=.ref C,data:=.fields #[.ref h.objs.size,.none,.none,.none,.bool false,.none] }).get? b=some o:=λb o e=>Heap.get?_push_of_some _ (Heap.get?_push_of_some _ e)
 have hx:((h.push { cls:=.type "tuple",data:=.seq rest.toArray }).push { cls:=.ref C,data:=.fields #[.ref h.objs.size,.none,.none,.none,.bool false,.none] }).get? (h.objs.size+1)=some { cls:=.ref C,data:=.fields #[.ref h.objs.size,.none,.none,.none,.bool false,.none] }:=by heap_get
 have t1:Looks (model prog w) ((h.push { cls:=.type "tuple",data:=.seq rest.toArray }).push { cls:=.ref C,data:=.fields #[.ref h.objs.size,.none,.none,.none,.bool false,.none] }) (typeOf (.ref (h.objs.size+1))) (.ref C):=(Looks.ld hx).andThen .now;have s1:=self.keeps k;have i1:=(looks_findIn (M:=model prog w) X hi).keeps k;have b1:Looks (model prog w) ((h.push { cls:=.type "tuple",data:=.seq rest.toArray }).push { cls:=.ref C,data:=.fields #[.ref h.objs.size,.none,.none,.none,.bool false,.none] }) (bindSpecial (.builtin "ValueError.__init__") (.ref (h.objs.size+1))) (.builtin "ValueError.__init__",[.ref (h.objs.size+1)]):=Looks.of_pure (PySem.F.excCall_ValueError.init.bind _);unfold isInstance callSpecial? specialOf
 repeat (first|with_reducible refine wpAny_call ?_|lk)
 refine codeAny_mono hq λr s' z=>?_
 rcases r with e|(v|_|_|_)<;>first|exact z|exact z.elim|skip
 obtain ⟨rfl,z⟩:=z;exact wpAny_pure (wpAny_pure z)
end
end L2
namespace L2
open PySem PySem.Spec PySem.W PyProof.Rows
abbrev bp (e:Addr)(h h':Heap):Prop:=∀ oe vs,h.get? e=some oe->oe.data=.fields vs->∃ vs',h'.get? e=some { oe with data:=.fields vs' }/\vs'.size=vs.size
abbrev Co (as:List Addr)(h h':Heap):Prop:=∀ b o,b ∉ as->h.get? b=some o->h'.get? b=some o
abbrev yd (h:Heap)(e T:Addr)(fl:Value):Prop:=∃ oe vs oT ts,h.get? e=some oe/\oe.data=.fields vs/\vs[1]? =some (.ref T)/\T≠e/\h.get? T=some oT/\oT.data=.fields ts/\ts[3]? =some fl
def bp.trans {e:Addr}{h h1 h2:Heap}(a:bp e h h1)(b:bp e h1 h2):bp e h h2:=λoe vs x y=>by
 obtain ⟨vs1,x1,z1⟩:=a oe vs x y;obtain ⟨vs2,x2,z2⟩:=b _ vs1 x1 rfl;exact ⟨vs2,x2,z2.trans z1⟩
def bp.same {e:Addr}{h h':Heap}(k:h'.get? e=h.get? e):bp e h h':=λoe vs x y=>⟨vs,by rw[k,x,<-y],rfl⟩
variable {Q:JQ}
section
variable {M:Model}{A:Around}{E:JR}{s:Shared}{base:Heap}{env:Env}{outer:List Env}{L e:Addr}
def kH {oe:Obj}{vs:Array Value}{head:Value}{hadNext:Bool}(hfr:A.frames=some (env::outer))(hl:s.heap.FunFrames base (env::outer))(hf:env.frame=some L)
  (he:s.heap.get? e=some oe) (hd:oe.data=.fields vs) (hsz:1<vs.size)
  (q:∀ h' T,s.heap.objs.size<=T->yd h' e T (rawInt L)->bp e s.heap h'->(∀ b o,b≠e->s.heap.get? b=some o->∃ sl,h'.get? b=some { o with slots:=sl })->Co (e::k9 (env::outer)) s.heap h'->Q () { s with heap:=h' }):
  wpAny M A (do let a <-frameOf env;let pl <-entryPlaceOf L hadNext;let b <-EntryCells.newEntry head a .none (rawInt L) .none pl;setField (.ref e) 1 b) Q E s:=by
 have hne:e ∉ k9 (env::outer):=λhm=>by
  obtain ⟨_,o,ho,hnf⟩:=hl.mem hm;rw[he] at ho;cases ho;exact hnf vs hd
 refine wpAny_bind (wpAny_frameOf_fun hfr hl hf λh1 s1=>wpAny_bind (wpAny_entryPlaceOf λpl hpl=>?_));unfold EntryCells.newEntry newFields;refine wpAny_bind (wpAny_newObj_type ?_ (hpl.sizeOk5 _ _ _ _ _));have e1:h1.get? e=some oe:=(s1.2.1 e hne).trans he;have e2:=Heap.get?_push_of_some (h:=h1) { cls:=.type "traceback",dict:=none,data:=.fields ([head,.ref L,.none,rawInt L,.none]++(if pl.isEmpty then List.replicate 6 Value.none else pl)).toArray } e1;have hTe:h1.objs.size≠e:=Nat.ne_of_gt (Heap.lt_size e1);have d3:=Obj.data_mapFields hd (·.setIfInBounds 1 (Value.ref h1.objs.size));have e3:=Heap.get?_update_self (Obj.mapFields (·.setIfInBounds 1 (Value.ref h1.objs.size))) e2 (Obj.isFreed_of_fields d3);have t3:=(Heap.get?_update_other (h1.push { cls:=.type "traceback",dict:=none,data:=.fields ([head,.ref L,.none,rawInt L,.none]++(if pl.isEmpty then List.replicate 6 Value.none else pl)).toArray })
  (Obj.mapFields (·.setIfInBounds 1 (Value.ref h1.objs.size))) (Ne.symm hTe)).trans (Heap.get?_push_size h1 rfl)
 have keep:∀ b o,b≠e->h1.get? b=some o->((h1.push { cls:=.type "traceback",dict:=none,data:=.fields ([head,.ref L,.none,rawInt L,.none]++(if pl.isEmpty then List.replicate 6 Value.none else pl)).toArray }).update e (Obj.mapFields (·.setIfInBounds 1 (Value.ref h1.objs.size)))).get? b=some o:=
  λb o hb hq=>(Heap.get?_update_other _ _ (Ne.symm hb)).trans (Heap.get?_push_of_some _ hq)
 refine wpAny_setField e2 hd hsz (q _ h1.objs.size ?_ ?_ ?_ (λb o hb ho=>?_) λb o hb ho=>?_)
 ·rw[s1.1];exact Nat.le_refl _
 ·refine ⟨_,_,_,_,e3,d3,by simp[hsz],hTe,t3,rfl,?_⟩
  first|(simp;done)|(rcases hpl with rfl|⟨_,_,_,_,_,_,_,rfl⟩<;>simp)
 ·intro oe' vs' x y;rw[he] at x;cases x;rw[hd] at y;cases y;refine ⟨vs.setIfInBounds 1 (.ref h1.objs.size),?_,by simp⟩;rw[e3];obtain ⟨c0,d0,dt,sl0⟩:=oe;cases hd
  rfl
 ·obtain ⟨sl,z⟩:=s1.2.2 b o ho;exact ⟨sl,keep b _ hb z⟩
 ·exact keep b o (λz=>hb (by rw[z];exact mem_cons_self)) ((s1.2.1 b λz=>hb (mem_cons_of_mem _ z)).trans ho)
abbrev DY (n₀:Nat)(ps:JS)(H:Hp)(h:Heap)(e:Addr):Prop:=(∃ oe vs,h.get? e=some oe/\oe.data=.fields vs/\vs[1]? =some Value.none)\/∃ T,n₀<=T/\H T=none/\(∀ p ∈ ps,p.1≠T)/\yd h e T .none
def AZ {n₀:Nat}{ps:JS}{H:Hp}(hfr:A.frames=some (env::outer))(hl:s.heap.FunFrames base (env::outer))(hf:env.frame=some L)(sf:DY n₀ ps H s.heap e)(h0:n₀<=s.heap.objs.size)(hps:∀ p ∈ ps,p.1<s.heap.objs.size)
  (q:∀ h' T T0,s.heap.objs.size<=T->n₀<=T0->(H T0=none\/s.heap.objs.size<=T0)->(∀ p ∈ ps,p.1≠T0)->(∀ o,s.heap.get? T0=some o->∃ ts,o.data=.fields ts)->yd h' e T (rawInt L)->bp e s.heap h'->h'.FunFrames base (env::outer)->(∀ b o,b≠e->b≠T0->s.heap.get? b=some o->∃ sl,h'.get? b=some { o with slots:=sl })->Co (e::T0::k9 (env::outer)) s.heap h'->(∀ b o,s.heap.get? b=some o->∃ o',h'.get? b=some o')->Q () { s with heap:=h' }):
  wpAny M A (noteFrame (.ref e) env) Q E s:=by
 have fun_of:∀ {h':Heap}{as:List Addr},(∀ b ∈ as,∀ o,s.heap.get? b=some o->∃ vs,o.data=.fields vs)->(∀ b o,b ∉ as->s.heap.get? b=some o->∃ sl,h'.get? b=some { o with slots:=sl })->h'.FunFrames base (env::outer):=
  λ{h' as} ha k=>hl.of_keeps λb o ho hnf=>by
   by_cases hb:b ∈ as
   ·obtain ⟨vs,z⟩:=ha b hb o ho;exact absurd z (hnf vs)
   ·obtain ⟨sl,z⟩:=k b o hb ho;exact ⟨_,z,rfl⟩
 unfold noteFrame;simp only[hf];rcases sf with ⟨oe,vs,he,hd,h1⟩|⟨T0,hT0,hH0,hp0,oe,vs,oT,ts,he,hd,h1,hTe,hT,hdT,h3⟩
 ·skip
  refine wpAny_bind (wpAny_field he hd h1 ?_);rw[if_neg (by decide)];refine kH hfr hl hf he hd (Array.getElem?_eq_some_iff.mp h1).1 λh' T hT st fo sl sy=>?_
  refine q h' T s.heap.objs.size hT h0 (.inr (Nat.le_refl _)) (λp hp=>Nat.ne_of_lt (hps p hp)) (λo z=>absurd (Heap.lt_size z) (Nat.lt_irrefl _)) st fo ?_ (λb o hb _ ho=>sl b o hb ho) (λb o hb ho=>sy b o (λz=>hb ?_) ho) λb o ho=>?_
  ·refine fun_of (as:=[e]) (λb hb o ho=>?_) λb o hb ho=>sl b o (by simpa using hb) ho
   obtain rfl:b=e:=by simpa using hb
   rw[he] at ho;cases ho;exact ⟨vs,hd⟩
  ·rcases mem_cons.mp z with z|z
   ·exact mem_cons.mpr (.inl z)
   ·exact mem_cons_of_mem _ (mem_cons_of_mem _ z)
  ·by_cases hb:b=e
   ·subst hb;rw[he] at ho;cases ho;obtain ⟨vs',z,_⟩:=fo _ _ he hd;exact ⟨_,z⟩
   ·obtain ⟨sl',z⟩:=sl b o hb ho;exact ⟨_,z⟩
 ·refine wpAny_bind (wpAny_field he hd h1 ?_);rw[if_pos (show (Value.ref T0 != Value.none)=true from by simp)];refine wpAny_bind (wpAny_field hT hdT h3 ?_);rw[if_neg (show ¬ ((Value.none ==rawInt L)=true) from by simp[rawInt])];refine wpAny_bind (wpAny_setField hT hdT (Array.getElem?_eq_some_iff.mp h3).1 ?_);have other:∀ b,b≠T0->(s.heap.update T0 (Obj.mapFields (·.setIfInBounds 3 Value.none))).get? b=s.heap.get? b:=λb hb=>Heap.get?_update_other _ _ (Ne.symm hb)
  have self':=Heap.get?_update_self (Obj.mapFields (·.setIfInBounds 3 Value.none)) hT (Obj.isFreed_of_fields (Obj.data_mapFields hdT _));have rec':∀ b o,s.heap.get? b=some o->(∀ vs,o.data≠.fields vs)->b≠T0:=λb o hb hnf z=>by
   rw[z,hT] at hb;cases hb;exact hnf ts hdT
  refine kH (base:=base) hfr (hl.of_keeps λb o hb hnf=>⟨o,(other b (rec' b o hb hnf)).trans hb,rfl⟩) hf ((other e (Ne.symm hTe)).trans he) hd (Array.getElem?_eq_some_iff.mp h1).1 λh' T hTn st fo sl sy=>?_
  have hTn':s.heap.objs.size<=T:=by
   have z:(s.heap.update T0 (Obj.mapFields (·.setIfInBounds 3 Value.none))).objs.size<=T:=hTn
   rwa [Heap.size_after_update] at z
  refine q h' T T0 hTn' hT0 (.inl hH0) hp0 (λo z=>by rw[hT] at z;cases z;exact ⟨ts,hdT⟩) st (bp.trans (bp.same (other e (Ne.symm hTe))) fo) ?_ (λb o hb hb0 ho=>sl b o hb ((other b hb0).trans ho)) (λb o hb ho=>?_) λb o ho=>?_
  ·refine fun_of (as:=[e,T0]) (λb hb o ho=>?_) λb o hb ho=>sl b o (λz=>hb (by simp[z])) ((other b λz=>hb (by simp[z])).trans ho)
   rcases mem_cons.mp hb with hb|hb
   ·subst hb;rw[he] at ho;cases ho;exact ⟨vs,hd⟩
   ·obtain rfl:b=T0:=by simpa using hb
    rw[hT] at ho;cases ho;exact ⟨ts,hdT⟩
  ·have n1:b≠e:=λz=>hb (by simp[z])
   have n2:b≠T0:=λz=>hb (by simp[z])
   refine sy b o (λz=>hb ?_) ((other b n2).trans ho);rcases mem_cons.mp z with z|z
   ·exact mem_cons.mpr (.inl z)
   ·exact mem_cons_of_mem _ (mem_cons_of_mem _ z)
  ·by_cases hb:b=e
   ·subst hb;obtain ⟨vs',z,_⟩:=fo _ _ ((other b (Ne.symm hTe)).trans he) hd;exact ⟨_,z⟩
   ·by_cases hb0:b=T0
    ·subst hb0;obtain ⟨sl',z⟩:=sl b _ hb self';exact ⟨_,z⟩
    ·obtain ⟨sl',z⟩:=sl b o hb ((other b hb0).trans ho);exact ⟨_,z⟩
def sm {T:Addr}{fl:Value}(st:yd s.heap e T fl)
  (q:∀ h',yd h' e T .none->(∀ b,b≠T->h'.get? b=s.heap.get? b)->(∃ o,s.heap.get? T=some o)->(∃ o,h'.get? T=some o)->(∃ oT ts,h'.get? T=some oT/\oT.data=.fields ts)->Q () { s with heap:=h' }):wpAny M A (setFlight (.ref e) none) Q E s:=by
 obtain ⟨oe,vs,oT,ts,he,hd,h1,hTe,hT,hdT,h3⟩:=st;have hz:3<ts.size:=(Array.getElem?_eq_some_iff.mp h3).1;have other:∀ b,b≠T->(s.heap.update T (Obj.mapFields (·.setIfInBounds 3 ((none:Option Addr).elim Value.none λf=>rawInt f)))).get? b=s.heap.get? b:=λb hb=>Heap.get?_update_other _ _ (Ne.symm hb)
 have self':=Heap.get?_update_self (Obj.mapFields (·.setIfInBounds 3 ((none:Option Addr).elim Value.none λf=>rawInt f))) hT (Obj.isFreed_of_fields (Obj.data_mapFields hdT _));unfold setFlight;refine wpAny_bind (wpAny_field he hd h1 ?_);rw[if_pos (show (Value.ref T != Value.none)=true from by simp)];refine wpAny_setField hT hdT hz (q _ ⟨oe,vs,_,_,(other e (Ne.symm hTe)).trans he,hd,h1,hTe,self',Obj.data_mapFields hdT _,by simp[hz]⟩ other ⟨_,hT⟩ ⟨_,self'⟩ ⟨_,_,self',Obj.data_mapFields hdT _⟩)
end
variable {A:Around}
section
variable {X:Cx}{U:St}{H:Hp}{s:Shared}{e C:Addr}{dx:Option Addr}{fs:List (Str×V)}{h':Heap}
def Inv.xa {Y:JS}(I:Inv X Y U H s):Inv X [] U H s:=I.lF λ_ z=>absurd z (by simp)
def Inv.F0 {T0:Addr}{as:List Addr}(I:Inv X [] U H s)(hpn:∀ p ∈ X.pn,p.1≠T0) (he:H e=some (.exc C dx fs false)) (has:as=k9 X.stack)
  (hT:X.s₀.heap.objs.size<=T0) (hT0:H T0=none\/s.heap.objs.size<=T0) (hTd:∀ o,s.heap.get? T0=some o->∃ ts,o.data=.fields ts)
  (fo:bp e s.heap h') (sl:∀ b o,b≠e->b≠T0->s.heap.get? b=some o->∃ sl,h'.get? b=some { o with slots:=sl }) (sy:Co (e::T0::as) s.heap h') (th:∀ b o,s.heap.get? b=some o->∃ o',h'.get? b=some o'):
  Inv X [] U H { s with heap:=h' }:=by
 subst has;obtain ⟨⟨vs,ho,hsz,_⟩,z⟩:=id (I.hok e _ he);have hH0:H T0=none:=by
  rcases hT0 with z|z
  ·exact z
  ·exact I.hok.fresh z
 have nT:∀ {b:Addr}{o:Obj},s.heap.get? b=some o->(∀ vs,o.data≠.fields vs)->b≠T0:=λ{b o} hb hn z=>by
  subst z;obtain ⟨ts,q⟩:=hTd _ hb;exact hn ts q
 have iM:∀ b o,H b=none->b≠T0->b ∉ k9 X.stack->s.heap.get? b=some o->h'.get? b=some o:=λb o hb h0 hf hq=>sy b o (λm=>by
  rcases mem_cons.mp m with m|m
  ·rw[m,he] at hb;cases hb
  ·rcases mem_cons.mp m with m|m
   ·exact h0 m
   ·exact hf m) hq
 have BU:∀ a u,H a=some u->a≠e->∀ o,s.heap.get? a=some o->h'.get? a=some o:=λa u ha ne o hq=>sy a o (λm=>by
  rcases mem_cons.mp m with m|m
  ·exact ne m
  ·rcases mem_cons.mp m with m|m
   ·rw[m,hH0] at ha;cases ha
   ·rw[I.lY a m] at ha;cases ha) hq
 refine I.step (g':=s.gens) (t':=s.toks) (d':=s.drawn) (ch:=[T0]) (h':=h') (λb hb=>?_) (λb o hL hfs hch hq hn=>?_) (λb o hL hfs hch hq hn=>?_) (λb o _ _ hn=>hn) (λb o _ hq=>th b o hq) (λ_ _ q=>q) (λ_ _ _ q=>q) (λb ps q=>⟨#[],by rw[q];simp⟩) (λm hm=>?_) (λa u ha=>?_) I.bare
 ·obtain rfl:b=T0:=by simpa using hb
  refine ⟨.inr hT,?_,λx c hc z=>?_,λp hp=>hpn p (by simpa using hp)⟩
  ·obtain ⟨m,⟨o,es,ep,ho',hd,_⟩,_⟩:=I.loc;intro z;exact nT ho' (λvs q=>by rw[hd] at q;cases q) z.symm
  ·obtain ⟨v,o,ho',hd⟩:=I.cell x c hc;exact nT ho' (λvs q=>by rw[hd] at q;cases q) z
 ·refine iM b o hn (by simpa using hch) (λm=>?_) hq;rcases mem_cons.mp (I.gK b m) with z|z
  ·exact hL z
  ·exact hfs z
 ·exact sl b o (λz=>by rw[z,he] at hn;cases hn) (by simpa using hch) hq
 ·obtain ⟨o,es,ep,ho',hd,r⟩:=hm;have n1:X.env.locals≠e:=λz=>by have:=I.free;rw[z,he] at this;cases this
  obtain ⟨sl',q⟩:=sl _ o n1 (nT ho' λvs q=>by rw[hd] at q;cases q) ho';exact ⟨_,es,ep,q,hd,r⟩
 ·by_cases hae:a=e
  ·subst hae;rw[he] at ha;cases ha;obtain ⟨vs',q,hz⟩:=fo _ vs ho rfl;refine ⟨⟨vs',q,hz.trans hsz,λy=>by cases y⟩,?_⟩;rcases z with z|⟨d,ed,d1,z1,ne,mA,⟨od,es,ep,e2,c⟩,r⟩
   ·exact .inl z
   ·exact .inr ⟨d,ed,d1,z1,ne,mA,⟨od,es,ep,BU d _ d1 ne _ e2,c⟩,r⟩
  ·refine (I.hok a u ha).iM (λb o hb hq=>?_) (λ_ q=>q) λ_ _ q=>q
   rcases hb with hb|hb
   ·subst hb;exact BU b u ha hae o hq
   ·refine BU b _ hb (λz=>?_) o hq;rw[z,he] at hb;cases hb
abbrev w4 (P:Program)(w:World):rz:=λouter H s E u s'=>∃ (e:Addr) (H':Hp) (C:Addr) (dx:Option Addr) (fs:List (Str×V)) (T:Addr),u=.ref e/\s'.os=s.os/\AllBare s'.gens/\Un (k9 outer) [] H H' s.heap s'.heap/\fv P w H' s'.heap/\
 H' e=some (.exc C dx fs false)/\s.heap.objs.size<=T/\H' T=none/\yd s'.heap e T .none/\E e H'
abbrev EC (X:Cx)(E:St->XK):Prop:=∀ (U:St) (H:Hp) (s:Shared) (e C:Addr) (dx:Option Addr) (fs:List (Str×V)),Inv X [] U H s->DY X.s₀.heap.objs.size X.pn H s.heap e->H e=some (.exc C dx fs false)->E U e H->X.xe (.ref e) s
def kC {E:St->XK}(x:EC X E):Passes (w4 X.prog X.w) X E:=by
 intro Y U H s u s' I h;obtain ⟨e,H',C,dx,fs,T,rfl,os,bare,un,hok,he,hT,hT0,st,q⟩:=h;have J:Inv X [] U H' s':=Inv.vV (ch:=[]) I.xa os un hok bare (λb z=>absurd z (by simp));exact x U H' s' e C dx fs J (.inr ⟨T,Nat.le_trans I.sz hT,hT0,λp hp=>Nat.ne_of_lt (Nat.lt_of_lt_of_le (Heap.lt_size (I.pin p (mem_append_left _ hp)).1) hT),st⟩) he q
def kL {M:Model}{E E':JR}{Q:Shared->Prop}(I:Inv X [] U H s)(hs:X.stack=X.env::X.outer)(hf:X.env.frame=some X.env.locals)(sf:DY X.s₀.heap.objs.size X.pn H s.heap e)(he:H e=some (.exc C dx fs false))
  (q:∀ s' T,Inv X [] U H s'->s'.os=s.os->X.s₀.heap.objs.size<=T->H T=none->(∀ p ∈ X.pn,p.1≠T)->yd s'.heap e T .none->Q s'):
  wpAny M X.A (noteFrame (.ref e) X.env) (λ_ s1=>wpAny M X.A (setFlight (.ref e) none) (λ_ s2=>Q s2) E s1) E' s:=by
 have hl:s.heap.FunFrames X.base (X.env::X.outer):=hs▸I.stack;refine AZ (by rw[<-hs];exact I.ok.frames) hl hf sf I.sz (λp hp=>Heap.lt_size (I.pin p (mem_append_left _ hp)).1) λh1 T T0 hT hT0 hH0 hp0 hTd st fo fF sl sy th=>?_
 have I1:=I.F0 (T0:=T0) (as:=k9 (X.env::X.outer)) (h':=h1) hp0 he (by rw[hs]) hT0 hH0 hTd fo sl sy th;have hHT:H T=none:=I.hok.fresh hT;have hpT:∀ p ∈ X.pn,p.1≠T:=λp hp=>Nat.ne_of_lt (Nat.lt_of_lt_of_le (Heap.lt_size (I.pin p (mem_append_left _ hp)).1) hT)
 refine sm (s:={ s with heap:=h1 }) st λh2 mM oth _ th2 rec2=>?_
 have I2:Inv X [] U H { s with heap:=h2 }:=by
  refine Inv.turned (s:={ s with heap:=h1 }) (it:=T) (h':=h2) (t':=s.toks) I1 (λb o hb hq=>(oth b hb).trans hq) hHT ?_ (.inr (Nat.le_trans I.sz hT)) (λx c hc z=>?_) λp hp=>hpT p (by simpa using hp)
  ·exact λz=>absurd (Nat.lt_of_lt_of_le I.lt hT) (by rw[z];exact Nat.lt_irrefl _)
  ·obtain ⟨v,o,ho,_⟩:=I.cell x c hc;exact absurd (Nat.lt_of_lt_of_le (Heap.lt_size ho) hT) (by rw[z];exact Nat.lt_irrefl _)
 exact q _ T I2 rfl (Nat.le_trans I.sz hT) hHT hpT mM
def uh {P:Program}{w:World}{K:W.Frag}{mg:JT}{base:Heap}{N:List Str}{qual:Str}{scope:Scope}{f:Addr}{cd:Value}{outer:List Env}{E:XK}:
  EC (sF (w4 P w) P w K mg base N qual scope f cd A outer s H E) (λ_=>E):=by
 intro σ' H' s' e C dx fs I sf he q;show wpAny _ _ (do noteFrame (.ref e) _;setFlight (.ref e) none) _ _ s';refine wpAny_bind (kL I rfl rfl sf he λs2 T J os hT hH _ st=>?_);exact ⟨e,H',C,dx,fs,T,rfl,J.os,J.bare,J.base,J.hok,he,hT,hH,st,q⟩
end
structure Hf (K:W.Frag) (C f:Addr):Prop where
 mks:bL K C=true
 init:W.findIn K (.ref C) "__init__"=some (some (.ref f))
 fn:W.isFn K (.ref f)=true
 kp:W.keepIn K (.ref C)=true
variable {us:List Value}{vs:List V}
section
variable {X:Cx}{Y:JS}{U:St}{H:Hp}{s:Shared}{C f:Addr}
def Inv.Ca (us:List Value)(I:Inv X Y U H s):Inv X Y U (upd H (s.heap.objs.size+1) (.exc C none [] true))
  { s with heap:=(s.heap.push { cls:=.type "tuple",data:=.seq us.toArray }).push { cls:=.ref C,data:=.fields #[.ref s.heap.objs.size,.none,.none,.none,.bool false,.none] } }:=by
 have I1:=I.kept (h':=s.heap.push { cls:=.type "tuple",data:=.seq us.toArray }) (t':=s.toks) λb u q=>Heap.get?_push_of_some _ q
 refine Inv.laid (s:={ s with heap:=s.heap.push { cls:=.type "tuple",data:=.seq us.toArray } }) (a:=s.heap.objs.size+1) (o:=.exc C none [] true) (t':=s.toks) I1 (λb u q=>Heap.get?_push_of_some _ q) (Nat.le_of_eq (Heap.size_push _ _)) ?_;refine ⟨⟨#[.ref s.heap.objs.size,.none,.none,.none,.bool false,.none],?_,rfl,λ_=>rfl⟩,.inl ⟨rfl,rfl⟩⟩;have:=Heap.get?_push_size (s.heap.push { cls:=.type "tuple",data:=.seq us.toArray }) (o:={ cls:=.ref C,data:=.fields #[.ref s.heap.objs.size,.none,.none,.none,.bool false,.none] }) rfl
 rwa [Heap.size_push] at this
variable {CX:rz}{k:Nat}{fd:FuncData}{ps:List Str}{sp:Sp}{dvs:List V}{ds:List Value}{E:St->XK}{x m:Str}{p pos apos:Pos}{e o:Expr}{es:List Expr}{ta:TE}{t:TA}
abbrev x8 (C:Addr)(sp:Sp)(dvs:List V)(E:St->XK)(t:TA):TE:=λU H Q=>t U H λvs H1=>vs.length<=1000/\∀ x,H1 x=none->sp (.ref x::(vs++dvs)) (upd H1 x (.exc C none [] true)) (λv H2=>v=.non/\Q (.ref x) H2) (E U)
def kW {Q:VK}(M:Hf X.K C f)(F:cU X.prog X.w X.K X.mg X.base CX k f fd ps sp)(hr:bC (k+1) X.A)(hb:Binds X.K fd ps ds)(hd:Vals dvs ds)
  (hx:Passes CX X E) (hz:us.length<=sizeLine) (I:Inv X Y U H s) (r:Vals vs us)
  (h:∀ x,H x=none->sp (.ref x::(vs++dvs)) (upd H x (.exc C none [] true)) (λv H2=>v=.non/\Q (.ref x) H2) (E U)):
  wpAny (model X.prog X.w) X.A (call (.ref C) us) (EP X Y U Q) X.xe s:=by
 have hq:=h (s.heap.objs.size+1) (I.hok.fresh (Nat.le_succ _));have I2:=Inv.Ca (C:=C) us I;have r2:Vals (V.ref (s.heap.objs.size+1)::(vs++dvs)) (Value.ref (s.heap.objs.size+1)::(us++ds)):=.cons rfl (r.append hd);have hl:(Value.ref (s.heap.objs.size+1)::us++ds).length=ps.length:=by
  have e:=r2.length;rw[F.len _ _ _ _ hq] at e;exact e.symm
 obtain ⟨hh,g,d,tk,os⟩:=s;refine wpAny_call (DN (fI:=f) I.bG hz M.mks M.init (beq_iff_eq.mp M.fn) (codeAny_mono (F.run _ X.stack _ _ ⟨Value.ref (hh.objs.size+1)::us,[]⟩ (Value.ref (hh.objs.size+1)::(us++ds)) _ _ (E U) (hr.make C us [])
  (I2.gF.make C us []) (hb _ (Value.ref (hh.objs.size+1)::us) I2.bG hl) r2 hq) λr s' hq'=>?_))
 cases r with
 |error e=>exact hx Y U _ _ e s' I2 hq'
 |ok fl=>
  cases fl with
  |ret u=>
   obtain ⟨v,H',J,rv,ev,q⟩:=I2.after hq';subst ev;obtain rfl:u=Value.none:=rv;exact ⟨rfl,.ref _,H',J,rfl,q⟩
  |next=>exact False.elim hq'
  |brk=>exact False.elim hq'
  |cont=>exact False.elim hq'
def vB (M:Hf X.K C f)(F:cU X.prog X.w X.K X.mg X.base CX k f fd ps sp)(hr:bC (k+1) X.A)(hg:Gl X x)(hm:X.mg x=some (.ref C))(hb:Binds X.K fd ps ds)(hd:Vals dvs ds)(hx:Passes CX X E)
  (ha:PA X (e::es) t) (hdb:(x ==("__debug__":Str))=false:=by decide) (he:starEach (e::es) X.env=(false,eval e X.env)::starEach es X.env:=by rfl) (hpl:(backTo pos (starEach es X.env)).any (·.1)=false:=by rfl):
  PE X (.Call (.Name x p) (e::es) [] pos) (x8 C sp dvs E t):=by
 intro Y s U H Q I h;refine wpAny_Call_Name_kw (bj I hg hm ?_ hdb);refine W.callWith_K (h₀:=X.base) I.ok.mod.kin M.kp (au (ha pos Y s U H _ I h) λus s1 ⟨vs,H1,I1,r,z,q⟩=>⟨I1.bG,?_⟩) he hpl;exact kW M F hr hb hd hx (by rw[nil_append,<-r.length];exact Nat.le_of_lt (cN z)) I1 r q
structure DH (K:W.Frag) (C:Addr):Prop where
 mks:bL K C=true
 init:W.findIn K (.ref C) "__init__"=some (some (.builtin "ValueError.__init__"))
 kp:W.keepIn K (.ref C)=true
 cls:cw K C
abbrev zu (C:Addr)(t:TA):TE:=λU H Q=>t U H λvs H1=>vs.length=1/\∀ x,H1 x=none->Q (.ref x) (upd H1 x (.exc C none [] true))
def pS {Q:VK}(M:DH X.K C)(I:Inv X Y U H s)(r:Vals vs us)(h1:vs.length=1)(h:∀ x,H x=none->Q (.ref x) (upd H x (.exc C none [] true))):
  wpAny (model X.prog X.w) X.A (call (.ref C) us) (EP X Y U Q) X.xe s:=by
 have hq:=h (s.heap.objs.size+1) (I.hok.fresh (Nat.le_succ _));have I2:=Inv.Ca (C:=C) us I;obtain ⟨u,rfl⟩:∃ u,us=[u]:=by
  have e:=r.length;rw[h1] at e
  match us,e with
  | [u],_=>exact ⟨u,rfl⟩
 obtain ⟨hh,g,d,tk,os⟩:=s;refine wpAny_call (zd I.bG (by rw[sizeLine_eq];exact Nat.le_of_ble_eq_true rfl) M.mks M.init (ji (C:=C) (dx:=none) (fs:=[]) (fr:=true) I2 aq M.cls λs' J=>?_));exact ⟨rfl,.ref _,_,J,rfl,hq⟩
def xZ (M:DH X.K C)(hg:Gl X x)(hm:X.mg x=some (.ref C))(ha:PA X (e::es) t)(hdb:(x ==("__debug__":Str))=false:=by decide) (he:starEach (e::es) X.env=(false,eval e X.env)::starEach es X.env:=by rfl) (hpl:(backTo pos (starEach es X.env)).any (·.1)=false:=by rfl):
  PE X (.Call (.Name x p) (e::es) [] pos) (zu C t):=by
 intro Y s U H Q I h;refine wpAny_Call_Name_kw (bj I hg hm ?_ hdb);refine W.callWith_K (h₀:=X.base) I.ok.mod.kin M.kp (au (ha pos Y s U H _ I h) λus s1 ⟨vs,H1,I1,r,z,q⟩=>⟨I1.bG,?_⟩) he hpl;exact pS M I1 r z q
structure IX (K:W.Frag) (B:Addr):Prop where
 ga:W.specialIn K (.ref B) "__getattribute__"=some (some (.builtin "type.__getattribute__"))
 rd:W.readsIn K B (.type "type")=true
 fi:W.findCls K (.ref B) (.type "type") "__init__"=some (.val (.builtin "ValueError.__init__"))
abbrev Iy (K:W.Frag)(t:TA):TE:=λU H Q=>t U H λvs H1=>∃ a C dx fs fr v,vs=[.ref a,v]/\H1 a=some (.exc C dx fs fr)/\cw K C/\Q .non H1
def CQ {B:Addr}{pl:Sem Bool}{np:Pos}(b:IX X.K B)(hg:Gl X x)(hm:X.mg x=some (.ref B))(ha:PA X (e::es) t)(hdb:(x ==("__debug__":Str))=false:=by decide)
  (hst:starEach (e::es) X.env=(false,eval e X.env)::starEach es X.env:=by rfl) (hpl:(backTo pos (starEach es X.env)).any (·.1)=false:=by rfl)
  (ht:eval (.Call (.Attribute (.Name x np) "__init__" apos) (e::es) [] pos) X.env=(do
   let ov <-eval (.Name x np) X.env
   standAt apos.atName
   let (f,first) <-holding [ov] (getMethod ov "__init__" pl)
   callWith pos f first (backTo pos (starEach (e::es) X.env)) (backToKw pos (keywordEach [] X.env))):=by rfl):
  PE X (.Call (.Attribute (.Name x np) "__init__" apos) (e::es) [] pos) (Iy X.K t):=by
 intro Y s U H Q I h;refine W.methodCall_KW (pl:=pl) (bj I hg hm ?_ hdb) ht;refine W.method_cls I.bG b.ga (W.cls_value I.bG b.rd b.fi (by decide+kernel) ?_);refine PyProof.Rows.callWith_builtin1 (au (ha pos Y _ U H _ (I.tok _) h) λus s1 ⟨vs,H1,I1,r,a,C,dx,fs,fr,v,ev,ea,c,q⟩=>?_) hst hpl;subst ev;cases r with
 |cons r1 r2=>
  cases r2 with
  |cons r3 r4=>
   cases r4;cases r1;exact qA I1 ea c λs' J=>⟨.non,H1,J,rfl,q⟩
structure Jq (K:W.Frag) (C f:Addr):Prop where
 ga:W.specialIn K (.ref C) "__getattribute__"=some (some (.builtin "type.__getattribute__"))
 rd:W.readsIn K C (.type "type")=true
 fi:W.findCls K (.ref C) (.type "type") "__init__"=some (.val (.ref f))
 kp:W.keepIn K (.ref f)=true
end
section
open PySem.Builtin PySem.Builtin.ObjectAttr
variable {prog:Program}{w:World}{A:Around}{E:JR}{s:Shared}{K:W.Frag}{x C:Addr}{ox:Obj}{odo:Option Obj}
structure vc (K:W.Frag) (C:Addr):Prop where
 ha:W.findIn K (.ref C) "__class__"=some (some (.builtin "object.__class__"))
 hn:W.specialIn K (.builtin "object.__class__") "__get__"=some (some (.builtin "getset_descriptor.__get__"))
 htk:W.takesIn K (.builtin "object.__class__")=some true
def AO {Q:JP}(X:K.In s.heap)(I:W.InstAt s.heap x ox C odo)(c:cw K C)(z:vc K C)(hfo:W.findObj K C odo "__class__"=some (.bind (.builtin "getset_descriptor.__get__") (.builtin "object.__class__")))
  (h:Q (some (.ref C)) { s with toks:=s.toks+1 }):wpAny (model prog w) A (getAttr? (.ref x) "__class__") Q E s:=by
 obtain ⟨hp,g,d,t,os⟩:=s;have L0:=I.type (M:=model prog w);have L1:=looks_findIn (M:=model prog w) X c.ga;have L2':=looks_findIn (M:=model prog w) X c.gn;have L3:=looks_find (M:=model prog w) X I hfo;have L4:Looks (model prog w) hp (isInstance (.ref x) (.type "BaseException")) true:=I.type.andThen (looks_mroIn X (c.sub (by decide+kernel)));unfold getAttr? getAttrBy? getAttrBy;refine wpAny_bind (wpAny_mkText (wpAny_bind (wpAny_attempt (wpAny_holding (wpAny_bind (L0.at (wpAny_bind (L1.at ?_))))))));have e1:(Value.builtin "BaseException.__getattribute__" ==Value.builtin "object.__getattribute__")=false:=by decide+kernel
 dsimp only;rw[e1,Bool.and_false];show wpAny _ _ (getAttrByItsOwn _ _ _ _ _ _) _ _ _;unfold getAttrByItsOwn hookBefore;refine wpAny_bind (L2'.at ?_);refine wpAny_bind (wpAny_attempt (wpAny_holding ?_));unfold callGetattribute;show wpAny _ _ (boundAndCalled _ _ _) _ _ _;unfold boundAndCalled;rw[PySem.F.attr_ValueError.ga.bind];refine wpAny_bind (wpAny_pure (wpAny_call (codeAny_call_builtin PySem.F.attr_ValueError.ga.plain PySem.F.entry_bexc_ga ?_)));refine @check_slot (model prog w) _ _ _ "BaseException.__getattribute__" "BaseException" "__getattribute__" (.ref x) [.str "__class__" t] [] _ nq kA L4 (PySem.F.args_bexc_ga (.ref x) (.str "__class__" t)) ?_;unfold Builtin.«object.__getattribute__»;refine wpAny_bind (wpAny_pure (wpAny_bind (wpAny_pure (wpAny_bind (L0.at (wpAny_bind (L3.at ?_)))))));show wpAny _ _ (holding [_] (call _ [_,.ref x,.ref C]) >>= ret) _ _ _;refine wpAny_bind (wpAny_holding (wpAny_call (class_get (s:=⟨hp,g,d,t+1,os⟩) (ox:=ox) (od:=odo) X I (c.sub (by decide+kernel)) ?_)));refine wpAny_pure ?_;show wpAny _ _ (handedOut (.ref C)) _ _ _;exact handed_on rfl (wpAny_pure h)
def uV (c:cw K C)(z:vc K C):W.findObj K C odo "__class__"=some (.bind (.builtin "getset_descriptor.__get__") (.builtin "object.__class__")):=by
 obtain ⟨cd,hc,_⟩:=W.any_some c.hd;unfold W.findObj;rw[hc,Option.bind_some,z.ha,Option.bind_some];simp[z.hn,z.htk]
def nr (c:cw K C)(z:vc K C):W.KitX K (.ref x) (.ref C) (λh=>W.InstAt h x ox C odo) where
 ty:=λ_ _ _ I=>I.type
 it:=λ_ _ X _=>by
  obtain ⟨cdD,hcD,_⟩:=W.any_some c.hd;unfold W.clsIn at hcD
  split at hcD
  ·rename_i c' d' cd' sl' ho;intro A' Q' E' s' k q;unfold isType loadHead;exact wpAny_bind (wpAny_loadPart (k _ _ (X _ _ ho)) (wpAny_pure q))
  ·cases hcD
 ne:=λh tp dd its n sl X htp=>by
  obtain ⟨cdD,hcD,_⟩:=W.any_some c.hd;refine Bool.eq_false_iff.mpr λq=>?_
  have e:C=tp:=Value.ref.inj (beq_iff_eq.mp q);subst e;unfold W.clsIn at hcD
  split at hcD
  ·rename_i c' d' cd' sl' ho;have z:=(X _ _ ho).symm.trans htp;cases z
  ·cases hcD
 ca:=λX I k=>AO X I c z (uV c z) k
end
section
variable {X:Cx}{Y:JS}{U:St}{H:Hp}{s:Shared}{a C:Addr}{dx:Option Addr}{fs:List (Str×V)}{fr:Bool}
def nY (I:Inv X Y U H s)(e:H a=some (.exc C dx fs fr)):∃ ox odo,W.InstAt s.heap a ox C odo:=by
 obtain ⟨⟨vs,ho,_⟩,z⟩:=id (I.hok a _ e);rcases z with ⟨rfl,_⟩|⟨d,rfl,_,_,_,mA,⟨od,es,ep,hod,_⟩,_⟩
 ·exact ⟨_,none,ho,rfl,rfl,True.intro⟩
 ·exact ⟨_,some od,ho,rfl,rfl,hod⟩
def xx {E:JR}{Q:JR}{cv:Value}{b:Bool}(I:Inv X Y U H s)(e:H a=some (.exc C dx fs fr))(c:cw X.K C)(z:vc X.K C)(k:W.kitOne X.K (.ref C) cv=some b)
  (h:∀ tk,Q (.bool b) { s with toks:=tk }):wpAny (model X.prog X.w) A (call (.builtin "isinstance") [.ref a,cv]) Q E s:=by
 obtain ⟨ox,odo,J⟩:=nY I e;exact W.kia_one (nr (ox:=ox) (odo:=odo) c z) I.bG J k (λz=>nomatch z) h
end
end L2
namespace L2
open PySem PySem.Spec PySem.W PyProof.Rows
variable {dx:Option Addr}
section
variable {X:Cx}{f:Str}{o value ex:Expr}{ta tv te:TE}{pos pos':Pos}{E:St->XK}
def pN {h:Heap}{a:Addr}{C:Addr}{vs:Array Value}{M:Model}(ho:h.get? a=some { cls:=.ref C,dict:=dx,data:=.fields vs }):W.Looks M h (isType (.ref a)) false:=by
 intro A Q E s k q;unfold isType loadHead;exact wpAny_bind (wpAny_loadPart (k _ _ ho) (wpAny_pure q))
abbrev DG (K:W.Frag)(E:St->XK)(te:TE):TS:=λD U H=>te U H λv H1=>∃ a C dx fs,v=.ref a/\H1 a=some (.exc C dx fs true)/\cw K C/\E U a (upd H1 a (.exc C dx fs false))
def vg (hx:EC X E)(hc:X.calm=true)(he:PE X ex te):PS X (.Raise (some ex) none pos) (DG X.K E te):=by
 intro Y s U H D I h;rw[arm_exec_Raise];simp only[evalOpt,Option.map];refine wpAny_bind (wpAny_standAt ?_);unfold raiseStmt;refine wpAny_bind (wpAny_bind (au (he Y s U H _ I h) λu s1 ⟨y,H1,I1,ry,a,C,dx,fs,ey,ea,c,q⟩=>wpAny_bind (wpAny_standAt (wpAny_pure ?_))));subst ey;obtain rfl:u=Value.ref a:=ry;obtain ⟨⟨vs,ho,hsz,h1⟩,z⟩:=id (I1.hok a _ ea);have h1':=h1 rfl;have hq:X.xe (.ref a) s1:=by
  have J:Inv X [] U (upd H1 a (.exc C dx fs false)) s1:=by
   have J1:=I1.xa.write (x:=a) (e:=a) (o:=.exc C dx fs false) (t':=s1.toks) (h':=s1.heap) (by rw[ea];exact True.intro) (.inl rfl) (λ_ _ _ q=>q) ⟨_,ho⟩ ?_
   ·exact J1
   ·refine ⟨⟨vs,ho,hsz,λy=>by cases y⟩,?_⟩;rcases z with z|⟨d,ed,d1,z1,ne,r⟩
    ·exact .inl z
    ·exact .inr ⟨d,ed,by rw[af ne];exact d1,z1,ne,r⟩
  exact hx U _ s1 a C dx fs J (.inl ⟨_,vs,ho,rfl,h1'⟩) aq q
 obtain ⟨hp,g,d,tk,os⟩:=s1;have L0:Looks (model X.prog X.w) hp (typeOf (.ref a)) (.ref C):=(Looks.ld ho).andThen .now;have L1:Looks (model X.prog X.w) hp (isType (.ref a)) false:=pN ho;have L2':Looks (model X.prog X.w) hp (isInstance (.ref a) (.type "BaseException")) true:=L0.andThen (looks_mroIn I1.bG (c.sub (by decide+kernel)));have L5:Looks (model X.prog X.w) hp (typeOf (.ref C)) (.type "type"):=looks_typeIn I1.bG c.mt;have tt:(Value.type "type" ==Value.type "type")=true:=by decide
 repeat (first|simp only[Bool.false_eq_true,if_false,if_true,tt]|lk)
 rw[h1'];refine wpAny_pure ?_;rw[if_neg (by decide)];exact wpAny_pure (wpAny_raiseNew_none (I1.ok.hd hc) hq)
end
@[reducible]def Cx.bh (X:Cx) (e:Value):Cx:={ X with A:=X.A.mark (some e),calm:=false,xe:=λ_ _=>False }
variable {xe:JR}{ps:JS}{D:Ends}
section
variable {X:Cx}{Y:JS}{U:St}{H:Hp}{s:Shared}
def Cx.Ok.bh (ok:X.Ok)(e:Value):(X.bh e).Ok:=
 ⟨ok.mod,ok.kind,ok.glob,ok.blt,ok.above,ok.inj,ok.has,ok.cab,(λz=>by cases z),ok.frames,ok.stk,ok.exf,ok.bs,ok.bsz,ok.noex,ok.exfs,ok.iB,ok.frf⟩
def Inv.bh (I:Inv X Y U H s)(e:Value):Inv (X.bh e) Y U H s:=⟨I.ok.bh e,I.os,I.bare,I.base,I.loc,I.cell,I.free,I.freeC,I.pin,I.hok,I.len⟩
def Inv.iU {e:Value}(ok:X.Ok)(I:Inv (X.bh e) Y U H s):Inv X Y U H s:=⟨ok,I.os,I.bare,I.base,I.loc,I.cell,I.free,I.freeC,I.pin,I.hok,I.len⟩
def eC {M:Model}{A:Around}{E:JR}{Q:JQ}{i:Nat}{n:Str}{pos:Pos}(I:Inv X Y U H s)(hN:X.N.Nodup)(hi:X.N[i]? =some n)(hn:X.env.scope.names.lookup n=some .local)
  (h:∀ s',Inv X Y (U.set i none) H s'->Q () s'):wpAny M A (do bindName X.env n .none;unbindBehindTheSuite X.env n pos) Q E s:=by
 have hcls:(X.env.scope.kind ==.class||(X.env.scope.kind ==.module&&X.env.locals != X.env.globals))=false:=by rw[I.ok.kind];rfl
 refine wpAny_bind (wpAny_bindName (gr I hN hi (.inl hn) (v:=.non) rfl (λs1 I1=>?_) (.inr hn)));obtain ⟨m,hm,hl⟩:=I1.loc;unfold unbindBehindTheSuite;refine wpAny_onRaise ?_;unfold unbindName;refine wpAny_bind (wpAny_point (wpAny_bind ?_));unfold deleteName;have hk:X.env.kindOf n=some .local:=hn;have hiσ:i<U.length:=by rw[I.len];exact (List.getElem?_eq_some_iff.mp hi).1
 have hmn:(m n).isSome=true:=by
  obtain ⟨u,_,l⟩:=hl i n .non hi (by rw[getElem?_set_self hiσ]) (.inl hn);rcases l with ⟨_,q⟩|⟨q,_⟩
  ·rw[q];rfl
  ·rcases q with q|q<;>(rw[hk] at q;cases q)
 simp only[hk,hcls];rw[if_neg (by decide)];refine wpAny_bind (wpAny_nsDel_keeps hm λh2 v hn2 hs2=>?_);rw[hmn];simp only[if_true,Bool.not_true,Bool.false_eq_true,if_false];refine wpAny_pure (wpAny_point (h { s1 with heap:=h2 } ?_));obtain ⟨oL,esL,epL,hoL,_⟩:=id hm;have wu:=I1.wu;refine ⟨I1.ok,I1.os,I1.bare,⟨λb o e n hb hx=>?_,λb o e n hb hx=>?_,I1.base.free,λb o e hx=>?_,I1.base.tups,I1.base.frzs,I1.base.tbls⟩,⟨_,hn2,λj y v' e1 e2 e3=>?_⟩,λy c e=>?_,I1.free,I1.freeC,λp hp=>?_,λa u ha=>?_,by rw[length_set];exact I.len⟩
 ·exact (hs2.2 b (Nat.ne_of_lt (Nat.lt_of_lt_of_le (Heap.lt_size e) I1.ok.above))).trans (I1.base.keep b o e n hb hx)
 ·obtain ⟨sl,q⟩:=I1.base.slot b o e n hb hx;exact ⟨sl,(hs2.2 b (Nat.ne_of_lt (Nat.lt_of_lt_of_le (Heap.lt_size e) I1.ok.above))).trans q⟩
 ·obtain ⟨o',q⟩:=I1.base.there b o e hx;exact ⟨o',(hs2.2 b (Nat.ne_of_lt (Nat.lt_of_lt_of_le (Heap.lt_size e) I1.ok.above))).trans q⟩
 ·have hj:j≠i:=λz=>by rw[z,getElem?_set_self hiσ] at e2;cases e2
  rw[getElem?_set_ne (Ne.symm hj)] at e2;obtain ⟨u,r,q⟩:=hl j y v' e1 (by rw[getElem?_set_ne (Ne.symm hj)];exact e2) e3;refine ⟨u,r,?_⟩;rcases q with ⟨k,e⟩|⟨k,c,e,z⟩
  ·refine .inl ⟨k,?_⟩;have ny:y≠n:=λz=>hj (jG hN e1 (z▸hi))
   show (if y=n then v else m y)=some u;rw[if_neg ny];exact e
  ·exact .inr ⟨k,c,e,z.sameBut hs2 (wu y c e)⟩
 ·obtain ⟨w',z⟩:=I1.cell y c e;exact ⟨w',z.sameBut hs2 (wu y c e)⟩
 ·obtain ⟨e,n,ne,nf,d⟩:=I1.pin p hp;exact ⟨(hs2.2 p.1 ne).trans e,n,ne,nf,d⟩
 ·refine (I1.hok a u ha).iM (λb o hb hq=>(hs2.2 b ?_).trans hq) (λ_ q=>q) λ_ _ q=>q
  rintro rfl;rcases hb with hb|hb
  ·rw[<-hb,I1.free] at ha;cases ha
  ·rw[I1.free] at hb;cases hb
@[reducible]def Cx.fw (X:Cx) (Y:JS) (xe:JR):Cx:={ X with pn:=X.pn++Y,xe:=xe }
def Cx.Ok.fw (ok:X.Ok)(Y:JS)(xe:JR):(X.fw Y xe).Ok:=
 ⟨ok.mod,ok.kind,ok.glob,ok.blt,ok.above,ok.inj,ok.has,ok.cab,ok.hd,ok.frames,ok.stk,ok.exf,ok.bs,ok.bsz,ok.noex,ok.exfs,ok.iB,ok.frf⟩
def Inv.fw (I:Inv X Y U H s)(xe:JR):Inv (X.fw Y xe) [] U H s:=
 ⟨I.ok.fw Y xe,I.os,I.bare,I.base,I.loc,I.cell,I.free,I.freeC,λp hp=>I.pin p (by simpa using hp),I.hok,I.len⟩
def Inv.ft (ok:X.Ok)(I:Inv (X.fw Y xe) ps U H s):Inv X Y U H s:=
 ⟨ok,I.os,I.bare,I.base,I.loc,I.cell,I.free,I.freeC,λp hp=>I.pin p (mem_append_left _ hp),I.hok,I.len⟩
def SP.ft {f:Flow}(ok:X.Ok)(h:SP (X.fw Y xe) ps D f s):SP X Y D f s:=by
 cases f with
 |next=>obtain ⟨σ',H',I,q⟩:=h;exact ⟨σ',H',I.ft ok,q⟩
 |brk=>obtain ⟨σ',H',I,q⟩:=h;exact ⟨σ',H',I.ft ok,q⟩
 |cont=>obtain ⟨σ',H',I,q⟩:=h;exact ⟨σ',H',I.ft ok,q⟩
 |ret u=>obtain ⟨v,σ',H',I,r,q⟩:=h;exact ⟨v,σ',H',I.ft ok,r,q⟩
def Ds {body:List Stmt}{h0:ExceptHandler}{hs:List ExceptHandler}{pos:Pos}{E':St->XK}(I:Inv X Y U H s)(hstk:X.stack=X.env::X.outer)(hfr:X.env.frame=some X.env.locals)
  (hb:∀ xe,EC (X.fw Y xe) E'->PassesOwn (model X.prog X.w) X.A X.env xe->wpAny (model X.prog X.w) X.A (execs body X.env) (SP (X.fw Y xe) [] D) xe s)
  (hh:∀ (U:St) (H:Hp) (s:Shared) (e C:Addr) (dx:Option Addr) (fs:List (Str×V)) (T:Addr),Inv X Y U H s->H e=some (.exc C dx fs false)->X.s₀.heap.objs.size<=T->H T=none->(∀ p ∈ X.pn++Y,p.1≠T)->yd s.heap e T .none->E' U e H->
   wpAny (model X.prog X.w) X.A (handleBy (.ref e) X.env (h0::hs)) (SP X Y D) X.xe s):
  wpAny (model X.prog X.w) X.A (exec (.Try body (h0::hs) [] [] pos) X.env) (SP X Y D) X.xe s:=by
 refine wpAny_Try_except (wpAny_mono (hb (λu s1=>wpAny (model X.prog X.w) X.A (noteFrame u X.env) (λ_ s2=>wpAny (model X.prog X.w) X.A (setFlight u none) (λ_ s3=>wpAny (model X.prog X.w) X.A (handleBy u X.env (h0::hs)) (SP X Y D) X.xe s3) X.xe s2) X.xe s1) ?_ PassesOwn.looking) (λf s1 h1=>?_) λ_ _ z=>z)
 ·intro σ' H' s' e C dx fs J sf he q;exact kL (X:=X.fw Y _) J hstk hfr sf he λs2 T J2 _ hT hH hp st=>hh σ' H' s2 e C dx fs T (J2.ft I.ok) he hT hH hp st q
 ·have h2:=SP.ft I.ok h1;cases f with
  |next=>exact wpAny_execs_nil h2
  |brk=>exact h2
  |cont=>exact h2
  |ret u=>exact h2
def nI {n x:Str}{np hpos:Pos}{b0:Stmt}{bh:List Stmt}{rest:List ExceptHandler}{i:Nat}{e C Ch T:Addr}{fs:List (Str×V)}{b:Bool}(I:Inv X Y U H s)(he:H e=some (.exc C dx fs false))
  (hT:X.s₀.heap.objs.size<=T) (hH:H T=none) (hp:∀ p ∈ X.pn++Y,p.1≠T) (st:yd s.heap e T .none) (c:cw X.K C) (ch:cw X.K Ch) (hsub:W.mroIn X.K C (.ref Ch)=some b) (hg:Gl X x) (hm:X.mg x=some (.ref Ch))
  (hN:X.N.Nodup) (hi:X.N[i]? =some n) (hn:X.env.scope.names.lookup n=some .local) (hdb:(x ==("__debug__":Str))=false)
  (yes:b=true->∀ s2,Inv (X.bh (.ref e)) Y (U.set i (some (.ref e))) H s2->wpAny (model X.prog X.w) (X.A.mark (some (.ref e))) (execs (b0::bh) X.env)
   (SP (X.bh (.ref e)) Y { nx:=λσ' H'=>D.nx (σ'.set i none) H',rt:=D.rt,bk:=λσ' H'=>D.bk (σ'.set i none) H',ct:=λσ' H'=>D.ct (σ'.set i none) H' }) (λ_ _=>False) s2)
  (no:b=false->wpAny (model X.prog X.w) X.A (handleBy (.ref e) X.env rest) (SP X Y D) X.xe s):
  wpAny (model X.prog X.w) X.A (handleBy (.ref e) X.env (.ExceptHandler (some (.Name x np)) (some n) (b0::bh) hpos::rest)) (SP X Y D) X.xe s:=by
 have I':=I.bh (.ref e);refine wpAny_handleBy_cons (codeAny_handlers_test (bj (X:=X.bh (.ref e)) I' hg hm ?_ hdb)) (by intro q;cases q);obtain ⟨⟨vs,ho,hsz,h1⟩,z⟩:=id (I.hok e _ he);have L0:Looks (model X.prog X.w) s.heap (typeOf (.ref e)) (.ref C):=(Looks.ld ho).andThen .now;have L1:Looks (model X.prog X.w) s.heap (typeOf (.ref Ch)) (.type "type"):=looks_typeIn I.bG ch.mt;have L2':Looks (model X.prog X.w) s.heap (isInstance (.ref Ch) (.type "tuple")) false:=L1.andThen (Looks.of_pure tc_notTuple);have L3:Looks (model X.prog X.w) s.heap (isType (.ref Ch)) true:=by
  obtain ⟨cd,rs,hcl,_⟩:=ch.mro;unfold W.clsIn at hcl
  split at hcl
  ·rename_i ho';intro A' Q' E' s' k q;unfold isType loadHead;exact wpAny_bind (wpAny_loadPart (k _ _ (I.bG _ _ ho')) (wpAny_pure q))
  ·cases hcl
 have L4:Looks (model X.prog X.w) s.heap (isSubtype (.ref Ch) (.type "BaseException")) true:=looks_mroIn I.bG (ch.sub (by decide+kernel));have L5:Looks (model X.prog X.w) s.heap (isSubtype (.ref C) (.ref Ch)) b:=looks_mroIn I.bG hsub;have L6:Looks (model X.prog X.w) s.heap (isExcClass (.ref Ch)) true:=by
  unfold isExcClass;exact L3.andThen L4
 unfold excMatches;refine wpAny_bind (L2'.here ?_);rw[if_neg (by decide)];refine wpAny_bind (wpAny_pure ?_);simp only[forIn_cons,forIn_nil];refine wpAny_bind (wpAny_bind (wpAny_bind (L6.here ?_)));rw[if_neg (by decide)];refine wpAny_pure ?_;refine wpAny_pure ?_;refine wpAny_bind (L0.here ?_);refine wpAny_bind (wpAny_bind (wpAny_bind (L5.here ?_)));cases b with
 |false=>
  rw[if_neg (by decide)];refine wpAny_pure ?_;refine wpAny_pure ?_;refine wpAny_pure ?_;exact no rfl
 |true=>
  rw[if_pos rfl];refine wpAny_pure ?_;refine wpAny_pure ?_;refine wpAny_pure ?_;refine codeAny_handlers_suite_as (sm st λh2 mM oth _ th2 _=>?_);have I2:Inv X Y U H { s with heap:=h2 }:=by
   refine Inv.turned (it:=T) (h':=h2) (t':=s.toks) I (λb o hb hq=>(oth b hb).trans hq) hH ?_ (.inr hT) (λy cc hc z=>?_) hp
   ·intro z;obtain ⟨m,⟨o,es,ep,ho',hd,_⟩,_⟩:=I.loc;obtain ⟨_,_,oT,ts,_,_,_,_,hT2,hd2,_⟩:=st;rw[z,ho'] at hT2;cases hT2;rw[hd] at hd2;cases hd2
   ·obtain ⟨v,o,ho',hd⟩:=I.cell y cc hc;obtain ⟨_,_,oT,ts,_,_,_,_,hT2,hd2,_⟩:=st;rw[<-z,ho'] at hT2;cases hT2;rw[hd] at hd2;cases hd2
  refine gr (X:=X.bh (.ref e)) (I2.bh (.ref e)) hN hi (.inl hn) (v:=.ref e) rfl (λs3 I3=>?_) (.inr hn);refine wpAny_mono (yes rfl s3 I3) (λf s4 h4=>?_) λ_ _ z=>z.elim
  cases f with
  |next=>
   obtain ⟨σ',H',J,q⟩:=h4;exact eC (J.iU I.ok) hN hi hn λs5 J5=>⟨_,H',J5,q⟩
  |brk=>
   obtain ⟨σ',H',J,q⟩:=h4;exact eC (J.iU I.ok) hN hi hn λs5 J5=>⟨_,H',J5,q⟩
  |cont=>
   obtain ⟨σ',H',J,q⟩:=h4;exact eC (J.iU I.ok) hN hi hn λs5 J5=>⟨_,H',J5,q⟩
  |ret u=>
   obtain ⟨v,σ',H',J,r,q⟩:=h4;exact eC (J.iU I.ok) hN hi hn λs5 J5=>⟨v,_,H',J5,r,q⟩
end
end L2
namespace L2
open PySem PySem.Spec PyProof.Rows
def xH:bootBuiltins "isinstance"=some (.builtin "isinstance"):=by decide+kernel
section
variable {X:Cx}
abbrev GZ (K:W.Frag):V->V->Hp->VK->Prop:=λx y H Q=>∃ p xs i v,x=.ref p/\y=.int i/\bg K H p xs/\0<=i/\xs[i.toNat]? =some v/\Q v H
def wK:Et X (GZ X.K):=by
 intro Y s U H o i ov iv Q I ro ri h;obtain ⟨p,xs,k,z,rfl,rfl,hq,h0,he,q⟩:=h;cases ro;obtain ⟨t,rfl⟩:=ri;obtain ⟨its,r,pl,hz⟩:=I.list hq;obtain ⟨w,ew,rw'⟩:=r.get he;have hl:k.toNat<xs.length:=(List.getElem?_eq_some_iff.mp he).1;have hn:=gJ;exact wpAny_getItem_list pl.isList h0 nofun (by simpa using ew) ⟨z,H,I,rw',q⟩
def iZ {xs:List V}{us:List Value}(r:Vals xs us){j:Nat}(h:j<us.toArray.size):∃ x,xs[j]? =some x/\RelV x (us.toArray[j]):=by
 have hl:=r.length;have hj:j<us.length:=by simpa using h
 have e:xs[j]? =some xs[j]:=getElem?_eq_getElem nofun;obtain ⟨u,h1,h2⟩:=r.get e;refine ⟨_,e,?_⟩;rw[getElem?_eq_getElem hj] at h1;cases h1;simpa using h2
end
section
variable {U:St}{H:Hp}{Q:VK}{D:Ends}{K:W.Frag}
abbrev uC (x:V)(H:Hp)(R:Bool->Hp->Prop):Prop:=∃ k,x=.bl k/\R k H
def jj {α:Type}{xs:List α}{i:Int}(h0:0<=i)(h1:i<xs.length):∃ v,mL xs i=some v/\v ∈ xs:=by
 obtain ⟨n,rfl⟩:=Int.eq_ofNat_of_zero_le h0;have hn:n<xs.length:=by omega
 exact ⟨xs[n],cZ (getElem?_eq_getElem hn),List.getElem_mem hn⟩
end
section
variable {K:W.Frag}{g:TG}{tb:TS}{D:Ends}{U:St}{H:Hp}{tl:TE}{ta:TA}
end
def fits {n:Nat}(h:n<=1000):n<=sizeLine:=Nat.le_of_lt (cN h)
section
variable {X:Cx}{H:Hp}{Q:VK}
end
section
variable {K:W.Frag}
end
section
variable {H H':Hp}{h c p:Addr}{m n:Int}{o:HO}
end
def F3 (ns:List Int)(h:ns.length<=63):gZ (ns.map V.int) none (some 63)=ns.map V.int:=by
 have e1:HT.bz (ns.map V.int).length 0 none=0:=rfl;have e2:HT.bz (ns.map V.int).length (ns.map V.int).length (some 63)=(ns.map V.int).length:=by
  show (if (63:Int)<0 then ((63:Int)+((ns.map V.int).length:Int)).toNat else min (63:Int).toNat (ns.map V.int).length)=(ns.map V.int).length;rw[if_neg (by decide),length_map];show min 63 ns.length=ns.length
  omega
 unfold gZ;rw[e1,e2,drop_zero,Nat.sub_zero,List.take_length]
variable {ns:List Int}
def qp {i:Nat}{x:V}(h:(ns.map V.int)[i]? =some x):∃ z,x=V.int z:=by
 rw[getElem?_map] at h;cases e:ns[i]? with
 |none=>rw[e] at h;cases h
 |some z=>rw[e] at h;exact ⟨z,(Option.some.inj h).symm⟩
def xg {i:Int}(h0:0<=i)(h1:i<ns.length):∃ z,mL (ns.map V.int) i=some (.int z):=by
 obtain ⟨v,a,m⟩:=jj (xs:=ns.map V.int) h0 (by rw[length_map];exact h1);obtain ⟨z,_,rfl⟩:=List.mem_map.mp m;exact ⟨z,a⟩
section
variable {H:Hp}{Q:VK}
end
section
variable {X:Cx}
end
variable {A:Around}{E:JR}{s:Shared}
def B1 {α:Type}{t:Sem α}{Q Q':α->Shared->Prop}{M:Model}(h:wpAny M A t Q (λ_ _=>False) s) (hQ:∀ a s,Q a s->Q' a s):wpAny M A t Q' E s:=wpAny_mono h hQ λ_ _ x=>x.elim
abbrev eX (X:Cx)(scope:Scope)(cl:List (Str×Addr))(N:List Str)(s:Shared)(H:Hp)(fp:List Addr):Cx:=
 { X with N:=N,s₀:=s,H₀:=H,env:=compEnvC scope cl s.heap.objs.size X.env,outer:=X.stack,stack:=X.stack,ex:=fp,fn:=λ_=>false,pn:=[],xe:=λ_ _=>False }
structure ba (X:Cx) (scope:Scope) (cl:List (Str×Addr)) (xs:List Str) (fr:List Str) (sel:List Nat):Prop where
 clos:closureFor scope X.env=pure cl
 sub:∀ y c,cl.lookup y=some c->X.env.cells.lookup y=some c
 has:∀ y,((relabel scope X.env).names.lookup y=some .cell\/(relabel scope X.env).names.lookup y=some .free)->∃ c,cl.lookup y=some c
 kind:scope.kind=.function
 nocell:∀ y ∈ scope.names,y.2≠.cell
 names:∀ y ∈ scope.names,y.2=.local->scope.names.lookup y.1=some .local
 own:∀ x ∈ xs,scope.names.lookup x=some .local
 len:sel.length=fr.length
 out:∀ (j:Nat) (y:Str),fr[j]? =some y->∃ i,sel[j]? =some i/\X.N[i]? =some y/\X.env.scope.names.lookup y=some .cell/\(relabel scope X.env).names.lookup y=some .cell
 nd:(xs++fr).Nodup
abbrev fh (U:St)(sel:List Nat):St:=sel.map λi=>U.getD i none
abbrev LC (te:TE)(J:It)(σ₀:St)(H1:Hp)(Q:VK):Prop:=∀ D,H1 D=none->∃ W:Nat->Nat->St->Hp->Prop,(∃ m,W 0 m σ₀ (upd H1 D (.lst [])))/\∀ i m σ' H',W i m σ' H'->
 (J.stop i H'/\Q (.ref D) H')\/(J.go i H'/\∃ N:St->Hp->Prop,(∀ σ2 H2,N σ2 H2->∃ m',m'<m/\W (i+1) m' σ2 H2)/\
  ∀ x H'',J.yld i H' x H''->te (σ'.set 0 (some x)) H'' λv H3=>∃ zs,H3 D=some (.lst zs)/\zs.length<sizeLine/\N (σ'.set 0 (some x)) (upd H3 D (.lst (zs++[v]))))
abbrev gate (env:Env):List Expr->Sem Bool
 | []=>pure true
 |c::_=>isTrue c env (eval c env)
variable {ifs:List Expr}{scope:Scope}{pos:Pos}
def rH {M:Model}{elt target iter:Expr}{it acc:Value}{env:Env}{Q:PySem.Fin->Shared->Prop}(hi:ifs.length<=1)
  (h:wpAny M A (pyNext it) (λr s1=>match r with
   |none=>Q (.done .next) s1
   |some v=>wpAny M A (letOwnedTupleGo target it v) (λ_ s2=>wpAny M A (assign target env v) (λ_ s3=>wpAny M A (gate env ifs) (λok s4=>
    (ok=true->wpAny M A (eval elt env) (λx s5=>wpAny M A (call (.builtin "list.append") [acc,x]) (λ_ s6=>wpAny M A (again (.compLoop (.ListComp elt [⟨target,iter,ifs,0⟩] scope pos) 0 it acc env)) Q E s6) E s5) E s4)/\
    (ok=false->wpAny M A (again (.compLoop (.ListComp elt [⟨target,iter,ifs,0⟩] scope pos) 0 it acc env)) Q E s4)) E s3) E s2) E s1) E s):
  wpAny M A (compTurn (.ListComp elt [⟨target,iter,ifs,0⟩] scope pos) 0 it acc env) Q E s:=by
 have key:∀ {g:Sem Bool}{K:Sem PySem.Fin}{s:Shared},wpAny M A g (λok s4=>
    (ok=true->wpAny M A (eval elt env) (λx s5=>wpAny M A (call (.builtin "list.append") [acc,x]) (λ_ s6=>wpAny M A K Q E s6) E s5) E s4)/\
    (ok=false->wpAny M A K Q E s4)) E s->wpAny M A (g >>= λok=>if ok=true then (eval elt env >>= λx=>call (.builtin "list.append") [acc,x] >>= λ_=>pure ()) >>= λ_=>K else K) Q E s:=λ{g K s} h=>by
  refine wpAny_bind (wpAny_mono h (λok s4 h4=>?_) λ_ _ e=>e);cases ok with
  |false=>exact h4.2 rfl
  |true=>exact wpAny_bind (wpAny_bind (wpAny_mono (h4.1 rfl) (λx s5 h5=>wpAny_bind (wpAny_mono h5 (λ_ s6 h6=>wpAny_pure h6) λ_ _ e=>e)) λ_ _ e=>e))
 match ifs,hi with
 | [],_=>
  rw[compTurn_list1];refine wpAny_bind (wpAny_standAt (wpAny_bind (wpAny_mono h (λr s1 h1=>?_) λ_ _ e=>e)));cases r with
  |none=>exact wpAny_pure h1
  |some v=>
   refine wpAny_bind (wpAny_mono h1 (λ_ s2 h2=>wpAny_bind (wpAny_mono h2 (λ_ s3 h3=>?_) λ_ _ e=>e)) λ_ _ e=>e);exact key (g:=pure true) h3
 | [c],_=>
  unfold compTurn;simp only[List.getElem?_cons_zero,List.getElem?_cons_succ,List.getElem?_nil];dsimp only[forIn,List.forIn',List.forIn'.loop,forIn'];rw[if_neg (by decide),if_neg (by decide)];refine wpAny_bind (wpAny_standAt (wpAny_bind (wpAny_mono h (λr s1 h1=>?_) λ_ _ e=>e)));cases r with
  |none=>exact wpAny_pure h1
  |some v=>
   refine wpAny_bind (wpAny_mono h1 (λ_ s2 h2=>wpAny_bind (wpAny_mono h2 (λ_ s3 h3=>?_) λ_ _ e=>e)) λ_ _ e=>e);refine key ?_;rw[if_pos rfl];refine wpAny_bind (wpAny_bind (wpAny_mono h3 (λok s4 h4=>wpAny_pure ?_) λ_ _ e=>e));exact wpAny_pure h4
abbrev LCg (tg:TG)(tc:TT)(te:TE)(J:It)(σ₀:St)(H1:Hp)(Q:VK):Prop:=∀ D,H1 D=none->∃ W:Nat->Nat->St->Hp->Prop,(∃ m,W 0 m σ₀ (upd H1 D (.lst [])))/\∀ i m σ' H',W i m σ' H'->
 (J.stop i H'/\Q (.ref D) H')\/(J.go i H'/\∃ N:St->Hp->Prop,(∀ σ2 H2,N σ2 H2->∃ m',m'<m/\W (i+1) m' σ2 H2)/\
  ∀ x H'',J.yld i H' x H''->tg x σ' H'' λσ2 H2=>tc σ2 H2 λb H3=>(b=true->te σ2 H3 λv H4=>∃ zs,H4 D=some (.lst zs)/\zs.length<sizeLine/\N σ2 (upd H4 D (.lst (zs++[v]))))/\(b=false->N σ2 H3))
abbrev yes:TT:=λ_ H Q=>Q true H
variable {te:TE}
def LC.g {J:It}{σ₀:St}{H1:Hp}{Q:VK}(h:LC te J σ₀ H1 Q):LCg (fU 0) yes te J σ₀ H1 Q:=λD hD=>by
 obtain ⟨W,w0,turn⟩:=h D hD;refine ⟨W,w0,λi m σ' H' w=>?_⟩;rcases turn i m σ' H' w with z|⟨go,N,hN,step⟩
 ·exact .inl z
 ·exact .inr ⟨go,N,hN,λx H'' y=>⟨λ_=>step x H'' y,λe=>nomatch e⟩⟩
abbrev Hl (X:Cx)(ifs:List Expr)(tc:TT):Prop:=ifs.length<=1/\∀ (Y:JS) (s:Shared) (U:St) (H:Hp) (Q:Bool->Hp->Prop),Inv X Y U H s->tc U H Q->wpAny (model X.prog X.w) X.A (gate X.env ifs) (TP X Y U Q) X.xe s
variable {X:Cx}
def mx:Hl X [] yes:=⟨Nat.zero_le _,λY s U H Q I q=>wpAny_pure ⟨H,I,q⟩⟩
def rm {c:Expr}{tc:TT}(h:PT X c tc):Hl X [c] tc:=⟨Nat.le_refl _,h⟩
abbrev mN (xs:List Str):St:=xs.map λ_=>none
abbrev Jm (wi:TI)(te:TE)(sel:List Nat):TE:=λU H Q=>wi U H λJ H1=>LC te J (none::fh U sel) H1 Q
abbrev EO (wi:TI)(tg:TG)(tc:TT)(te:TE)(xs:List Str)(sel:List Nat):TE:=λU H Q=>wi U H λJ H1=>LCg tg tc te J (mN xs++fh U sel) H1 Q
variable {cl:List (Str×Addr)}{xs fr:List Str}{sel:List Nat}{fp:List Addr}
section
variable {X:Cx}
def Un.sameBut {fs ex:List Addr}{H H':Hp}{h h1 h2:Heap}{C:Addr}(u:Un fs ex H H' h h1)(hs:Heap.SameBut C h1 h2)(hC:h.objs.size<=C):Un fs ex H H' h h2:=by
 have ne:∀ b o,h.get? b=some o->b≠C:=λb o e=>Nat.ne_of_lt (Nat.lt_of_lt_of_le (Heap.lt_size e) hC)
 refine ⟨λb o e n hb hx=>(hs.2 b (ne b o e)).trans (u.keep b o e n hb hx),λb o e n hb hx=>?_,u.free,λb o e hx=>?_,u.tups,u.frzs,u.tbls⟩
 ·obtain ⟨sl,q⟩:=u.slot b o e n hb hx;exact ⟨sl,(hs.2 b (ne b o e)).trans q⟩
 ·obtain ⟨o',q⟩:=u.there b o e hx;exact ⟨o',(hs.2 b (ne b o e)).trans q⟩
def oB {Y:JS}{U:St}{H:Hp}{h':Heap}{tk:Nat}{m':JT}
  (S:ba X scope cl xs fr sel) (I:Inv X Y U H s) (f2:∀ b ∈ fp,gz X Y H b) (fo:∀ b ∈ fp,b<s.heap.objs.size) (hns:h'.Ns s.heap.objs.size m') (keep:∀ b o,s.heap.get? b=some o->h'.get? b=some o):
  Inv (eX X scope cl (xs++fr) s H fp) (X.pn++Y) (mN xs++fh U sel) H { s with heap:=h',toks:=tk }:=by
 have stk:∀ b,b≠X.env.locals->b ∉ X.fs->b ∉ k9 X.stack:=λb h1 h2 hb=>(mem_cons.mp (I.gK b hb)).elim h1 h2
 refine ⟨⟨I.ok.mod,S.kind,I.ok.glob,I.ok.blt,Nat.le_refl _,λy z c h1 h2=>I.ok.inj y z c (S.sub y c h1) (S.sub z c h2),λy hy=>S.has y hy,(λy c h=>nomatch h),I.ok.hd,I.ok.frames,.inl rfl,λb hb=>⟨Nat.ne_of_lt (fo b hb),λy c h=>(f2 b hb).2.2.2.2.1 y c (S.sub y c h)⟩,I.bs,
  Nat.le_trans I.ok.bsz I.sz,λb o e hb=>?_,λb hb=>stk b (f2 b hb).2.1 (f2 b hb).2.2.1,I.stack,I.lY⟩,
  rfl,I.bare,Un.kept keep,⟨m',hns,λi y v e1 e2 e3=>?_⟩,λy c h=>?_,I.hok.fresh (Nat.le_refl _),λy c h=>I.freeC y c (S.sub y c h),λp hp=>?_,I.hok.kept keep,?_⟩
 ·rcases (f2 b hb).2.2.2.1 with z|z
  ·exact I.ok.noex b o e z
  ·exact absurd (Nat.lt_of_lt_of_le (Nat.lt_of_lt_of_le (Heap.lt_size e) I.ok.bsz) z) (Nat.lt_irrefl _)
 ·have hln:(mN xs).length=xs.length:=length_map ..
  by_cases hlt:i<xs.length
  ·rw[getElem?_append_left (by rw[hln];exact hlt)] at e2;unfold mN at e2;rw[getElem?_map,getElem?_eq_getElem hlt] at e2;cases e2
  ·obtain ⟨j,rfl⟩:∃ j,i=xs.length+j:=⟨i-xs.length,by omega⟩;have e1':fr[j]? =some y:=by
    have e1:(xs++fr)[xs.length+j]? =some y:=e1;rw[getElem?_append_right nofun,show xs.length+j-xs.length=j by omega] at e1;exact e1
   obtain ⟨i,hi,hN,k1,k2⟩:=S.out j y e1';have e2':(fh U sel)[j]? =some (some v):=by
    rw[getElem?_append_right (by rw[hln];omega),hln,show xs.length+j-xs.length=j by omega] at e2;exact e2
   have e4:U[i]? =some (some v):=by
    unfold fh at e2';rw[getElem?_map,hi] at e2';have e5:U.getD i none=some v:=Option.some.inj e2';rw[List.getD_eq_getElem?_getD] at e5;cases e6:U[i]? with
    |none=>rw[e6] at e5;cases e5
    |some z=>rw[e6] at e5;exact congrArg some e5
   obtain ⟨m,hn,hl⟩:=I.loc;obtain ⟨u,r,l⟩:=hl i y v hN e4 (.inr (.inl k1));refine ⟨u,r,.inr ⟨.inl k2,?_⟩⟩;rcases l with ⟨hk,_⟩|⟨_,c,hc,o,ho,hd⟩
   ·have hk':X.env.scope.names.lookup y=some .local:=hk;rw[k1] at hk';cases hk'
   ·obtain ⟨c',hc'⟩:=S.has y (.inl k2);have:=(S.sub y c' hc').symm.trans hc;cases this;exact ⟨c,hc',o,keep c o ho,hd⟩
 ·obtain ⟨v,o,ho,hd⟩:=I.cell y c (S.sub y c h);exact ⟨v,o,keep c o ho,hd⟩
 ·obtain ⟨e,n,ne,nf,d⟩:=I.pin p (by simpa [eX] using hp);exact ⟨keep p.1 p.2 e,n,Nat.ne_of_lt (Heap.lt_size e),stk p.1 ne nf,d⟩
 ·show (mN xs++fh U sel).length=(xs++fr).length;unfold fh mN;simp[S.len]
def kN {elt iter tgt:Expr}{wi:TI}{tg:TG}{tc:TT}(hc:X.calm=true)(S:ba X scope cl xs fr sel)(hi:PI X tgt iter wi)
  (hg:∀ (s:Shared) (H:Hp) (fp:List Addr),PG (eX X scope cl (xs++fr) s H fp) tgt tg) (ht:∀ (s:Shared) (H:Hp) (fp:List Addr),Hl (eX X scope cl (xs++fr) s H fp) ifs tc)
  (he:∀ (s:Shared) (H:Hp) (fp:List Addr),PE (eX X scope cl (xs++fr) s H fp) elt te) (hs:∀ x,foldedSetIterable iter X.env x=pure x):PE X (.ListComp elt [⟨tgt,iter,ifs,0⟩] scope pos) (EO wi tg tc te xs sel):=by
 intro Y s U H Q I h;rw[eval_ListComp];refine wpAny_comprehension_free (use:=none) rfl hs S.clos S.kind S.names ?_;refine au (hi Y s U H _ I h) λv s1 h1=>au h1 λitv s2 h2=>?_
 obtain ⟨it,fp,tn,J,H2,e,I2,T,mM,f2,h2⟩:=h2;subst e;refine wpAny_newObj_type ?_;have hD:H2 s2.heap.objs.size=none:=I2.hok.fresh (Nat.le_refl _);have I3:Inv X Y U (upd H2 s2.heap.objs.size (.lst [])) { s2 with heap:=s2.heap.push { cls:=.type "list",dict:=none,data:=.seq ([]:List Value).toArray } }:=
  I2.laid (t':=s2.toks) (λb u e=>Heap.get?_push_of_some _ e) (Nat.le_refl _) ⟨Nat.zero_le _,[],0,.nil,Heap.get?_push_size _ rfl⟩
 have fo2:∀ b ∈ fp,b<s2.heap.objs.size:=λb hb=>by
  obtain ⟨o,ho,_⟩:=T.obj _ _ mM b hb;exact Heap.lt_size ho
 have f3:∀ b ∈ fp,gz X Y (upd H2 s2.heap.objs.size (.lst [])) b:=λb hb=>⟨by rw[af (Nat.ne_of_lt (fo2 b hb))];exact (f2 b hb).1,(f2 b hb).2⟩
 have st3:tn 0 (s2.heap.push { cls:=.type "list",dict:=none,data:=.seq ([]:List Value).toArray }):=T.keep _ _ _ mM λb hb o e=>Heap.get?_push_of_some _ e
 have fo3:∀ b ∈ fp,b<(s2.heap.push { cls:=.type "list",dict:=none,data:=.seq ([]:List Value).toArray }).objs.size:=λb hb=>by
  rw[Heap.size_push];exact Nat.lt_succ_of_lt (fo2 b hb)
 obtain ⟨W,⟨m0,w0⟩,turn⟩:=h2 _ hD;generalize s2.heap.objs.size=D at*;generalize hs3:({ s2 with heap:=s2.heap.push { cls:=.type "list",dict:=none,data:=.seq ([]:List Value).toArray } }:Shared)=s3 at*;have st3':tn 0 s3.heap:=by rw[<-hs3];exact st3
 have fo3':∀ b ∈ fp,b<s3.heap.objs.size:=by rw[<-hs3];exact fo3
 refine wpAny_newFunctionEnv S.nocell (by intro y hy;simp at hy) (λh' hns hsb=>?_) S.kind;have keep:∀ b o,s3.heap.get? b=some o->h'.get? b=some o:=λb o e=>(hsb.2 b (Nat.ne_of_lt (Heap.lt_size e))).trans (Heap.get?_push_of_some _ e)
 have I4:=oB (tk:=s3.toks+([]:List (Str×Value)).length) S I3 f3 fo3' hns keep;have st4:tn 0 h':=T.keep _ _ _ st3' λb hb o e=>keep b o e
 have stat:∀ {H':Hp},(∀ b ∈ fp,H' b=none)->∀ b ∈ fp,gz (eX X scope cl (xs++fr) s3 (upd H2 D (.lst [])) fp) (X.pn++Y) H' b:=λ{H'} hn b hb=>
  ⟨hn b hb,Nat.ne_of_lt (fo3' b hb),λz=>(mem_cons.mp (I3.gK b z)).elim (f3 b hb).2.1 (f3 b hb).2.2.1,.inl hb,λy c hy=>(f3 b hb).2.2.2.2.1 y c (S.sub y c hy),λp hp=>(f3 b hb).2.2.2.2.2 p (by simpa [eX] using hp)⟩
 have loop:codeAny (model X.prog X.w) X.A (.compLoop (.ListComp elt [⟨tgt,iter,ifs,0⟩] scope pos) 0 (.ref it) (.ref D) (compEnvC scope cl s3.heap.objs.size X.env))
   (compPost (model X.prog X.w) X.A X.xe none (EP X Y U Q) (.ref D) s3.heap.objs.size) { s3 with heap:=h',toks:=s3.toks+([]:List (Str×Value)).length }:=by
  refine codeAny_loop rfl (λn s'=>∃ i σ' H',Inv (eX X scope cl (xs++fr) s3 (upd H2 D (.lst [])) fp) (X.pn++Y) σ' H' s'/\tn i s'.heap/\(∀ b ∈ fp,H' b=none)/\W i n σ' H') (λn s5 hI=>?_) m0 ⟨0,_,_,I4,st4,λb hb=>(f3 b hb).1,w0⟩;show wpAny _ _ ((compTurn (.ListComp elt [⟨tgt,iter,ifs,0⟩] scope pos) 0 (.ref it) (.ref D) (compEnvC scope cl s3.heap.objs.size X.env)).onRaise (λx=>do noteFrame x (compEnvC scope cl s3.heap.objs.size X.env);theTreesLotGoes x)) _ _ s5;refine wpAny_noted ?_;refine rH (ht s3 (upd H2 D (.lst [])) fp).1 ?_;obtain ⟨i,σ5,H5,I5,st5,fr5,w5⟩:=hI;rcases turn i n σ5 H5 w5 with ⟨stop,q⟩|⟨go,Nn,hN,step⟩
  ·refine au (T.done (eX X scope cl (xs++fr) s3 (upd H2 D (.lst [])) fp) rfl rfl rfl hc i _ s5 σ5 H5 _ I5 (stat fr5) st5 stop) λr s6 ⟨hr,I6⟩=>?_
   subst hr;obtain ⟨m,hn,_⟩:=I6.loc;refine ⟨m,hn,λh'' hs''=>⟨.ref D,H5,I3.vV (ch:=fp) I6.os (I6.base.sameBut hs'' (Nat.le_refl _)) (λb ob e=>?_) I6.bare λb hb=>⟨(f3 b hb).2.2.2.1,(f3 b hb).2.1,(f3 b hb).2.2.2.2.1,(f3 b hb).2.2.2.2.2⟩,rfl,q⟩⟩;refine (I6.hok b ob e).iM (λc w' hc' q'=>(hs''.2 c ?_).trans q') (λ_ q'=>q') λ_ _ q'=>q'
   have fC:H5 s3.heap.objs.size=none:=I6.free;intro z;rcases hc' with z2|z2
   ·rw[z2] at z;rw[z,fC] at e;cases e
   ·rw[z,fC] at z2;cases z2
  ·have fin:∀ {σ8:St}{H10:Hp}{s10:Shared},Inv (eX X scope cl (xs++fr) s3 (upd H2 D (.lst [])) fp) (X.pn++Y) σ8 H10 s10/\tn (i+1) s10.heap/\(∀ b ∈ fp,H10 b=none)->Nn σ8 H10->∃ m',m'<n/\∃ i σ' H',Inv (eX X scope cl (xs++fr) s3 (upd H2 D (.lst [])) fp) (X.pn++Y) σ' H' s10/\tn i s10.heap/\(∀ b ∈ fp,H' b=none)/\W i m' σ' H':=λ⟨I,t,f⟩ nn=>by
    obtain ⟨m',hm,w10⟩:=hN _ _ nn;exact ⟨m',hm,i+1,_,_,I,t,f,w10⟩
   refine au (T.item (eX X scope cl (xs++fr) s3 (upd H2 D (.lst [])) fp) rfl rfl rfl hc i _ s5 σ5 H5 _ I5 (stat fr5) st5 go) λr s6 ⟨u,hr,h6⟩=>?_
   subst hr;refine au h6 λ_ s7 ⟨xv,H7,I7,r7,y7,st7,fr7⟩=>?_
   have I7':=I7.pinned (stat fr7) (T.obj _ _ st7);refine B1 (hg s3 _ fp _ s7 σ5 H7 xv u _ I7' r7 (step xv _ y7)) λ_ s8 ⟨σ8,H8,I8,q8⟩=>?_
   refine B1 ((ht s3 _ fp).2 _ s8 σ8 H8 _ I8 q8) λok s9 ⟨H9,I9,q9⟩=>?_
   have back:∀ {H10:Hp}{s10:Shared},Inv (eX X scope cl (xs++fr) s3 (upd H2 D (.lst [])) fp) _ σ8 H10 s10->Inv (eX X scope cl (xs++fr) s3 (upd H2 D (.lst [])) fp) (X.pn++Y) σ8 H10 s10/\tn (i+1) s10.heap/\(∀ b ∈ fp,H10 b=none):=λ{H10 s10} I10=>⟨I10.dI,T.keep _ _ _ st7 λb hb o e=>(I10.pin (b,o) (mem_append_right _ (mem_append_right _ (bD hb e)))).1,λb hb=>by
    obtain ⟨o,e,d⟩:=T.obj _ _ st7 b hb;exact (I10.pin (b,o) (mem_append_right _ (mem_append_right _ (bD hb e)))).2.1⟩
   refine ⟨λek=>?_,λek=>wpAny_pure ⟨rfl,fin (back I9) (q9.2 ek)⟩⟩;refine B1 (he s3 _ fp _ s9 _ _ _ I9 (q9.1 ek)) λuv s10 ⟨vv,H10,I10,r10,zs,hz,hzl,n10⟩=>?_
   refine B1 (gI (X:=eX X scope cl (xs++fr) s3 (upd H2 D (.lst [])) fp) _ s10 _ H10 (.ref D) [vv] (.ref D) [uv] (λ_ H'=>H'=upd H10 D (.lst (zs++[vv]))) I10 rfl (.cons r10 .nil) ⟨D,zs,vv,rfl,rfl,hz,hzl,rfl⟩) λ_ s11 ⟨_,H11,I11,_,e11⟩=>?_
   subst e11;exact wpAny_pure ⟨rfl,fin (back I11) n10⟩
 exact codeAny_compStart_list loop (T.self _ 0 _ _ _ st4 loop)
def l6 {x:Str}{px:Pos}{H:Hp}(S:ba X scope cl [x] fr sel):PG (eX X scope cl ([x]++fr) s H fp) (.Name x px) (fU 0):=fY S.nd rfl (.inl (lookup_relabel_local (S.own x (mem_cons_self ..)))) (.inr (lookup_relabel_local (S.own x (mem_cons_self ..))))
abbrev Jp (wi:TI):TI:=λU H R=>∃ R0:It->Hp->Prop,wi U H R0/\∀ J H,R0 J H->R J H
def PI.up {tg iter:Expr}{wi:TI}(h:PI X tg iter wi):PI X tg iter (Jp wi):=λY s U H R I ⟨R0,q,m⟩=>
 au (h Y s U H R0 I q) λv s1 h1=>wpAny_mono h1 (λitv s2 ⟨it,fp,tn,J,H',e,I,T,t0,f,r⟩=>⟨it,fp,tn,J,H',e,I,T,t0,f,m _ _ r⟩) λ_ _ e=>e
def vt {elt iter:Expr}{x:Str}{px:Pos}{wi:TI}(hc:X.calm=true)(S:ba X scope cl [x] fr sel)(hi:PI X (.Name x px) iter wi)
  (he:∀ (s:Shared) (H:Hp) (fp:List Addr),PE (eX X scope cl (x::fr) s H fp) elt te) (hs:∀ x,foldedSetIterable iter X.env x=pure x):PE X (.ListComp elt [⟨.Name x px,iter,[],0⟩] scope pos) (Jm wi te sel):=λY s U H Q I h=>
 kN (tg:=fU 0) hc S hi.up (λs H fp=>l6 S) (λ_ _ _=>mx) he hs Y s U H Q I ⟨_,h,λ_ _ q=>q.g⟩
end
section
variable {U:St}{H:Hp}{Q:VK}{te tl:TE}{ta:TA}{sel:List Nat}{σ₀ rest:St}{K:W.Frag}
end
def du {env:Env}:∀ {names:List (Str×NameKind)}{y:Str}{k':NameKind},(names.map λ(n,k)=>if (k ==NameKind.free&&env.scope.kind ==.function&&env.kindOf n ==some .cell) then (n,NameKind.cell) else (n,k)).lookup y=some k'->∃ k,(y,k) ∈ names/\(k'=k\/(k=.free/\k'=.cell))
 | [],_,_,h=>by simp at h
 |(n,k)::r,y,k',h=>by
  rw[map_cons,lookup_cons] at h
  by_cases hc:(k ==NameKind.free&&env.scope.kind ==.function&&env.kindOf n ==some .cell)=true
  ·simp only[hc,if_true] at h
   by_cases e:y=n
   ·subst e;simp at h;simp at hc;exact ⟨k,mem_cons_self,.inr ⟨hc.1.1,h.symm⟩⟩
   ·rw[show (y ==n)=false from beq_eq_false_iff_ne.mpr e] at h;obtain ⟨k2,m,q⟩:=du (env:=env) h;exact ⟨k2,mem_cons_of_mem _ m,q⟩
  ·rw[Bool.not_eq_true] at hc;simp only[hc,Bool.false_eq_true,if_false] at h
   by_cases e:y=n
   ·subst e;simp at h;exact ⟨k,mem_cons_self,.inl h.symm⟩
   ·simp only[show (y ==n)=false from beq_eq_false_iff_ne.mpr e] at h;obtain ⟨k2,m,q⟩:=du (env:=env) h;exact ⟨k2,mem_cons_of_mem _ m,q⟩
section
variable {K:W.Frag}
end
section
variable {K:W.Frag}{H:Hp}
end
section
variable {U:St}{H:Hp}{Q:VK}
end
abbrev notStar:Expr->Bool
 | .Starred ..=>false
 |_=>true
variable {es:List Expr}
def ab {e:Expr}{env:Env}(h:notStar e=true):starEach (e::es) env=(false,eval e env)::starEach es env:=by
 cases e<;>first|rfl|cases h
def eL {e:Expr}{t:TA}(ha:PE X e te)(hr:PA X es t)(h:notStar e=true:=by rfl):PA X (e::es) (B2 te t):=zb ha hr (ab h)
section
variable {X:Cx}{Y:JS}{U:St}{H:Hp}{s:Shared}{h':Heap}
def Inv.jy {t':Nat}{ch:List Addr}{a:Addr}{o:HO}(I:Inv X Y U H s)(k:∀ b u,b ∉ ch->s.heap.get? b=some u->h'.get? b=some u) (hf:∀ b ∈ ch,gz X Y H b)
  (hp:s.heap.objs.size<=a) (new:ax X.prog X.w (upd H a o) h' a o):Inv X Y U (upd H a o) { s with heap:=h',toks:=t' }:=by
 have hn:H a=none:=I.hok.fresh hp;have nch:∀ b u,H b=some u->b ∉ ch:=λb u e z=>by rw[(hf b z).1] at e;cases e
 refine I.step (g':=s.gens) (d':=s.drawn) (ch:=ch) (λb hb=>?_) (λb o _ _ hc e _=>k b o hc e) (λb o _ _ hc e _=>⟨o.slots,k b o hc e⟩) (λb o hc e n=>?_)
  (λb o hc e=>⟨o,k b o hc e⟩) (λb xs e=>?_) (λb ob u e=>?_) (λb ps e=>?_) (λm hm=>?_) (λb u e=>?_) I.bare
 ·obtain ⟨_,f1,_,f3,f4,f5⟩:=hf b hb;exact ⟨f3,f1,f4,f5⟩
 ·rw[af (Nat.ne_of_lt (Nat.lt_of_lt_of_le (Heap.lt_size e) hp))];exact n
 ·rw[af (aC e hn)];exact e
 ·rw[af (aC e hn)];exact e
 ·exact ⟨#[],by rw[af (aC e hn),e];simp⟩
 ·obtain ⟨o,es,ep,ho,r⟩:=hm;exact ⟨o,es,ep,k _ o (λz=>(hf _ z).2.1 rfl) ho,r⟩
 ·by_cases hb:b=a
  ·subst hb;rw[aq] at e;cases e;exact new
  ·rw[af hb] at e;refine (I.hok b u e).iM (λc v hc q=>k c v ?_ q) (λc q=>by rw[af (aC q hn)];exact q) λc xs q=>by rw[af (aC q hn)];exact q
   rcases hc with rfl|hc
   ·exact nch _ _ e
   ·exact nch _ _ hc
end
abbrev Gk (l:Addr):It:=
 ⟨λi H=>∃ xs x,H l=some (.lst xs)/\xs[i]? =some x,λi H x H'=>∃ T y,H T=none/\x=.ref T/\H'=upd H T (.tup [.int i,y])/\∀ xs,H l=some (.lst xs)->xs[i]? =some y,λi H=>∃ xs,H l=some (.lst xs)/\xs.length<=i⟩
variable {elts:List Expr}
def tN {P:Program}{w:World}{K:W.Frag}{k:Nat}(l e it:Addr)(hei:e≠it):
  Turn P w K (.Tuple elts k pos) (Gk l) [e,it] e (λi h=>(∃ old,IsEnum h e it ((i:Nat):Int) old)/\h.IsListIter it l i) where
 mem:=by simp
 obj:=λi h st b hb=>by
  obtain ⟨⟨old,he⟩,hit⟩:=st;rcases mem_cons.mp hb with rfl|hb
  ·exact ⟨_,he,λv z=>by
    have z':Data.fields _=Data.cell v:=z;cases z'⟩
  ·have e':b=it:=by simpa using hb
   subst e';obtain ⟨o,e,c,d⟩:=hit;exact ⟨o,e,λv z=>by rw[d] at z;cases z⟩
 keep:=λi h h' st k=>by
  obtain ⟨⟨old,he⟩,hit⟩:=st;exact ⟨⟨old,k e (by simp) _ he⟩,hit.at λo q=>k it (by simp) o q⟩
 item:=by
  intro X hP hw hK hc i Y s U H E I hf st hg;subst hP hw hK;obtain ⟨xs,x,hq,hx⟩:=hg;obtain ⟨⟨old,he⟩,hit⟩:=st;obtain ⟨its,rv,p,hz⟩:=I.list (bg.of hq);obtain ⟨u,hu,ru⟩:=rv.get hx;have heN:H e=none:=(hf e (by simp)).1;have hes:e≠s.heap.objs.size:=Nat.ne_of_lt (Heap.lt_size he);obtain ⟨oi,hoi,_⟩:=id hit;have his:it≠s.heap.objs.size:=Nat.ne_of_lt (Heap.lt_size hoi);refine wpAny_pyNext_enum_item he hit p.isList (x:=u) (by simpa using hu) hei λh1 heo hit1 ht1 hz1 hk1=>?_
  have I1:Inv X Y U (upd H s.heap.objs.size (.tup [.int i,x])) { s with heap:=h1,toks:=s.toks+1 }:=
   I.jy (ch:=[e,it]) (λb o hb q=>hk1 b o (λz=>hb (by simp[z])) (λz=>hb (by simp[z])) q) hf (Nat.le_refl _)
    ⟨fits (Nat.le_of_ble_eq_true rfl),[.int i s.toks,u],.cons ⟨_,rfl⟩ (.cons ru .nil),⟨_,ht1,rfl,_,rfl⟩⟩
  refine ⟨_,rfl,wpAny_letOwnedTupleGo_enum heo λh2 he2 hs2=>?_⟩;obtain ⟨f0,f1,f2,f3,f4,f5⟩:=hf e (by simp);have I2:=I1.turned (h':=h2) (t':=s.toks+1) (it:=e) (λb o hb q=>(hs2.2 b hb).trans q) (by rw[af hes];exact heN) f1 f3 f4 f5;refine ⟨.ref s.heap.objs.size,_,I2,rfl,⟨_,x,I.hok.fresh (Nat.le_refl _),rfl,rfl,λys hy=>?_⟩,⟨⟨_,by simpa using he2⟩,hit1.at λo q=>(hs2.2 it hei.symm).trans q⟩,λb hb=>?_⟩
  ·rw[hq] at hy;cases hy;exact hx
  ·have hb':b≠s.heap.objs.size:=by
    rcases mem_cons.mp hb with rfl|hb
    ·exact hes
    ·have e':b=it:=by simpa using hb
     subst e';exact his
   rw[af hb'];exact (hf b hb).1
 done:=by
  intro X hP hw hK hc i Y s U H E I hf st hg;subst hP hw hK;obtain ⟨xs,hq,hx⟩:=hg;obtain ⟨⟨old,he⟩,hit⟩:=st;obtain ⟨its,rv,p,hz⟩:=I.list (bg.of hq);obtain ⟨f0,f1,f2,f3,f4,f5⟩:=hf it (by simp);have hl:=rv.length;exact wpAny_pyNext_enum_end (I.ok.hd hc) he hit p.isList (by simp;omega) λh' eb=>⟨rfl,I.turned (t':=s.toks) (λb o hb q=>eb b o hb q) f0 f1 f3 f4 f5⟩
 self:=λ_ _ _ _ _ st h=>by
  obtain ⟨⟨old,he⟩,hit⟩:=st;exact wpAny_pyIter_enum he h
def fN:bootBuiltins "enumerate"=some (.type "enumerate"):=by decide+kernel
abbrev GI (ta:TA):TI:=λU H R=>ta U H λvs H1=>∃ l,vs=[.ref l]/\(∃ xs,H1 l=some (.lst xs))/\R (Gk l) H1
def zq {k:Nat}{a:Expr}{ta:TA}{p pos':Pos}(hg:Gl X "enumerate") (hm:X.mg "enumerate"=none) (ha:PA X [a] ta) (hs:starEach [a] X.env=[(false,eval a X.env)]:=by rfl):
  PI X (.Tuple elts k pos') (.Call (.Name "enumerate" p) [a] [] pos) (GI ta):=by
 intro Y s U H R I h;refine Call_ (cE I hg hm fN (PyProof.Rows.callWith_type1 (au (ha pos Y s U H _ I h) λus s1 ⟨vs,H1,I1,r1,q1⟩=>?_) hs rfl));obtain ⟨l,e,⟨xs,hl⟩,q⟩:=q1;subst e;cases r1 with
 |cons r rr=>
  cases rr;cases r;obtain ⟨z,its,n,r,hlen,e⟩:=I1.pX hl;refine call_enumerate_1 e λh' he hit hsz hk=>?_
  refine wpAny_pyIter_enum he ?_;refine ⟨s1.heap.objs.size+1,[s1.heap.objs.size+1,s1.heap.objs.size],_,_,H1,rfl,I1.kept (t':=s1.toks) hk,tN l _ _ (Nat.succ_ne_self _),⟨⟨_,he⟩,hit⟩,λb hb=>?_,q⟩;have hb':s1.heap.objs.size<=b:=by
   rcases mem_cons.mp hb with rfl|hb
   ·exact Nat.le_succ _
   ·have e':b=s1.heap.objs.size:=by simpa using hb
    exact Nat.le_of_eq e'.symm
  exact I1.pI hb' (I1.hok.fresh hb')
section
variable {g:TG}{tb:TS}{D:Ends}{U:St}{H:Hp}{ta:TA}
end
section
variable {X:Cx}
end
section
variable {K:W.Frag}{r:V->List V->Hp->VK->Prop}{to:TE}{t:TA}{U:St}{H:Hp}{Q:VK}
end
section
variable {H H1 H2:Hp}{p h c:Addr}{o:HO}{m:Int}
end
section
variable {H H':Hp}{xs ys:List V}{f:Nat->Int×Int}
end
section
variable {X:Cx}{a b c d:Expr}{ta tb tc td:TE}{pos:Pos}
end
section
variable {K:W.Frag}{U:St}{H:Hp}{Q:VK}{ta tb tc td tv:TE}{t:TA}{f m:Str}{D:Ends}{C:Addr}{sp:Sp}{dvs:List V}{E:XK}
end
section
variable {g:TG}{tb:TS}{D:Ends}{U:St}{H:Hp}{ta:TA}
end
section
variable {C:Addr}{H H':Hp}{S D h c:Addr}{rs:List Rec}{r:Rec}
end
section
variable {X:Cx}
end
end L2
namespace L2
end L2
namespace L2
open PySem PySem.Spec PyProof.Rows
section
variable {C:Addr}{H HF:Hp}{S D h c:Addr}{rs:List Rec}{r':Rec}
end
section
variable {X:Cx}
end
structure Ii (K:W.Frag) (C:Addr):Prop where
 ha:W.findIn K (.ref C) "__class__"=some (some (.builtin "object.__class__"))
 hn:W.specialIn K (.builtin "object.__class__") "__get__"=some (some (.builtin "getset_descriptor.__get__"))
 htk:W.takesIn K (.builtin "object.__class__")=some true
 hm:W.mroIn K C (.type "object")=some true
end L2
namespace L2
open PySem PySem.Spec PySem.W PyProof.Rows
abbrev aD (tp:Bool)(h:Heap)(j b:Addr)(k:Nat):Prop:=match tp with
 |true=>h.IsTupleIter j b k
 |false=>h.IsListIter j b k
abbrev aW (tp:Bool)(h:Heap)(b:Addr)(xs:Array Value):Prop:=match tp with
 |true=>h.IsTuple b xs
 |false=>h.IsList b xs
variable {tp:Bool}{k:Nat}
def aD.to {h h':Heap}{j b:Addr}(g:aD tp h j b k)(e:∀ o,h.get? j=some o->h'.get? j=some o):aD tp h' j b k:=by
 cases tp
 ·obtain ⟨o,e1,r⟩:=(show h.IsListIter j b k from g);exact ⟨o,e o e1,r⟩
 ·obtain ⟨o,e1,r⟩:=(show h.IsTupleIter j b k from g);exact ⟨o,e o e1,r⟩
def aW.to {h h':Heap}{b:Addr}{xs:Array Value}(g:aW tp h b xs)(e:∀ o,h.get? b=some o->h'.get? b=some o):aW tp h' b xs:=by
 cases tp
 ·obtain ⟨o,e1,r⟩:=(show h.IsList b xs from g);exact ⟨o,e o e1,r⟩
 ·obtain ⟨o,e1,r⟩:=(show h.IsTuple b xs from g);exact ⟨o,e o e1,r⟩
def aD.lt {tp:Bool}{h:Heap}{j b:Addr}{k:Nat}(g:aD tp h j b k):j<h.objs.size:=by
 cases tp
 ·obtain ⟨o,e1,r⟩:=(show h.IsListIter j b k from g);exact Heap.lt_size e1
 ·obtain ⟨o,e1,r⟩:=(show h.IsTupleIter j b k from g);exact Heap.lt_size e1
def aW.lt {tp:Bool}{h:Heap}{b:Addr}{xs:Array Value}(g:aW tp h b xs):b<h.objs.size:=by
 cases tp
 ·obtain ⟨o,e1,r⟩:=(show h.IsList b xs from g);exact Heap.lt_size e1
 ·obtain ⟨o,e1,r⟩:=(show h.IsTuple b xs from g);exact Heap.lt_size e1
variable {Q:JR}{c:Addr}{T:Int}{t:Tok}{fb:Bool}{oT:Obj}{elts:List Expr}{pos:Pos}
section
variable {prog:Program}{w:World}{A:Around}{E:JR}{s:Shared}
def vP {j b:Addr}{xs:Array Value}{x:Value}(g:s.heap.IsTupleIter j b k)(t:s.heap.IsTuple b xs)(hx:xs[k]? =some x)
  (q:∀ h',h'.IsTupleIter j b (k+1)->Heap.SameBut j s.heap h'->Q x { s with heap:=h' }):wpAny (model prog w) A (Builtin.SmallTypes.nextOf (.ref j)) Q E s:=by
 obtain ⟨o1,e1,c1,d1⟩:=id g;obtain ⟨o2,e2,_,n2,d2⟩:=t;unfold Builtin.SmallTypes.nextOf;refine wpAny_bind (wpAny_callSpecial?_slot (name:=Str.ofString "__next__") g.typeIs F.slot_tuple_iterator_next (wpAny_call_entry F.slot_tuple_iterator_next g.typeIs F.entry_tuple_iterator_next ?_ (F.args_tuple_iterator_next_1 _)));show wpAny _ _ (field (.ref j) 0 >>= _) _ _ s;refine wpAny_bind (wpAny_field e1 d1 (x:=.ref b) rfl ?_);show wpAny _ _ (if (Value.ref b ==Value.none)=true then _ else _) _ _ s;rw[if_neg (show ¬ ((Value.ref b ==Value.none)=true) from Bool.false_ne_true)];show wpAny _ _ (field (.ref j) 1 >>= _) _ _ s;refine wpAny_bind (wpAny_field e1 d1 (x:=.int k 0) rfl ?_);show wpAny _ _ (seqItems? (.ref b) >>= _) _ _ s;refine wpAny_bind (wpAny_seqItems e2 d2 ?_);simp only[Int.toNat_natCast,hx];refine wpAny_bind (wpAny_setField e1 d1 (by simp) (wpAny_pure ⟨x,rfl,wpAny_pure (q _ ?_ (Heap.SameBut.update ..))⟩));refine ⟨_,Heap.get?_update_self _ e1 (Obj.isFreed_of_fields (Obj.data_mapFields d1 _)),(Obj.cls_mapFields ..).trans c1,?_⟩;rw[Obj.data_mapFields d1];simp[rawInt]
def rJ {j b:Addr}{xs:Array Value}(hh:A.handled=none)(g:s.heap.IsTupleIter j b k)(t:s.heap.IsTuple b xs)(hx:xs[k]? =none)
  (q:∀ h' e,Heap.ExtBut j s.heap h'->(∃ o,h'.get? e=some o/\o.cls=.type "StopIteration")->E (.ref e) { s with heap:=h' }):wpAny (model prog w) A (Builtin.SmallTypes.nextOf (.ref j)) Q E s:=by
 obtain ⟨o1,e1,c1,d1⟩:=id g;obtain ⟨o2,e2,_,n2,d2⟩:=t;unfold Builtin.SmallTypes.nextOf;refine wpAny_bind (wpAny_callSpecial?_slot (name:=Str.ofString "__next__") g.typeIs F.slot_tuple_iterator_next (wpAny_call_entry F.slot_tuple_iterator_next g.typeIs F.entry_tuple_iterator_next ?_ (F.args_tuple_iterator_next_1 _)));show wpAny _ _ (field (.ref j) 0 >>= _) _ _ s;refine wpAny_bind (wpAny_field e1 d1 (x:=.ref b) rfl ?_);show wpAny _ _ (if (Value.ref b ==Value.none)=true then _ else _) _ _ s;rw[if_neg (show ¬ ((Value.ref b ==Value.none)=true) from Bool.false_ne_true)];show wpAny _ _ (field (.ref j) 1 >>= _) _ _ s;refine wpAny_bind (wpAny_field e1 d1 (x:=.int k 0) rfl ?_);show wpAny _ _ (seqItems? (.ref b) >>= _) _ _ s;refine wpAny_bind (wpAny_seqItems e2 d2 ?_);simp only[Int.toNat_natCast,hx];refine wpAny_bind (wpAny_rule (wpAny_bind (wpAny_setField e1 d1 (by simp) ?_)));show wpAny _ _ (newExc (.type "StopIteration") [] >>= _) _ _ _;refine wpAny_bind ?_;simp only[newExc,newTuple];refine wpAny_bind (wpAny_newObj_type ?_ (by size_fits));refine wpAny_bind (m:=firstArgMember _ _) (wpAny_of_eq (a:=Value.none) (by first|rfl|(simp only[firstArgMember];rfl)) ?_);refine wpAny_newObj_type ?_ (by size_fits);simp only[raiseNew];refine wpAny_bind (wpAny_handled ?_);first|rw[show A.in1.handled=none from hh]|rw[hh]
 refine wpAny_bind (wpAny_pure (wpAny_throw ?_));exact q _ _ (((Heap.SameBut.update ..).extBut.push _).push _) ⟨_,Heap.get?_push_size _ rfl,rfl⟩
def et {j b:Addr}{xs:Array Value}{x:Value}(g:aD tp s.heap j b k)(t:aW tp s.heap b xs)(hx:xs[k]? =some x)
  (q:∀ h',aD tp h' j b (k+1)->Heap.SameBut j s.heap h'->Q x { s with heap:=h' }):wpAny (model prog w) A (Builtin.SmallTypes.nextOf (.ref j)) Q E s:=by
 cases tp
 ·exact wpAny_nextOf_list_item g t hx q
 ·exact vP g t hx q
def lJ {j b:Addr}{xs:Array Value}(hh:A.handled=none)(g:aD tp s.heap j b k)(t:aW tp s.heap b xs)(hx:xs[k]? =none)
  (q:∀ h' e,Heap.ExtBut j s.heap h'->(∃ o,h'.get? e=some o/\o.cls=.type "StopIteration")->E (.ref e) { s with heap:=h' }):wpAny (model prog w) A (Builtin.SmallTypes.nextOf (.ref j)) Q E s:=by
 cases tp
 ·exact wpAny_nextOf_list_end hh g t hx q
 ·exact rJ hh g t hx q
@[reducible]def a8 (h:Heap) (z TI TO:Addr) (f0 f1:Value):Prop:=h.get? z=some { cls:=.type "zip",dict:=none,data:=.fields #[f0,f1,.bool false,.ref TI,.ref TO],slots:=#[] }
variable {z TI TO i1 i2 l1 l2:Addr}{k1 k2:Nat}{tp1 tp2:Bool}{xs ys:Array Value}{x y a b f1:Value}
def zY (D:ZipApart z TI TO i1 i2 l1 l2)(hz:a8 s.heap z TI TO .none f1)(hI:IsPair s.heap TI (.ref i1) (.ref i2))(hO:IsPair s.heap TO a b)
  (g1:aD tp1 s.heap i1 l1 k1) (g2:aD tp2 s.heap i2 l2 k2) (t1:aW tp1 s.heap l1 xs) (t2:aW tp2 s.heap l2 ys) (hx:xs[k1]? =some x) (hy:ys[k2]? =some y)
  (q:∀ h',a8 h' z TI TO (rawInt s.heap.objs.size) (.bool false)->IsPair h' TO x y->aD tp1 h' i1 l1 (k1+1)->aD tp2 h' i2 l2 (k2+1)->IsPair h' s.heap.objs.size x y->h'.objs.size=s.heap.objs.size+1->
   (∀ c o,c≠z->c≠TO->c≠i1->c≠i2->s.heap.get? c=some o->h'.get? c=some o)->Q (.ref s.heap.objs.size) { s with heap:=h' }):
  wpAny (model prog w) A (Builtin.«zip.__next__» ⟨[.ref z],[]⟩) (λfin s'=>∃ v,fin=.done (.ret v)/\Q v s') E s:=by
 show wpAny _ _ (field (.ref z) 2 >>= _) _ _ _;refine wpAny_bind (wpAny_field (x:=.bool false) hz rfl rfl ?_);show wpAny _ _ (field (.ref z) 3 >>= _) _ _ _;refine wpAny_bind (wpAny_field (x:=.ref TI) hz rfl rfl ?_);refine wpAny_bind (wpAny_seqItems hI rfl ?_);show wpAny _ _ (Builtin.SmallTypes.ownedTupleIsFree (.ref z) >>= _) _ _ _;refine wpAny_bind ?_;unfold Builtin.SmallTypes.ownedTupleIsFree;refine wpAny_bind (wpAny_field (x:=.none) hz rfl rfl (wpAny_pure ?_));simp only[if_true];refine wpAny_bind (wpAny_rule ?_);refine wpAny_bind (wpAny_field (x:=.ref TO) hz rfl rfl ?_);refine wpAny_bind (wpAny_setField_rec hz (by simp) λp1 z1 b1=>?_)
 replace z1:a8 p1 z TI TO .ellipsis f1:=z1
 refine wpAny_bind ?_;simp only[List.zipIdx_cons,List.zipIdx_nil,forIn_cons,forIn_nil];refine wpAny_bind (wpAny_bind (wpAny_onRaise ?_));show wpAny _ _ (Builtin.SmallTypes.nextOf (.ref i1) >>= _) _ _ _;refine wpAny_bind (et (g1.to λo e=>b1.extBut _ o D.i1z e) (t1.to λo e=>b1.extBut _ o D.l1z e) hx λp2 g1b b2=>wpAny_pure ?_);have hO2:IsPair p2 TO a b:=b2.extBut _ _ D.TOi1 (b1.extBut _ _ D.TOz hO);refine wpAny_bind (wpAny_seqItems hO2 rfl ?_);refine wpAny_bind (wpAny_updateSeq_pair hO2 λp3 hO3 b3=>?_)
 replace hO3:IsPair p3 TO x b:=hO3
 refine wpAny_bind (wpAny_letGo (wpAny_pure ?_));refine wpAny_bind (wpAny_bind (wpAny_onRaise ?_));show wpAny _ _ (Builtin.SmallTypes.nextOf (.ref i2) >>= _) _ _ _;refine wpAny_bind (et (g2.to λo e=>b3.extBut _ o D.TOi2.symm (b2.extBut _ o D.i12.symm (b1.extBut _ o D.i2z e))) (t2.to λo e=>b3.extBut _ o D.l2TO (b2.extBut _ o D.l2i1 (b1.extBut _ o D.l2z e))) hy λp4 g2b b4=>wpAny_pure ?_);have hO4:IsPair p4 TO x b:=b4.extBut _ _ D.TOi2 hO3;refine wpAny_bind (wpAny_seqItems hO4 rfl ?_);refine wpAny_bind (wpAny_updateSeq_pair hO4 λp5 hO5 b5=>?_)
 replace hO5:IsPair p5 TO x y:=hO5
 refine wpAny_bind (wpAny_letGo (wpAny_pure (wpAny_pure ?_)));refine wpAny_bind (wpAny_seqItems hO5 rfl ?_);refine wpAny_bind (wpAny_newTuple ?_);have hsz:p5.objs.size=s.heap.objs.size:=by rw[b5.1,b4.1,b3.1,b2.1,b1.1]
 have z5:a8 p5 z TI TO .ellipsis f1:=b5.extBut _ _ D.TOz.symm (b4.extBut _ _ D.i2z.symm (b3.extBut _ _ D.TOz.symm (b2.extBut _ _ D.i1z.symm z1)));have k5:∀ c o,c≠z->c≠TO->c≠i1->c≠i2->s.heap.get? c=some o->p5.get? c=some o:=λc o n1 n2 n3 n4 e=>b5.extBut _ _ n2 (b4.extBut _ _ n4 (b3.extBut _ _ n2 (b2.extBut _ _ n3 (b1.extBut _ _ n1 e))))
 have g15:aD tp1 p5 i1 l1 (k1+1):=g1b.to λo e=>b5.extBut _ o D.TOi1.symm (b4.extBut _ o D.i12 (b3.extBut _ o D.TOi1.symm e))
 have g25:aD tp2 p5 i2 l2 (k2+1):=g2b.to λo e=>b5.extBut _ o D.TOi2.symm e
 have zlt:z<p5.objs.size:=Heap.lt_size z5;show wpAny _ _ (Builtin.SmallTypes.ownedTupleHandOut (.ref z) (.ref p5.objs.size) >>= _) _ _ _;refine wpAny_bind ?_;unfold Builtin.SmallTypes.ownedTupleHandOut;have z6:a8 (p5.push { cls:=.type "tuple",data:=.seq #[x,y] }) z TI TO .ellipsis f1:=Heap.get?_push_of_some _ z5;refine wpAny_bind (wpAny_setField_rec z6 (by simp) λp7 z7 b7=>?_)
 replace z7:a8 p7 z TI TO (rawInt p5.objs.size) f1:=z7
 refine wpAny_setField_rec z7 (by simp) λp8 z8 b8=>?_
 replace z8:a8 p8 z TI TO (rawInt p5.objs.size) (.bool false):=z8
 have up:∀ c o,c≠z->p5.get? c=some o->p8.get? c=some o:=λc o n1 e=>b8.extBut _ _ n1 (b7.extBut _ _ n1 (Heap.get?_push_of_some _ e))
 have hT:IsPair p8 p5.objs.size x y:=b8.extBut _ _ (Nat.ne_of_gt zlt) (b7.extBut _ _ (Nat.ne_of_gt zlt) (Heap.get?_push_size _ rfl));have h8:p8.objs.size=p5.objs.size+1:=by rw[b8.1,b7.1,Heap.size_push]
 rw[hsz] at z8 hT h8;refine wpAny_pure ⟨_,rfl,?_⟩;show Q (.ref p5.objs.size) _;rw[hsz];exact q p8 z8 (up _ _ D.TOz hO5) (g15.to λo e=>up _ o D.i1z e) (g25.to λo e=>up _ o D.i2z e) hT h8 λc o n1 n2 n3 n4 e=>up c o n1 (k5 c o n1 n2 n3 n4 e)
def C5 {Q:Fin->Shared->Prop}(hh:A.handled=none)(D:ZipApart z TI TO i1 i2 l1 l2)(hz:a8 s.heap z TI TO .none f1)(hI:IsPair s.heap TI (.ref i1) (.ref i2))(hO:IsPair s.heap TO a b)
  (g1:aD tp1 s.heap i1 l1 k1) (g2:aD tp2 s.heap i2 l2 k2) (t1:aW tp1 s.heap l1 xs) (t2:aW tp2 s.heap l2 ys) (hx:xs[k1]? =none\/ys[k2]? =none)
  (q:∀ h' e,(∀ c o,c≠z->c≠TO->c≠i1->c≠i2->s.heap.get? c=some o->h'.get? c=some o)->(∃ o,h'.get? e=some o/\o.cls=.type "StopIteration")->E (.ref e) { s with heap:=h' }):
  wpAny (model prog w) A (Builtin.«zip.__next__» ⟨[.ref z],[]⟩) Q E s:=by
 show wpAny _ _ (field (.ref z) 2 >>= _) _ _ _;refine wpAny_bind (wpAny_field (x:=.bool false) hz rfl rfl ?_);show wpAny _ _ (field (.ref z) 3 >>= _) _ _ _;refine wpAny_bind (wpAny_field (x:=.ref TI) hz rfl rfl ?_);refine wpAny_bind (wpAny_seqItems hI rfl ?_);show wpAny _ _ (Builtin.SmallTypes.ownedTupleIsFree (.ref z) >>= _) _ _ _;refine wpAny_bind ?_;unfold Builtin.SmallTypes.ownedTupleIsFree;refine wpAny_bind (wpAny_field (x:=.none) hz rfl rfl (wpAny_pure ?_));simp only[if_true];refine wpAny_bind (wpAny_rule ?_);refine wpAny_bind (wpAny_field (x:=.ref TO) hz rfl rfl ?_);refine wpAny_bind (wpAny_setField_rec hz (by simp) λp1 z1 b1=>?_)
 replace z1:a8 p1 z TI TO .ellipsis f1:=z1
 refine wpAny_bind ?_;simp only[List.zipIdx_cons,List.zipIdx_nil,forIn_cons,forIn_nil];refine wpAny_bind (wpAny_bind (wpAny_onRaise ?_));show wpAny _ _ (Builtin.SmallTypes.nextOf (.ref i1) >>= _) _ _ _;cases e1:xs[k1]? with
 |none=>
  refine wpAny_bind (lJ hh (g1.to λo e=>b1.extBut _ o D.i1z e) (t1.to λo e=>b1.extBut _ o D.l1z e) e1 λp2 e b2 he=>?_);obtain ⟨oe,ho,hc⟩:=he;have z2:a8 p2 z TI TO .ellipsis f1:=b2 _ _ D.i1z.symm z1;have ne:e≠z:=λn=>by subst n;rw[z2] at ho;cases ho;simp at hc
  exact wpAny_setField_rec z2 (by simp) λp3 _ b3=>q p3 e (λc o n1 _ n3 _ v=>b3.extBut _ _ n1 (b2 _ _ n3 (b1.extBut _ _ n1 v))) ⟨oe,b3.extBut _ _ ne ho,hc⟩
 |some x=>
  have e2:ys[k2]? =none:=by rcases hx with h|h;(rw[e1] at h;cases h);exact h
  refine wpAny_bind (et (g1.to λo e=>b1.extBut _ o D.i1z e) (t1.to λo e=>b1.extBut _ o D.l1z e) e1 λp2 g1b b2=>wpAny_pure ?_);have hO2:IsPair p2 TO a b:=b2.extBut _ _ D.TOi1 (b1.extBut _ _ D.TOz hO);refine wpAny_bind (wpAny_seqItems hO2 rfl ?_);refine wpAny_bind (wpAny_updateSeq_pair hO2 λp3 hO3 b3=>?_);refine wpAny_bind (wpAny_letGo (wpAny_pure ?_));refine wpAny_bind (wpAny_bind (wpAny_onRaise ?_));show wpAny _ _ (Builtin.SmallTypes.nextOf (.ref i2) >>= _) _ _ _;refine wpAny_bind (lJ hh (g2.to λo e=>b3.extBut _ o D.TOi2.symm (b2.extBut _ o D.i12.symm (b1.extBut _ o D.i2z e))) (t2.to λo e=>b3.extBut _ o D.l2TO (b2.extBut _ o D.l2i1 (b1.extBut _ o D.l2z e))) e2 λp4 e b4 he=>?_);obtain ⟨oe,ho,hc⟩:=he;have z4:a8 p4 z TI TO .ellipsis f1:=b4 _ _ D.i2z.symm (b3.extBut _ _ D.TOz.symm (b2.extBut _ _ D.i1z.symm z1));have ne:e≠z:=λn=>by subst n;rw[z4] at ho;cases ho;simp at hc
  exact wpAny_setField_rec z4 (by simp) λp5 _ b5=>q p5 e (λc o n1 n2 n3 n4 v=>b5.extBut _ _ n1 (b4 _ _ n4 (b3.extBut _ _ n2 (b2.extBut _ _ n3 (b1.extBut _ _ n1 v))))) ⟨oe,b5.extBut _ _ ne ho,hc⟩
def oH {Q:Option Obj->Shared->Prop}(h:Q (s.heap.get? c) s):wpAny (model prog w) A (loadIfAlive c) Q E s:=λ_ _ _=>h
def mX {Q:Bool->Shared->Prop}(hz:a8 s.heap z TI TO (.int T t) (.bool fb))(hT:s.heap.get? T.toNat=some oT)(q:∀ h',a8 h' z TI TO (.int T t) (.bool true)->Heap.SameBut z s.heap h'->Q false { s with heap:=h' }):
  wpAny (model prog w) A (Builtin.SmallTypes.ownedTupleIsFree (.ref z)) Q E s:=by
 unfold Builtin.SmallTypes.ownedTupleIsFree;refine wpAny_bind (wpAny_field (x:=.int T t) hz rfl rfl ?_);refine wpAny_bind (oH ?_);rw[hT];refine wpAny_bind (wpAny_field (x:=.bool fb) hz rfl rfl ?_);cases fb
 ·refine wpAny_bind (wpAny_setField_rec hz (by simp) λp1 z1 b1=>wpAny_pure ?_);exact q p1 z1 b1
 ·exact wpAny_bind (wpAny_pure (wpAny_pure (q s.heap hz (Heap.SameBut.refl ..))))
def AQ (D:ZipApart z TI TO i1 i2 l1 l2)(hz:a8 s.heap z TI TO (.int T t) (.bool fb))(hT:s.heap.get? T.toNat=some oT)(hI:IsPair s.heap TI (.ref i1) (.ref i2))
  (g1:aD tp1 s.heap i1 l1 k1) (g2:aD tp2 s.heap i2 l2 k2) (t1:aW tp1 s.heap l1 xs) (t2:aW tp2 s.heap l2 ys) (hx:xs[k1]? =some x) (hy:ys[k2]? =some y)
  (q:∀ h',a8 h' z TI TO (.int T t) (.bool true)->aD tp1 h' i1 l1 (k1+1)->aD tp2 h' i2 l2 (k2+1)->IsPair h' s.heap.objs.size x y->h'.objs.size=s.heap.objs.size+1->
   (∀ c o,c≠z->c≠i1->c≠i2->s.heap.get? c=some o->h'.get? c=some o)->Q (.ref s.heap.objs.size) { s with heap:=h' }):
  wpAny (model prog w) A (Builtin.«zip.__next__» ⟨[.ref z],[]⟩) (λfin s'=>∃ v,fin=.done (.ret v)/\Q v s') E s:=by
 show wpAny _ _ (field (.ref z) 2 >>= _) _ _ _;refine wpAny_bind (wpAny_field (x:=.bool false) hz rfl rfl ?_);show wpAny _ _ (field (.ref z) 3 >>= _) _ _ _;refine wpAny_bind (wpAny_field (x:=.ref TI) hz rfl rfl ?_);refine wpAny_bind (wpAny_seqItems hI rfl ?_);show wpAny _ _ (Builtin.SmallTypes.ownedTupleIsFree (.ref z) >>= _) _ _ _;refine wpAny_bind (mX hz hT λp1 z1 b1=>?_);simp only[Bool.false_eq_true,if_false];simp only[List.forIn_toArray,forIn_cons,forIn_nil];refine wpAny_bind (wpAny_bind (wpAny_bind (wpAny_holding ?_)));show wpAny _ _ (Builtin.SmallTypes.nextOf (.ref i1) >>= _) _ _ _;refine wpAny_bind (et (g1.to λo e=>b1.extBut _ o D.i1z e) (t1.to λo e=>b1.extBut _ o D.l1z e) hx λp2 g1b b2=>wpAny_pure (wpAny_pure ?_));dsimp only;refine wpAny_bind (wpAny_bind (wpAny_holding ?_));show wpAny _ _ (Builtin.SmallTypes.nextOf (.ref i2) >>= _) _ _ _;refine wpAny_bind (et (g2.to λo e=>b2.extBut _ o D.i12.symm (b1.extBut _ o D.i2z e)) (t2.to λo e=>b2.extBut _ o D.l2i1 (b1.extBut _ o D.l2z e)) hy λp3 g2b b3=>wpAny_pure (wpAny_pure (wpAny_pure ?_)));dsimp only;refine wpAny_bind (wpAny_newTuple ?_ (hsz:=fits (Nat.le_of_ble_eq_true rfl)));have hsz:p3.objs.size=s.heap.objs.size:=by rw[b3.1,b2.1,b1.1]
 refine wpAny_pure ⟨_,rfl,?_⟩;show Q (.ref p3.objs.size) _;have z3:a8 p3 z TI TO (.int T t) (.bool true):=b3.extBut _ _ D.i2z.symm (b2.extBut _ _ D.i1z.symm z1);rw[hsz];refine q _ (Heap.get?_push_of_some _ z3) (g1b.to λo e=>Heap.get?_push_of_some _ (b3.extBut _ o D.i12 e)) (g2b.to λo e=>Heap.get?_push_of_some _ e) (by rw[<-hsz];exact Heap.get?_push_size _ rfl) (by rw[Heap.size_push,hsz]) λc o n1 n2 n3 e=>?_
 exact Heap.get?_push_of_some _ (b3.extBut _ _ n3 (b2.extBut _ _ n2 (b1.extBut _ _ n1 e)))
def vk {Q:Fin->Shared->Prop}(hh:A.handled=none)(D:ZipApart z TI TO i1 i2 l1 l2)(hz:a8 s.heap z TI TO (.int T t) (.bool fb))(hT:s.heap.get? T.toNat=some oT)(hI:IsPair s.heap TI (.ref i1) (.ref i2))
  (g1:aD tp1 s.heap i1 l1 k1) (g2:aD tp2 s.heap i2 l2 k2) (t1:aW tp1 s.heap l1 xs) (t2:aW tp2 s.heap l2 ys) (hx:xs[k1]? =none\/ys[k2]? =none)
  (q:∀ h' e,(∀ c o,c≠z->c≠i1->c≠i2->s.heap.get? c=some o->h'.get? c=some o)->(∃ o,h'.get? e=some o/\o.cls=.type "StopIteration")->E (.ref e) { s with heap:=h' }):
  wpAny (model prog w) A (Builtin.«zip.__next__» ⟨[.ref z],[]⟩) Q E s:=by
 show wpAny _ _ (field (.ref z) 2 >>= _) _ _ _;refine wpAny_bind (wpAny_field (x:=.bool false) hz rfl rfl ?_);show wpAny _ _ (field (.ref z) 3 >>= _) _ _ _;refine wpAny_bind (wpAny_field (x:=.ref TI) hz rfl rfl ?_);refine wpAny_bind (wpAny_seqItems hI rfl ?_);show wpAny _ _ (Builtin.SmallTypes.ownedTupleIsFree (.ref z) >>= _) _ _ _;refine wpAny_bind (mX hz hT λp1 z1 b1=>?_);simp only[Bool.false_eq_true,if_false];simp only[List.forIn_toArray,forIn_cons,forIn_nil];refine wpAny_bind (wpAny_bind (wpAny_bind (wpAny_holding ?_)));show wpAny _ _ (Builtin.SmallTypes.nextOf (.ref i1) >>= _) _ _ _;cases e1:xs[k1]? with
 |none=>exact wpAny_bind (lJ hh (g1.to λo e=>b1.extBut _ o D.i1z e) (t1.to λo e=>b1.extBut _ o D.l1z e) e1 λp2 e b2 he=>q p2 e (λc o n1 n2 n3 v=>b2 _ _ n2 (b1.extBut _ _ n1 v)) he)
 |some x=>
  have e2:ys[k2]? =none:=by rcases hx with h|h;(rw[e1] at h;cases h);exact h
  refine wpAny_bind (et (g1.to λo e=>b1.extBut _ o D.i1z e) (t1.to λo e=>b1.extBut _ o D.l1z e) e1 λp2 g1b b2=>wpAny_pure (wpAny_pure ?_));dsimp only;refine wpAny_bind (wpAny_bind (wpAny_holding ?_));show wpAny _ _ (Builtin.SmallTypes.nextOf (.ref i2) >>= _) _ _ _;exact wpAny_bind (lJ hh (g2.to λo e=>b2.extBut _ o D.i12.symm (b1.extBut _ o D.i2z e)) (t2.to λo e=>b2.extBut _ o D.l2i1 (b1.extBut _ o D.l2z e)) e2 λp4 e b4 he=>q p4 e (λc o n1 n2 n3 v=>b4 _ _ n3 (b2.extBut _ _ n2 (b1.extBut _ _ n1 v))) he)
def rK {Q:JP}(D:ZipApart z TI TO i1 i2 l1 l2)(hz:a8 s.heap z TI TO .none f1)(hI:IsPair s.heap TI (.ref i1) (.ref i2))(hO:IsPair s.heap TO a b)
  (g1:aD tp1 s.heap i1 l1 k1) (g2:aD tp2 s.heap i2 l2 k2) (t1:aW tp1 s.heap l1 xs) (t2:aW tp2 s.heap l2 ys) (hx:xs[k1]? =some x) (hy:ys[k2]? =some y)
  (q:∀ h',a8 h' z TI TO (rawInt s.heap.objs.size) (.bool false)->IsPair h' TO x y->aD tp1 h' i1 l1 (k1+1)->aD tp2 h' i2 l2 (k2+1)->IsPair h' s.heap.objs.size x y->h'.objs.size=s.heap.objs.size+1->
   (∀ c o,c≠z->c≠TO->c≠i1->c≠i2->s.heap.get? c=some o->h'.get? c=some o)->Q (some (.ref s.heap.objs.size)) { s with heap:=h' }):wpAny (model prog w) A (pyNext (.ref z)) Q E s:=by
 have hT:s.TypeIs (.ref z) "zip":=⟨_,hz,rfl⟩;unfold pyNext;exact wpAny_bind (wpAny_attempt (wpAny_callSpecial?_slot (name:=Str.ofString "__next__") hT F.slot_zip_next (wpAny_call_entry F.slot_zip_next hT F.entry_zip_next (zY D hz hI hO g1 g2 t1 t2 hx hy λh' a1 a2 a3 a4 a5 a6 a7=>wpAny_pure (q h' a1 a2 a3 a4 a5 a6 a7)) (F.args_zip_next_1 _))))
def zf {Q:JP}(D:ZipApart z TI TO i1 i2 l1 l2)(hz:a8 s.heap z TI TO (.int T t) (.bool fb))(hT:s.heap.get? T.toNat=some oT)(hI:IsPair s.heap TI (.ref i1) (.ref i2))
  (g1:aD tp1 s.heap i1 l1 k1) (g2:aD tp2 s.heap i2 l2 k2) (t1:aW tp1 s.heap l1 xs) (t2:aW tp2 s.heap l2 ys) (hx:xs[k1]? =some x) (hy:ys[k2]? =some y)
  (q:∀ h',a8 h' z TI TO (.int T t) (.bool true)->aD tp1 h' i1 l1 (k1+1)->aD tp2 h' i2 l2 (k2+1)->IsPair h' s.heap.objs.size x y->h'.objs.size=s.heap.objs.size+1->
   (∀ c o,c≠z->c≠i1->c≠i2->s.heap.get? c=some o->h'.get? c=some o)->Q (some (.ref s.heap.objs.size)) { s with heap:=h' }):wpAny (model prog w) A (pyNext (.ref z)) Q E s:=by
 have hT':s.TypeIs (.ref z) "zip":=⟨_,hz,rfl⟩;unfold pyNext;exact wpAny_bind (wpAny_attempt (wpAny_callSpecial?_slot (name:=Str.ofString "__next__") hT' F.slot_zip_next (wpAny_call_entry F.slot_zip_next hT' F.entry_zip_next (AQ D hz hT hI g1 g2 t1 t2 hx hy λh' a1 a2 a3 a4 a5 a6=>wpAny_pure (q h' a1 a2 a3 a4 a5 a6)) (F.args_zip_next_1 _))))
def wQ {Q:JP}(hh:A.handled=none)(D:ZipApart z TI TO i1 i2 l1 l2)(hz:a8 s.heap z TI TO .none f1)(hI:IsPair s.heap TI (.ref i1) (.ref i2))(hO:IsPair s.heap TO a b)
  (g1:aD tp1 s.heap i1 l1 k1) (g2:aD tp2 s.heap i2 l2 k2) (t1:aW tp1 s.heap l1 xs) (t2:aW tp2 s.heap l2 ys) (hx:xs[k1]? =none\/ys[k2]? =none)
  (q:∀ h',(∀ c o,c≠z->c≠TO->c≠i1->c≠i2->s.heap.get? c=some o->h'.get? c=some o)->Q none { s with heap:=h' }):wpAny (model prog w) A (pyNext (.ref z)) Q E s:=by
 have hT:s.TypeIs (.ref z) "zip":=⟨_,hz,rfl⟩;unfold pyNext;refine wpAny_bind (wpAny_attempt (wpAny_callSpecial?_slot (name:=Str.ofString "__next__") hT F.slot_zip_next (wpAny_call_entry F.slot_zip_next hT F.entry_zip_next (C5 hh D hz hI hO g1 g2 t1 t2 hx λh' e k ⟨o,ho,hc⟩=>?_) (F.args_zip_next_1 _))));exact wpAny_bind (wpAny_isInstance (T:="StopIteration") (b:=true) ⟨o,ho,hc⟩ isSubtype_stop (wpAny_pure (q _ k)))
def v9 {Q:JP}(hh:A.handled=none)(D:ZipApart z TI TO i1 i2 l1 l2)(hz:a8 s.heap z TI TO (.int T t) (.bool fb))(hT:s.heap.get? T.toNat=some oT)(hI:IsPair s.heap TI (.ref i1) (.ref i2))
  (g1:aD tp1 s.heap i1 l1 k1) (g2:aD tp2 s.heap i2 l2 k2) (t1:aW tp1 s.heap l1 xs) (t2:aW tp2 s.heap l2 ys) (hx:xs[k1]? =none\/ys[k2]? =none)
  (q:∀ h',(∀ c o,c≠z->c≠i1->c≠i2->s.heap.get? c=some o->h'.get? c=some o)->Q none { s with heap:=h' }):wpAny (model prog w) A (pyNext (.ref z)) Q E s:=by
 have hT':s.TypeIs (.ref z) "zip":=⟨_,hz,rfl⟩;unfold pyNext;refine wpAny_bind (wpAny_attempt (wpAny_callSpecial?_slot (name:=Str.ofString "__next__") hT' F.slot_zip_next (wpAny_call_entry F.slot_zip_next hT' F.entry_zip_next (vk hh D hz hT hI g1 g2 t1 t2 hx λh' e k ⟨o,ho,hc⟩=>?_) (F.args_zip_next_1 _))));exact wpAny_bind (wpAny_isInstance (T:="StopIteration") (b:=true) ⟨o,ho,hc⟩ isSubtype_stop (wpAny_pure (q _ k)))
abbrev jH (tp:Bool)(c:Addr):Obj:=match tp with
 |true=>{ cls:=.type "tuple_iterator",data:=.fields #[.ref c,.int 0 0] }
 |false=>{ cls:=.type "list_iterator",data:=.fields #[.ref c,.int 0 0] }
def n9 {vs:Array Value}(t:aW tp s.heap c vs)(q:Q (.ref s.heap.objs.size) { s with heap:=s.heap.push (jH tp c) }):wpAny (model prog w) A (pyIter (.ref c)) Q E s:=by
 cases tp
 ·exact wpAny_pyIter_list t q
 ·exact wpAny_pyIter_tuple t q
noncomputable abbrev BK (h:Heap)(tp1 tp2:Bool)(l1 l2:Addr):Heap:=((((h.push (jH tp1 l1)).push (jH tp2 l2)).push { cls:=.type "tuple",data:=.seq #[.ref h.objs.size,.ref (h.objs.size+1)] }).push { cls:=.type "tuple",data:=.seq #[.none,.none] }).push { cls:=.type "zip",data:=.fields #[.none,.bool false,.bool false,.ref (h.objs.size+2),.ref (h.objs.size+3)] }
def yr (tp1 tp2:Bool)(l1 l2:Addr)(xs ys:Array Value):Meets (Builtin.«zip.__new__» ⟨[.type "zip",.ref l1,.ref l2],[]⟩)
  (λ_ R s=>aW tp1 s.heap l1 xs/\aW tp2 s.heap l2 ys/\R (.ok (.ret (.ref (s.heap.objs.size+4)))) { s with heap:=BK s.heap tp1 tp2 l1 l2 }):=.of_wp λprog w A R s h=>by
 obtain ⟨hp,g,d,tk,os⟩:=s;obtain ⟨t1,t2,q⟩:=h;have hsub:=sub_zip;have t2':aW tp2 (hp.push (jH tp1 l1)) l2 ys:=t2.to λo e=>Heap.get?_push_of_some _ e
 wp_walk using n9 (s:=⟨hp,g,d,tk,os⟩) t1,n9 (s:=⟨hp.push (jH tp1 l1),g,d,tk,os⟩) t2'
 refine ⟨_,rfl,?_⟩;simp only[Heap.size_push,Nat.add_assoc] at q⊢;exact q
def oa (t1:aW tp1 s.heap l1 xs)(t2:aW tp2 s.heap l2 ys)
  (q:∀ h',a8 h' (s.heap.objs.size+4) (s.heap.objs.size+2) (s.heap.objs.size+3) .none (.bool false)->IsPair h' (s.heap.objs.size+2) (.ref s.heap.objs.size) (.ref (s.heap.objs.size+1))->
   IsPair h' (s.heap.objs.size+3) .none .none->aD tp1 h' s.heap.objs.size l1 0->aD tp2 h' (s.heap.objs.size+1) l2 0->h'.objs.size=s.heap.objs.size+5->
   (∀ c o,s.heap.get? c=some o->h'.get? c=some o)->Q (.ref (s.heap.objs.size+4)) { s with heap:=h' }):
  wpAny (model prog w) A (call (.type "zip") [.ref l1,.ref l2]) Q E s:=by
 refine callType_new F.called_zip (by decide) (F.typeCall_zip_2 _ _) (F.newCall_zip_2 _ _) (λobj=>F.args_object_init_3 obj _ _) F.entry_zip_new (yr tp1 tp2 l1 l2 xs ys) ⟨t1,t2,?_⟩;generalize hn:s.heap.objs.size=n at q⊢;have z0:(s.heap.push (jH tp1 l1)).objs.size=n+1:=by rw[Heap.size_push,hn]
 have z1:((s.heap.push (jH tp1 l1)).push (jH tp2 l2)).objs.size=n+2:=by rw[Heap.size_push,z0]
 have z2:(((s.heap.push (jH tp1 l1)).push (jH tp2 l2)).push { cls:=.type "tuple",data:=.seq #[.ref n,.ref (n+1)] }).objs.size=n+3:=by rw[Heap.size_push,z1]
 have z3:((((s.heap.push (jH tp1 l1)).push (jH tp2 l2)).push { cls:=.type "tuple",data:=.seq #[.ref n,.ref (n+1)] }).push { cls:=.type "tuple",data:=.seq #[.none,.none] }).objs.size=n+4:=by rw[Heap.size_push,z2]
 have hz:BK s.heap tp1 tp2 l1 l2=((((s.heap.push (jH tp1 l1)).push (jH tp2 l2)).push { cls:=.type "tuple",data:=.seq #[.ref n,.ref (n+1)] }).push { cls:=.type "tuple",data:=.seq #[.none,.none] }).push { cls:=.type "zip",data:=.fields #[.none,.bool false,.bool false,.ref (n+2),.ref (n+3)] }:=by rw[<-hn]
 rw[hz];have e4:=Heap.get?_push_size ((((s.heap.push (jH tp1 l1)).push (jH tp2 l2)).push { cls:=.type "tuple",data:=.seq #[.ref n,.ref (n+1)] }).push { cls:=.type "tuple",data:=.seq #[.none,.none] }) (o:={ cls:=.type "zip",data:=.fields #[.none,.bool false,.bool false,.ref (n+2),.ref (n+3)] }) rfl;have e3:=Heap.get?_push_size (((s.heap.push (jH tp1 l1)).push (jH tp2 l2)).push { cls:=.type "tuple",data:=.seq #[.ref n,.ref (n+1)] }) (o:={ cls:=.type "tuple",data:=.seq #[.none,.none] }) rfl;have e2:=Heap.get?_push_size ((s.heap.push (jH tp1 l1)).push (jH tp2 l2)) (o:={ cls:=.type "tuple",data:=.seq #[.ref n,.ref (n+1)] }) rfl;have e1:aD tp2 ((s.heap.push (jH tp1 l1)).push (jH tp2 l2)) (n+1) l2 0:=by
  rw[<-z0];cases tp2
  ·exact ⟨_,Heap.get?_push_size _ rfl,rfl,rfl⟩
  ·exact ⟨_,Heap.get?_push_size _ rfl,rfl,rfl⟩
 have e0:aD tp1 (s.heap.push (jH tp1 l1)) n l1 0:=by
  rw[<-hn];cases tp1
  ·exact ⟨_,Heap.get?_push_size _ rfl,rfl,rfl⟩
  ·exact ⟨_,Heap.get?_push_size _ rfl,rfl,rfl⟩
 rw[z3] at e4;rw[z2] at e3;rw[z1] at e2;refine ⟨⟨_,e4,rfl⟩,q _ e4 (Heap.get?_push_of_some _ (Heap.get?_push_of_some _ e2)) (Heap.get?_push_of_some _ e3) (e0.to λo e=>Heap.get?_push_of_some _ (Heap.get?_push_of_some _ (Heap.get?_push_of_some _ (Heap.get?_push_of_some _ e)))) (e1.to λo e=>Heap.get?_push_of_some _ (Heap.get?_push_of_some _ (Heap.get?_push_of_some _ e))) (by rw[Heap.size_push,z3]) λc o e=>?_⟩;exact Heap.get?_push_of_some _ (Heap.get?_push_of_some _ (Heap.get?_push_of_some _ (Heap.get?_push_of_some _ (Heap.get?_push_of_some _ e))))
def wV {n:Addr}(a1:l1<n)(a2:l2<n):ZipApart (n+4) (n+2) (n+3) n (n+1) l1 l2:=by
 constructor<;>(intro e;have e':=(show @Eq Nat _ _ from e);have b1:=(show @LT.lt Nat _ l1 n from a1);have b2:=(show @LT.lt Nat _ l2 n from a2);omega)
def uc {m:Nat}{T:Addr}{Q:JQ}(hz:a8 s.heap z TI TO (rawInt T) f1)(q:∀ h',a8 h' z TI TO .none f1->Heap.SameBut z s.heap h'->Q () { s with heap:=h' }):
  wpAny (model prog w) A (letOwnedTupleGo (.Tuple elts m pos) (.ref z) (.ref T)) Q E s:=by
 unfold letOwnedTupleGo;refine wpAny_bind (wpAny_load hz ?_);show wpAny _ _ (if (["enumerate","zip","dict_itemiterator","dict_reverseitemiterator","odict_iterator","itertools.zip_longest","itertools.pairwise"].contains "zip"&&(#[rawInt T,f1,.bool false,.ref TI,.ref TO]:Array Value)[0]? ==some (rawInt T))=true then _ else _) Q E s;rw[if_pos (by simp)];exact wpAny_bind (wpAny_rule (wpAny_setField_rec hz (by simp) λh' z' b'=>q h' z' b'))
def jD {f0:Value}(hz:a8 s.heap z TI TO f0 f1)(h:Q (.ref z) s):wpAny (model prog w) A (pyIter (.ref z)) Q E s:=by
 have hT:s.TypeIs (.ref z) "zip":=⟨_,hz,rfl⟩;refine wpAny_pyIter_slot hT F.slot_zip_iter (wpAny_call_entry F.slot_zip_iter hT F.entry_zip_iter ?_ (F.args_zip_iter_1 _));show wpAny _ _ (ret (.ref z)) _ _ s;exact wpAny_pure ⟨_,rfl,"zip",_,hT,F.slot_zip_next.lookup,h⟩
end
variable {X:Cx}{Y:JS}{U:St}{H:Hp}{s:Shared}
def Inv.Az {h':Heap}{t':Nat}{ch:List Addr}(I:Inv X Y U H s)(k:∀ b u,b ∉ ch->s.heap.get? b=some u->h'.get? b=some u) (hf:∀ b ∈ ch,gz X Y H b):Inv X Y U H { s with heap:=h',toks:=t' }:=by
 have nch:∀ b u,H b=some u->b ∉ ch:=λb u e z=>by rw[(hf b z).1] at e;cases e
 refine I.step (g':=s.gens) (d':=s.drawn) (ch:=ch) (λb hb=>?_) (λb o _ _ hc e _=>k b o hc e) (λb o _ _ hc e _=>⟨o.slots,k b o hc e⟩) (λ_ _ _ _ n=>n)
  (λb o hc e=>⟨o,k b o hc e⟩) (λ_ _ e=>e) (λ_ _ _ e=>e) (λb ps e=>⟨#[],by rw[e];simp⟩) (λm hm=>?_) (λb u e=>?_) I.bare
 ·obtain ⟨_,f1,_,f3,f4,f5⟩:=hf b hb;exact ⟨f3,f1,f4,f5⟩
 ·obtain ⟨o,es,ep,ho,r⟩:=hm;exact ⟨o,es,ep,k _ o (λz=>(hf _ z).2.1 rfl) ho,r⟩
 ·refine (I.hok b u e).iM (λc v hc q=>k c v ?_ q) (λ_ q=>q) λ_ _ q=>q
  rcases hc with rfl|hc
  ·exact nch _ _ e
  ·exact nch _ _ hc
abbrev Sq (K:W.Frag)(tp:Bool)(H:Hp)(c:Addr)(xs:List V):Prop:=match tp with
 |true=>bc K H c xs
 |false=>bg K H c xs
def Inv.sq {xs:List V}(I:Inv X Y U H s)(h:Sq X.K tp H c xs):∃ its:List Value,Vals xs its/\aW tp s.heap c its.toArray:=by
 cases tp
 ·obtain ⟨its,r,p,_⟩:=I.list h;exact ⟨its,r,p.isList⟩
 ·obtain ⟨its,r,p,_⟩:=I.tuple h;exact ⟨its,r,p⟩
def Inv.xK {xs ys:List V}(I:Inv X Y U H s)(h:Sq X.K tp H c xs)(h':Sq X.K tp H c ys):xs=ys:=by
 cases tp
 ·exact I.jL h h'
 ·exact I.eG h h'
abbrev G3 (K:W.Frag)(tp1:Bool)(l1:Addr)(tp2:Bool)(l2:Addr):It:=
 ⟨λi H=>∃ xs ys x y,Sq K tp1 H l1 xs/\Sq K tp2 H l2 ys/\xs[i]? =some x/\ys[i]? =some y,
  λi H v H'=>∃ T x y,H T=none/\v=.ref T/\H'=upd H T (.tup [x,y])/\(∀ xs,Sq K tp1 H l1 xs->xs[i]? =some x)/\∀ ys,Sq K tp2 H l2 ys->ys[i]? =some y,
  λi H=>∃ xs ys,Sq K tp1 H l1 xs/\Sq K tp2 H l2 ys/\(xs.length<=i\/ys.length<=i)⟩
def xY {P:Program}{w:World}{K:W.Frag}{tp1 tp2:Bool}{z TI TO i1 i2 l1 l2:Addr}(D:ZipApart z TI TO i1 i2 l1 l2):
  Turn P w K (.Tuple elts k pos) (G3 K tp1 l1 tp2 l2) [z,TI,TO,i1,i2] z (λi h=>(∃ f1,a8 h z TI TO .none f1)/\IsPair h TI (.ref i1) (.ref i2)/\(∃ a b,IsPair h TO a b)/\aD tp1 h i1 l1 i/\aD tp2 h i2 l2 i) where
 mem:=by simp
 obj:=λi h st b hb=>by
  obtain ⟨⟨f1,hz⟩,hI,⟨a,b',hO⟩,g1,g2⟩:=st;have it:∀ {tp:Bool}{j c:Addr}{k:Nat},aD tp h j c k->∃ o,h.get? j=some o/\∀ v,o.data≠.cell v:=λ{tp j c k} g=>by
   cases tp
   ·obtain ⟨o,e,_,d⟩:=(show h.IsListIter j c k from g);exact ⟨o,e,λv z=>by rw[d] at z;cases z⟩
   ·obtain ⟨o,e,_,d⟩:=(show h.IsTupleIter j c k from g);exact ⟨o,e,λv z=>by rw[d] at z;cases z⟩
  simp only[mem_cons,not_mem_nil,or_false] at hb;rcases hb with rfl|rfl|rfl|rfl|rfl
  ·exact ⟨_,hz,λv e=>by cases (show Data.fields _=Data.cell v from e)⟩
  ·exact ⟨_,hI,λv e=>by cases (show Data.seq _ _=Data.cell v from e)⟩
  ·exact ⟨_,hO,λv e=>by cases (show Data.seq _ _=Data.cell v from e)⟩
  ·exact it g1
  ·exact it g2
 keep:=λi h h' st k=>by
  obtain ⟨⟨f1,hz⟩,hI,⟨a,b',hO⟩,g1,g2⟩:=st;exact ⟨⟨f1,k z (by simp) _ hz⟩,k TI (by simp) _ hI,⟨a,b',k TO (by simp) _ hO⟩,g1.to λo e=>k i1 (by simp) o e,g2.to λo e=>k i2 (by simp) o e⟩
 item:=by
  intro X hP hw hK hc i Y s U H E I hf st hg;subst hP hw hK;obtain ⟨xs,ys,x,y,hq1,hq2,hx,hy⟩:=hg;obtain ⟨⟨f1,hz⟩,hI,⟨a,b,hO⟩,g1,g2⟩:=st;obtain ⟨is1,r1,t1⟩:=I.sq hq1;obtain ⟨is2,r2,t2⟩:=I.sq hq2;obtain ⟨u,hu,ru⟩:=r1.get hx;obtain ⟨v,hv,rv⟩:=r2.get hy;have n0:∀ {c o},s.heap.get? c=some o->c≠s.heap.objs.size:=λe=>Nat.ne_of_lt (Heap.lt_size e)
  refine rK D hz hI hO g1 g2 t1 t2 (x:=u) (y:=v) (by simpa using hu) (by simpa using hv) λh1 z1 o1 j1 j2 hT hs1 k1=>?_
  have I1:Inv X Y U (upd H s.heap.objs.size (.tup [x,y])) { s with heap:=h1,toks:=s.toks }:=
   I.jy (ch:=[z,TI,TO,i1,i2]) (λb o hb q=>k1 b o (λe=>hb (by simp[e])) (λe=>hb (by simp[e])) (λe=>hb (by simp[e])) (λe=>hb (by simp[e])) q) hf (Nat.le_refl _)
    ⟨fits (Nat.le_of_ble_eq_true rfl),[u,v],.cons ru (.cons rv .nil),⟨_,hT,rfl,_,rfl⟩⟩
  refine ⟨_,rfl,uc z1 λh2 z2 b2=>?_⟩;obtain ⟨f0,f1',f2,f3,f4,f5⟩:=hf z (by simp);have I2:=I1.turned (h':=h2) (t':=s.toks) (it:=z) (λb o hb q=>(b2.2 b hb).trans q) (by rw[af (n0 hz)];exact f0) f1' f3 f4 f5;refine ⟨.ref s.heap.objs.size,_,I2,rfl,⟨_,x,y,I.hok.fresh (Nat.le_refl _),rfl,rfl,λzs hz'=>?_,λzs hz'=>?_⟩,⟨⟨_,z2⟩,?_,⟨_,_,b2.extBut _ _ D.TOz o1⟩,j1.to λo e=>b2.extBut _ o D.i1z e,j2.to λo e=>b2.extBut _ o D.i2z e⟩,λb hb=>?_⟩
  ·rw[I.xK hz' hq1];exact hx
  ·rw[I.xK hz' hq2];exact hy
  ·exact b2.extBut _ _ D.TIz (k1 _ _ D.TIz D.TITO D.TIi1 D.TIi2 hI)
  ·have hb':b≠s.heap.objs.size:=by
    simp only[mem_cons,not_mem_nil,or_false] at hb;rcases hb with rfl|rfl|rfl|rfl|rfl
    ·exact n0 hz
    ·exact n0 hI
    ·exact n0 hO
    ·exact Nat.ne_of_lt g1.lt
    ·exact Nat.ne_of_lt g2.lt
   rw[af hb'];exact (hf b hb).1
 done:=by
  intro X hP hw hK hc i Y s U H E I hf st hg;subst hP hw hK;obtain ⟨xs,ys,hq1,hq2,hx⟩:=hg;obtain ⟨⟨f1,hz⟩,hI,⟨a,b,hO⟩,g1,g2⟩:=st;obtain ⟨is1,r1,t1⟩:=I.sq hq1;obtain ⟨is2,r2,t2⟩:=I.sq hq2;have e1:=r1.length;have e2:=r2.length;refine wQ (I.ok.hd hc) D hz hI hO g1 g2 t1 t2 (by simp;omega) λh' k'=>⟨rfl,?_⟩
  exact I.Az (t':=s.toks) (ch:=[z,TI,TO,i1,i2]) (λb o hb q=>k' b o (λe=>hb (by simp[e])) (λe=>hb (by simp[e])) (λe=>hb (by simp[e])) (λe=>hb (by simp[e])) q) hf
 self:=λ_ _ _ _ _ st h=>by
  obtain ⟨⟨f1,hz⟩,_⟩:=st;exact jD hz h
def wg:bootBuiltins "zip"=some (.type "zip"):=by decide+kernel
abbrev Fu (K:W.Frag)(v u:V)(H:Hp)(R:It->Hp->Prop):Prop:=∃ tp1 l1 tp2 l2,v=.ref l1/\u=.ref l2/\(∃ xs,Sq K tp1 H l1 xs)/\(∃ ys,Sq K tp2 H l2 ys)/\R (G3 K tp1 l1 tp2 l2) H
abbrev HQ (K:W.Frag)(ta:TA):TI:=λU H R=>ta U H λvs H1=>∃ v u,vs=[v,u]/\Fu K v u H1 R
def DV {a b:Expr}{ta:TA}{p pos':Pos}(hg:Gl X "zip") (hm:X.mg "zip"=none) (ha:PA X [a,b] ta) (hs:starEach [a,b] X.env=(false,eval a X.env)::starEach [b] X.env:=by rfl) (hpl:(backTo pos (starEach [b] X.env)).any (·.1)=false:=by rfl):
  PI X (.Tuple elts k pos') (.Call (.Name "zip" p) [a,b] [] pos) (HQ X.K ta):=by
 intro Y s U H R I h;refine Call_ (cE I hg hm wg (PyProof.Rows.callWith_type1 (au (ha pos Y s U H _ I h) λus s1 ⟨vs,H1,I1,r1,q1⟩=>?_) hs hpl));obtain ⟨v,u,e,tp1,l1,tp2,l2,e1,e2,⟨xs,q1⟩,⟨ys,q2⟩,q⟩:=q1;subst e e1 e2;cases r1 with
 |cons r rr=>
  cases rr with
  |cons r' rr'=>
   cases rr';cases r;cases r';obtain ⟨is1,s1',t1⟩:=I1.sq q1;obtain ⟨is2,s2',t2⟩:=I1.sq q2;refine oa t1 t2 λh' hz hI hO g1 g2 hsz hk=>?_
   refine jD hz ?_;refine ⟨s1.heap.objs.size+4,[s1.heap.objs.size+4,s1.heap.objs.size+2,s1.heap.objs.size+3,s1.heap.objs.size,s1.heap.objs.size+1],_,_,H1,rfl,I1.kept (t':=s1.toks) hk,xY (wV t1.lt t2.lt),⟨⟨_,hz⟩,hI,⟨_,_,hO⟩,g1,g2⟩,λb hb=>?_,q⟩;have hb':s1.heap.objs.size<=b:=by
    simp only[mem_cons,not_mem_nil,or_false] at hb;rcases hb with rfl|rfl|rfl|rfl|rfl<;>first|exact Nat.le_refl _|exact Nat.le_add_right _ _
   exact I1.pI hb' (I1.hok.fresh hb')
def lQ:entryFor table "zip.__getattribute__"=some Builtin.«object.__getattribute__»:=entryFor_alias (id':="object.__getattribute__") (by kernel_rfl) (by first|rfl|decide+kernel) (by decide+kernel) (by kernel_rfl)
def pj:typeLookup (.type "zip") "keys"=pure none:=by rw[typeLookup_type,builtinLookup_eq_fast];kernel_rfl
def tX:typeLookup (.type "zip") "__getattr__"=pure none:=by rw[typeLookup_type,builtinLookup_eq_fast];kernel_rfl
def uo (a:Addr)(vs:Array Value)(u:Tok):Meets (Builtin.«object.__getattribute__» ⟨[.ref a,.str "keys" u],[]⟩) (λA R s=>s.heap.get? a=some { cls:=.type "zip",dict:=none,data:=.fields vs,slots:=#[] }/\raisesAttr (.ref a) "keys" A R s):=
 Meets.of_wp λprog w A R s ⟨hx,hs⟩=>by
  obtain ⟨hp,g,d,tk,os⟩:=s;have hT:(⟨hp,g,d,tk,os⟩:Shared).TypeIs (.ref a) "zip":=⟨_,hx,rfl⟩;have f4:=pj;unfold Builtin.«object.__getattribute__»
  repeat (any_goals first|assumption|wp_step)
  exact wpAny_raiseAttrError hs.1 hs.2 (attrMsg_fits (by decide+kernel) (by rw[sizeLine_eq];decide+kernel))
section
variable {prog:Program}{w:World}{A:Around}{E:JR}{s:Shared}{a:Addr}{vs:Array Value}
def vm {Q:JP}(hA:A.handled=none)(hx:s.heap.get? a=some { cls:=.type "zip",dict:=none,data:=.fields vs,slots:=#[] })
  (q:∀ h' t',(∀ c u,s.heap.get? c=some u->h'.get? c=some u)->Q none { s with heap:=h',toks:=t' }):wpAny (model prog w) A (getAttr? (.ref a) "keys") Q E s:=by
 obtain ⟨hp,g,d,tk,os⟩:=s;have hT:∀ t',(⟨hp,g,d,t',os⟩:Shared).TypeIs (.ref a) "zip":=λ_=>⟨_,hx,rfl⟩
 have f1:=sub_AttributeError;have f3:=PySem.F.slot_zip_getattribute.lookup;have f4:=PySem.F.slot_zip_getattribute.bind (.ref a);have f5:=tX;unfold getAttr? getAttrBy? getAttrBy
 repeat (any_goals first|assumption|((with_reducible show wpAny _ _ (call (Value.builtin "zip.__getattribute__") _ _) _ _ _);refine call_meets PySem.F.slot_zip_getattribute (hT _) lQ (PySem.F.args_zip_getattribute_2 _ _) (uo a vs _) ⟨hx,hA,λh' tk' e he=>?_⟩)|wp_step)
 obtain ⟨t1,u1,e1⟩:=he.there;show wpAny _ _ (getattributeRaised _ _ _ _ _ _ _) _ _ _;unfold getattributeRaised
 repeat (any_goals first|assumption|wp_step)
 exact q _ _ he.keeps
end
structure Zs (h:Heap) (tp1 tp2:Bool) (z TI TO i1 i2 l1 l2:Addr) (i:Nat) (xs ys:Array Value):Prop where
 zo:(∃ f1,a8 h z TI TO .none f1)\/∃ (T:Int) (fb:Bool) (o:Obj),a8 h z TI TO (rawInt T) (.bool fb)/\h.get? T.toNat=some o/\T.toNat≠z/\T.toNat≠TO/\T.toNat≠i1/\T.toNat≠i2
 hI:IsPair h TI (.ref i1) (.ref i2)
 hO:∃ a b,IsPair h TO a b
 g1:aD tp1 h i1 l1 i
 g2:aD tp2 h i2 l2 i
 t1:aW tp1 h l1 xs
 t2:aW tp2 h l2 ys
variable {d:Addr}
section
variable {prog:Program}{w:World}{A:Around}{E:JR}{s:Shared}{tp1 tp2:Bool}{z TI TO i1 i2 l1 l2:Addr}{i:Nat}{xs ys:Array Value}{x y:Value}
def Zs.next {Q:JP}(D:ZipApart z TI TO i1 i2 l1 l2)(Z:Zs s.heap tp1 tp2 z TI TO i1 i2 l1 l2 i xs ys)(hx:xs[i]? =some x)(hy:ys[i]? =some y)
  (q:∀ h',Zs h' tp1 tp2 z TI TO i1 i2 l1 l2 (i+1) xs ys->IsPair h' s.heap.objs.size x y->h'.objs.size=s.heap.objs.size+1->(∀ c o,c≠z->c≠TO->c≠i1->c≠i2->s.heap.get? c=some o->h'.get? c=some o)->Q (some (.ref s.heap.objs.size)) { s with heap:=h' }):
  wpAny (model prog w) A (pyNext (.ref z)) Q E s:=by
 obtain ⟨zo,hI,⟨a,b,hO⟩,g1,g2,t1,t2⟩:=Z;have n0:∀ {c o},s.heap.get? c=some o->s.heap.objs.size≠c:=λe=>Nat.ne_of_gt (Heap.lt_size e)
 rcases zo with ⟨f1,hz⟩|⟨T,fb,o,hz,hT,n1,n2,n3,n4⟩
 ·refine rK D hz hI hO g1 g2 t1 t2 hx hy λh' z1 o1 j1 j2 p1 sz k=>?_
  refine q h' ⟨.inr ⟨s.heap.objs.size,false,_,z1,p1,n0 hz,n0 hO,Nat.ne_of_gt g1.lt,Nat.ne_of_gt g2.lt⟩,k _ _ D.TIz D.TITO D.TIi1 D.TIi2 hI,⟨_,_,o1⟩,j1,j2,t1.to λo e=>k _ o D.l1z D.l1TO D.l1i1 D.l1i2 e,t2.to λo e=>k _ o D.l2z D.l2TO D.l2i1 D.l2i2 e⟩ p1 sz k
 ·refine zf D hz hT hI g1 g2 t1 t2 hx hy λh' z1 j1 j2 p1 sz k=>?_
  exact q h' ⟨.inr ⟨T,true,o,z1,k _ _ n1 n3 n4 hT,n1,n2,n3,n4⟩,k _ _ D.TIz D.TIi1 D.TIi2 hI,⟨a,b,k _ _ D.TOz D.TOi1 D.TOi2 hO⟩,j1,j2,t1.to λo e=>k _ o D.l1z D.l1i1 D.l1i2 e,t2.to λo e=>k _ o D.l2z D.l2i1 D.l2i2 e⟩ p1 sz λc o m1 _ m3 m4 e=>k c o m1 m3 m4 e
def Zs.stop {Q:JP}(hh:A.handled=none)(D:ZipApart z TI TO i1 i2 l1 l2)(Z:Zs s.heap tp1 tp2 z TI TO i1 i2 l1 l2 i xs ys)(hx:xs[i]? =none\/ys[i]? =none)
  (q:∀ h',(∀ c o,c≠z->c≠TO->c≠i1->c≠i2->s.heap.get? c=some o->h'.get? c=some o)->Q none { s with heap:=h' }):wpAny (model prog w) A (pyNext (.ref z)) Q E s:=by
 obtain ⟨zo,hI,⟨a,b,hO⟩,g1,g2,t1,t2⟩:=Z;rcases zo with ⟨f1,hz⟩|⟨T,fb,o,hz,hT,_⟩
 ·exact wQ hh D hz hI hO g1 g2 t1 t2 hx q
 ·exact v9 hh D hz hT hI g1 g2 t1 t2 hx λh' k=>q h' λc o m1 _ m3 m4 e=>k c o m1 m3 m4 e
def Zs.keep {h h':Heap}(Z:Zs h tp1 tp2 z TI TO i1 i2 l1 l2 i xs ys)(k:∀ c o,h.get? c=some o->c≠d->h'.get? c=some o) (n:d≠z/\d≠TI/\d≠TO/\d≠i1/\d≠i2/\d≠l1/\d≠l2) (hd:∃ o,h'.get? d=some o):Zs h' tp1 tp2 z TI TO i1 i2 l1 l2 i xs ys:=by
 obtain ⟨zo,hI,⟨a,b,hO⟩,g1,g2,t1,t2⟩:=Z;obtain ⟨m1,m2,m3,m4,m5,m6,m7⟩:=n;refine ⟨?_,k _ _ hI m2.symm,⟨a,b,k _ _ hO m3.symm⟩,g1.to λo e=>k _ o e m4.symm,g2.to λo e=>k _ o e m5.symm,t1.to λo e=>k _ o e m6.symm,t2.to λo e=>k _ o e m7.symm⟩;rcases zo with ⟨f1,hz⟩|⟨T,fb,o,hz,hT,r⟩
 ·exact .inl ⟨f1,k _ _ hz m1.symm⟩
 ·by_cases e:T.toNat=d
  ·obtain ⟨o',ho⟩:=hd;exact .inr ⟨T,fb,o',k _ _ hz m1.symm,by rw[e];exact ho,r⟩
  ·exact .inr ⟨T,fb,o,k _ _ hz m1.symm,k _ _ hT e,r⟩
end
def eB:plainId "dict.update.loop"=true:=by decide+kernel
def kJ:entryFor table "dict.update.loop"=some Builtin.«dict.update.loop»:=entryFor_of_tree (by kernel_rfl)
variable {E:JR}
section
variable {prog:Program}{w:World}{A:Around}{tp1 tp2:Bool}{z TI TO i1 i2 l1 l2 d:Addr}{xs ys:Array Value}{Ky:Type} [DecidableEq Ky] {knd:KeyKind prog w Ky}
def uN (hh:A.handled=none)(D:ZipApart z TI TO i1 i2 l1 l2)(nd:d≠z/\d≠TI/\d≠TO/\d≠i1/\d≠i2/\d≠l1/\d≠l2)(ks:List Ky)(hk:∀ (j:Nat) x,xs[j]? =some x->∃ k,ks[j]? =some k/\knd.is k x=true) (hz:xs.size=ys.size):
  ∀ (m i:Nat),xs.size-i=m->i<=xs.size->∀ (s:Shared) (kvs:List (Ky×Value)) (R:Result->Shared->Prop),Zs s.heap tp1 tp2 z TI TO i1 i2 l1 l2 i xs ys->s.heap.DictOf knd d kvs->kvs.length+m<=sizeLine->
  (∀ h' t',h'.DictOf knd d (merged kvs ((ks.zip ys.toList).drop i))->(∀ c o,c≠z->c≠TO->c≠i1->c≠i2->c≠d->s.heap.get? c=some o->h'.get? c=some o)->R (.ok (.ret .none)) { s with heap:=h',toks:=t' })->
  wpAny (model prog w) A.in1 (Builtin.«dict.update.loop» ⟨[.ref d,.ref z,rawInt i,.none],[]⟩) (λfin s'=>match fin with| .done f=>R (.ok f) s'| .again c'=>c'.quiet=true/\codeAny (model prog w) A c' R s') (λe s'=>R (.error e) s') s:=by
 intro m
 induction m with
 |zero=>
  intro i hm hi s kvs R Z dd hl q;show wpAny _ _ (pyNext (.ref z) >>= _) _ _ _;refine wpAny_bind (Z.stop (show A.in1.handled=none from hh) D (.inl (by simp;omega)) λh' k=>?_);show wpAny _ _ (Builtin.Dict.addKeywords d [] >>= _) _ _ _;refine wpAny_bind (wpAny_pure (wpAny_pure ?_));have e:(ks.zip ys.toList).drop i=[]:=by
   rw[List.drop_eq_nil_iff,length_zip];simp
   omega
  rw[e] at q;refine q h' s.toks ?_ λc o n1 n2 n3 n4 _ e=>k c o n1 n2 n3 n4 e
  obtain ⟨o,es,ep,ho,r⟩:=dd;exact ⟨o,es,ep,k _ _ nd.1 nd.2.2.1 nd.2.2.2.1 nd.2.2.2.2.1 ho,r⟩
 |succ m ih=>
  intro i hm hi s kvs R Z dd hl q;have h1:i<xs.size:=by omega
  have h2:i<ys.size:=by omega
  have e1:xs[i]? =some xs[i]:=Array.getElem?_eq_getElem h1;have e2:ys[i]? =some ys[i]:=Array.getElem?_eq_getElem h2;obtain ⟨k,hk1,hk2⟩:=hk i _ e1;show wpAny _ _ (pyNext (.ref z) >>= _) _ _ _;refine wpAny_bind (Z.next D e1 e2 λh' Z' p sz fr=>?_);show wpAny _ _ (holding [_] _ >>= _) _ _ _;refine wpAny_bind (wpAny_holding ?_);refine wpAny_bind ?_;have hT:({ s with heap:=h' }:Shared).TypeIs (.ref s.heap.objs.size) "tuple":=⟨_,p,rfl⟩;refine wpAny_tryCatch ?_;unfold Builtin.Dict.pairItems;refine wpAny_bind (wpAny_typeOf hT ?_);rw[if_pos (by decide)];refine wpAny_bind (wpAny_seqItems p rfl (wpAny_pure ?_));show wpAny _ _ (holding [_,_] (dictSet d xs[i] ys[i])) _ _ _;refine wpAny_holding ?_;have dd':h'.DictOf knd d kvs:=by
   obtain ⟨o,es,ep,ho,r⟩:=dd;exact ⟨o,es,ep,fr _ _ nd.1 nd.2.2.1 nd.2.2.2.1 nd.2.2.2.2.1 ho,r⟩
  refine wpAny_dictSet_pairs (s:={ s with heap:=h' }) (hsz:=by omega) hk2 dd' λh2' d2 b2=>?_
  show wpAny _ _ (pure (Fin.again (.builtin "dict.update.loop" ⟨[.ref d,.ref z,rawInt ((i:Int)+1),.none],[]⟩))) _ _ _;refine wpAny_pure ⟨plainId_quiet eB _,codeAny_builtin kJ ?_⟩;rw[Around.under_plainId eB _,show ((i:Int)+1)=((i+1:Nat):Int) by push_cast;rfl];have hd:∃ o,h2'.get? d=some o:=let ⟨o,_,_,ho,_⟩:=d2;⟨o,ho⟩;refine ih (i+1) nofun nofun { s with heap:=h2',toks:=s.toks+1 } (stored kvs k ys[i]) R (Z'.keep (λc o e n=>b2.extBut _ _ n e) nd hd) d2 ?_ λh3 t3 d3 f3=>?_
  ·have:(stored kvs k ys[i]).length<=kvs.length+1:=by
    unfold stored
    split
    ·rw[length_map];omega
    ·rw[length_append];simp
   omega
  ·have ed:(ks.zip ys.toList).drop i=(k,ys[i])::(ks.zip ys.toList).drop (i+1):=by
    have:(ks.zip ys.toList)[i]? =some (k,ys[i]):=by
     rw[List.getElem?_zip_eq_some];exact ⟨hk1,by simpa using h2⟩
    obtain ⟨hlt,he⟩:=List.getElem?_eq_some_iff.mp this;rw[List.drop_eq_getElem_cons hlt,he]
   refine q h3 t3 ?_ λc o n1 n2 n3 n4 n5 e=>f3 c o n1 n2 n3 n4 n5 (b2.extBut _ _ n5 (fr c o n1 n2 n3 n4 e))
   rw[ed];exact d3
def my (hh:A.handled=none)(D:ZipApart z TI TO i1 i2 l1 l2)(ks:List Ky)(hk:∀ (j:Nat) x,xs[j]? =some x->∃ k,ks[j]? =some k/\knd.is k x=true) (hz:xs.size=ys.size) (hn:ks.Nodup) (hkl:ks.length=xs.size) (hsz:xs.size<=sizeLine)
  (Z:Zs s.heap tp1 tp2 z TI TO i1 i2 l1 l2 0 xs ys) (hzo:∃ f1,a8 s.heap z TI TO .none f1)
  (q:∀ h' t',h'.DictOf knd s.heap.objs.size (ks.zip ys.toList)->(∀ c o,c≠z->c≠TO->c≠i1->c≠i2->s.heap.get? c=some o->h'.get? c=some o)->Q (.ref s.heap.objs.size) { s with heap:=h',toks:=t' }):
  wpAny (model prog w) A (call (.type "dict") [.ref z]) Q E s:=by
 refine callType_codes (Q₁:=λobj s1=>obj=.ref s.heap.objs.size/\s1={ s with heap:=s.heap.push { cls:=.type "dict",data:=.dict #[] } }) PySem.F.kt_called_dict (PySem.F.kt_typeCall_dict_1 _) PySem.F.entry_dict_init (kt_code_dict_new _ ⟨rfl,rfl⟩) ?_;rintro obj s1 ⟨rfl,rfl⟩;have dn:(s.heap.push { cls:=.type "dict",data:=.dict #[] }).DictOf knd s.heap.objs.size []:=Heap.DictOf.new s.heap;refine ⟨dn.typeIs,PySem.F.args_dict_init_2 _ _,?_⟩;unfold Builtin.«dict.__init__»;refine wpAny_bind ?_;unfold Builtin.Dict.selfAndRest;refine wpAny_bind (wpAny_notOrdered_dict dn.typeIs ?_);show wpAny _ _ (pure (s.heap.objs.size,[Value.ref z])) _ _ _;refine wpAny_pure ?_;show wpAny _ _ (Builtin.Dict.updateFrom "dict.__init__" s.heap.objs.size (.ref z) [] .none) _ _ _;unfold Builtin.Dict.updateFrom;obtain ⟨f1,hz0⟩:=hzo;have hz1:(s.heap.push { cls:=.type "dict",data:=.dict #[] }).get? z=some _:=Heap.get?_push_of_some _ hz0;have hT:({ s with heap:=s.heap.push { cls:=.type "dict",data:=.dict #[] } }:Shared).TypeIs (.ref z) "zip":=⟨_,hz1,rfl⟩;refine wpAny_bind (wpAny_typeOf hT ?_);rw[if_pos (by decide)];refine wpAny_bind (vm hh hz1 λh1 t1 k1=>?_);rw[if_pos (show (none:Option Value).isNone=true from rfl)];refine wpAny_bind (wpAny_rule ?_);refine wpAny_bind (jD (s:={ s with heap:=h1,toks:=t1 }) (k1 _ _ hz1) ?_);have n0:∀ {c o},s.heap.get? c=some o->s.heap.objs.size≠c:=λe=>Nat.ne_of_gt (Heap.lt_size e)
 have nd:s.heap.objs.size≠z/\s.heap.objs.size≠TI/\s.heap.objs.size≠TO/\s.heap.objs.size≠i1/\s.heap.objs.size≠i2/\s.heap.objs.size≠l1/\s.heap.objs.size≠l2:=by
  obtain ⟨a,b,hO⟩:=Z.hO;exact ⟨n0 hz0,n0 Z.hI,n0 hO,Nat.ne_of_gt Z.g1.lt,Nat.ne_of_gt Z.g2.lt,Nat.ne_of_gt Z.t1.lt,Nat.ne_of_gt Z.t2.lt⟩
 have kk:∀ c o,s.heap.get? c=some o->h1.get? c=some o:=λc o e=>k1 _ _ (Heap.get?_push_of_some _ e)
 have d1:h1.DictOf knd s.heap.objs.size []:=by
  obtain ⟨o,es,ep,ho,r⟩:=dn;exact ⟨o,es,ep,k1 _ _ ho,r⟩
 refine wpAny_pure ⟨plainId_quiet eB _,codeAny_builtin kJ ?_⟩;rw[Around.under_plainId eB _];refine uN (A:=A.in1) (d:=s.heap.objs.size) hh D nd ks hk hz _ 0 rfl (Nat.zero_le _) { s with heap:=h1,toks:=t1 } [] _ (Z.keep (λc o e _=>kk c o e) nd (let ⟨o,_,_,ho,_⟩:=d1;⟨o,ho⟩)) d1 (by simpa using hsz) λh' t' d' f'=>?_
 rw[drop_zero,merged_nil_of_nodup _ (by rw[List.map_fst_zip (by simp;omega)];exact hn)] at d';exact ⟨rfl,q h' t' d' λc o n1 n2 n3 n4 e=>f' c o n1 n2 n3 n4 (n0 e).symm (kk c o e)⟩
end
def wN:bootBuiltins "dict"=some (.type "dict"):=by decide+kernel
def BX {P:Program}{w:World}:∀ {ks:List Key}{us:List Value},Vals (ks.map kV) us->∀ (j:Nat) u,us[j]? =some u->∃ k,ks[j]? =some k/\(aE P w).is k u=true
 | [],_,.nil,j,u,h=>by simp at h
 |k::ks,_,.cons r rs,0,u,h=>by
  simp at h;subst h;exact ⟨k,rfl,rF r⟩
 |k::ks,_,.cons r rs,j+1,u,h=>by
  simp at h;obtain ⟨k',e1,e2⟩:=BX (P:=P) (w:=w) rs j u h;exact ⟨k',by simpa using e1,e2⟩
def BF:∀ {ks:List Key}{ys:List V}{us:List Value},Vals ys us->KV (ks.zip ys) (ks.zip us)
 | [],_,_,_=>by simp[List.zip];exact .nil
 |_::_,_,_,.nil=>.nil
 |k::ks,_,_,.cons r rs=>.cons ⟨rfl,r⟩ (BF rs)
abbrev Jg (K:W.Frag)(v u:V)(H:Hp)(Q:VK):Prop:=∃ tp1 l1 tp2 l2,∃ (ks:List Key) (ys:List V),v=.ref l1/\u=.ref l2/\Sq K tp1 H l1 (ks.map kV)/\Sq K tp2 H l2 ys/\ks.Nodup/\ks.length=ys.length/\ks.length<=1000/\∀ p,H p=none->Q (.ref p) (upd H p (.dK (ks.zip ys)))
abbrev JD (K:W.Frag)(ta:TA):TE:=λU H Q=>ta U H λvs H1=>∃ v u,vs=[v,u]/\Jg K v u H1 Q
def zT {a b:Expr}{ta:TA}{p p2 pos2:Pos}(hc:X.calm=true)(hg:Gl X "dict") (hm:X.mg "dict"=none) (hg2:Gl X "zip") (hm2:X.mg "zip"=none) (ha:PA X [a,b] ta)
  (hs:starEach [a,b] X.env=(false,eval a X.env)::starEach [b] X.env:=by rfl) (hpl:(backTo pos2 (starEach [b] X.env)).any (·.1)=false:=by rfl):
  PE X (.Call (.Name "dict" p) [.Call (.Name "zip" p2) [a,b] [] pos2] [] pos) (JD X.K ta):=by
 intro Y s U H Q I h;have h1:starEach [.Call (.Name "zip" p2) [a,b] [] pos2] X.env=[(false,eval (.Call (.Name "zip" p2) [a,b] [] pos2) X.env)]:=rfl;refine Call_ (cE I hg hm wN (PyProof.Rows.callWith_type1 ?_ h1 rfl));rw[h1];show wpAny _ _ (spliced ((false,eval (.Call (.Name "zip" p2) [a,b] [] pos2) X.env)::backTo pos [])) _ _ _;refine Calls.spliced_cons ?_;refine Call_ (cE I hg2 hm2 wg (PyProof.Rows.callWith_type1 (au (ha pos2 Y s U H _ I h) λus s1 ⟨vs,H1,I1,r1,q1⟩=>?_) hs hpl));obtain ⟨v,u,e,tp1,l1,tp2,l2,ks,ys,e1,e2,q1,q2,kn,kl,kz,q⟩:=q1;subst e e1 e2;cases r1 with
 |cons r rr=>
  cases rr with
  |cons r' rr'=>
   cases rr';cases r;cases r';obtain ⟨is1,v1,t1⟩:=I1.sq q1;obtain ⟨is2,v2,t2⟩:=I1.sq q2;refine oa t1 t2 λh' hz hI hO g1 g2 hsz hk=>?_
   refine Calls.spliced_nil ?_;have n1:is1.length=ks.length:=by rw[<-v1.length,length_map]
   have n2:is2.length=ks.length:=by rw[<-v2.length,kl]
   refine my (s:={ s1 with heap:=h' }) (knd:=aE X.prog X.w) (I1.ok.hd hc) (wV t1.lt t2.lt) ks (λj x hx=>BX v1 j x (by simpa using hx)) (by simp;omega) kn (by simp;omega) (by simp;rw[n1];exact fits kz)
    ⟨.inl ⟨_,hz⟩,hI,⟨_,_,hO⟩,g1,g2,t1.to λo e=>hk _ o e,t2.to λo e=>hk _ o e⟩ ⟨_,hz⟩ λh2 t2' d2 f2=>?_
   have lt0:∀ {c o},s1.heap.get? c=some o->c<s1.heap.objs.size:=λe=>Heap.lt_size e
   have hfree:H1 h'.objs.size=none:=I1.hok.fresh (by rw[hsz];exact Nat.le_add_right _ _);refine ⟨.ref h'.objs.size,_,I1.laid (a:=h'.objs.size) (o:=.dK (ks.zip ys)) (t':=t2') (λc o e=>?_) (by rw[hsz];exact Nat.le_add_right _ _) ⟨?_,?_,_,BF v2,by simpa using d2⟩,rfl,q _ hfree⟩
   ·have hl:=lt0 e;refine f2 c o (Nat.ne_of_lt (Nat.lt_of_lt_of_le hl (Nat.le_add_right _ _))) (Nat.ne_of_lt (Nat.lt_of_lt_of_le hl (Nat.le_add_right _ _))) (Nat.ne_of_lt hl) (Nat.ne_of_lt (Nat.lt_of_lt_of_le hl (Nat.le_add_right _ _))) (hk c o e)
   ·rw[length_zip];exact fits (Nat.le_trans (Nat.min_le_left _ _) kz)
   ·exact beq_eq_false_iff_ne.mpr (Nat.ne_of_gt (Nat.lt_of_lt_of_le I1.big (by rw[hsz];exact Nat.le_add_right _ _)))
section
variable {X:Cx}{Y:JS}{U:St}{H:Hp}{s:Shared}{a:Addr}{kvs:List (Key×V)}{A:Around}{E:JR}
def wC (I:Inv X Y U H s)(e:Rd H a (.dK kvs))(h:∀ p s',H p=none->Inv X Y U (upd H p (.dK kvs)) s'->Q (.ref p) s'):wpAny (model X.prog X.w) A (call (.type "dict") [.ref a]) Q E s:=by
 obtain ⟨z,hd,vs,rel,dd⟩:=kr I.hok e;refine kt_call_dict hd dd (by rw[<-rel.length];exact z) λh' dd' hs=>?_
 refine h _ _ (I.hok.fresh (Nat.le_refl _)) (I.laid (a:=s.heap.objs.size) (o:=.dK kvs) (t':=s.toks) (λb q hq=>?_) (Nat.le_refl _) (uP z (beq_eq_false_iff_ne.mpr (Ne.symm (Nat.ne_of_lt I.big))) rel dd'));exact (hs.2 b (Nat.ne_of_lt (Heap.lt_size hq))).trans (Heap.get?_push_of_some _ hq)
end
variable {A:Around}
section
variable {X:Cx}{Y:JS}{U:St}{H:Hp}{s:Shared}
def nV {x:V}{u t:Value}(I:Inv X Y U H s)(rx:RelV x u)(ty:f7 X.K H x t):∃ P:Heap->Prop,KitX X.K u t P/\P s.heap/\u≠.builtin "__main__.__loader__#opaque":=by
 cases ty with
 |non=>cases (show u=Value.none from rx);exact ⟨_,kitx_none,True.intro,λz=>nomatch z⟩
 |bl y=>cases (show u=Value.bool y from rx);exact ⟨_,kitx_bool,True.intro,λz=>nomatch z⟩
 |int i=>obtain ⟨t,q⟩:=(show ∃ t,u=Value.int i t from rx);cases q;exact ⟨_,kitx_int,True.intro,λz=>nomatch z⟩
 |str y=>obtain ⟨t,q⟩:=(show ∃ t,u=Value.str y t from rx);cases q;exact ⟨_,kitx_str,True.intro,λz=>nomatch z⟩
 |flt y=>obtain ⟨t,q⟩:=(show ∃ t,u=Value.float y t from rx);cases q;exact ⟨_,kitx_float,True.intro,λz=>nomatch z⟩
 | @lst a xs ea=>
  cases (show u=Value.ref a from rx);obtain ⟨_,_,n,_,h1⟩:=(show ax X.prog X.w H s.heap a (.lst xs) from I.hok a _ ea);exact ⟨_,kitx_list,⟨_,h1,rfl⟩,λz=>nomatch z⟩
 | @frz a ob xs ea=>
  cases (show u=Value.ref a from rx);obtain ⟨_,_,_,n,_,h1⟩:=(show ax X.prog X.w H s.heap a (.frz ob (.lst xs)) from I.hok a _ ea);exact ⟨_,kitx_list,⟨_,h1,rfl⟩,λz=>nomatch z⟩
 | @tup a xs ea=>
  cases (show u=Value.ref a from rx);obtain ⟨_,_,_,p⟩:=(show ax X.prog X.w H s.heap a (.tup xs) from I.hok a _ ea);obtain ⟨o,h1,h2,_⟩:=p;exact ⟨_,kitx_tuple,⟨o,h1,h2⟩,λz=>nomatch z⟩
 | @dK a kvs ea=>
  cases (show u=Value.ref a from rx);obtain ⟨_,_,vs,_,p⟩:=(show ax X.prog X.w H s.heap a (.dK kvs) from I.hok a _ ea);obtain ⟨o,es,ep,h1,h2,_⟩:=p;exact ⟨_,kitx_dict,⟨o,h1,h2.1⟩,λz=>nomatch z⟩
 | @dT a kvs ea=>
  cases (show u=Value.ref a from rx);obtain ⟨_,_,xs,_,o,es,ep,h1,h2,_⟩:=(show ax X.prog X.w H s.heap a (.dT kvs) from I.hok a _ ea);exact ⟨_,kitx_dict,⟨o,h1,h2.1⟩,λz=>nomatch z⟩
 | @ins a C dx fs ea cl ha hn htk hm=>
  cases (show u=Value.ref a from rx);obtain ⟨mA,O,_⟩:=el I.hok ea;obtain ⟨od,J,_⟩:=O.look;exact ⟨_,kitx_own (cl.get _) cl.hd ha hn htk hm,J,λz=>nomatch z⟩
def lu {u t:Value}{p:Addr}{cs:List Addr}{b:Bool}{P:Heap->Prop}(I:Inv X Y U H s)(Z:KitX X.K u t P)(hp:P s.heap)(hx:u≠.builtin "__main__.__loader__#opaque")
  (ep:H p=some (.tup (cs.map V.ref))) (e:kitAny X.K t (cs.map Value.ref)=some b) (h:∀ tk,Q (.bool b) { s with toks:=tk }):wpAny (model X.prog X.w) A (call (.builtin "isinstance") [u,.ref p]) Q E s:=by
 obtain ⟨its,r,pl,_⟩:=I.tuple (bc.of ep);have er:∀ {cs:List Addr}{us:List Value},Vals (cs.map V.ref) us->us=cs.map Value.ref:=by
  intro cs
  induction cs with
  |nil=>intro us h;cases h;rfl
  |cons c cs ih=>
   intro us h;cases h with
   |cons r1 r2=>
    rw[ih r2,show _=Value.ref c from r1]
    rfl
 obtain rfl:=er r;obtain ⟨⟨c,d,da,sl⟩,h1,h2,n,h3⟩:=(show s.heap.IsTuple p (cs.map Value.ref).toArray from pl);subst h2;obtain rfl:=h3;exact kia_tup Z I.bG hp h1 e hx h
end
def E8 (d:Addr)(hd:(d ==sysModules)=false)(dd:Option Addr)(ep:Nat)(sl:Array (Option Value)):Meets (Builtin.«dict.__eq__» ⟨[.ref d,.ref d],[]⟩) (λ_ R s=>s.heap.get? d=some ⟨.type "dict",dd,.dict #[] ep,sl⟩/\R (.ok (.ret (.bool true))) s):=by
 intro prog w A R s hs;obtain ⟨h,g,dp,tt,os⟩:=s;obtain ⟨ho,q⟩:=hs;have hT:(⟨h,g,dp,tt,os⟩:Shared).TypeIs (.ref d) "dict":=⟨_,ho,rfl⟩;unfold Builtin.«dict.__eq__»
 k_delta "equality"
 unfold Builtin.Dict.dictSlotArgs;refine wpAny_bind (wpAny_bind (wpAny_notOrdered_dict hT ?_));show wpAny _ _ (pure (Value.ref d,[Value.ref d]) >>= _) _ _ _;refine wpAny_bind (wpAny_pure (wpAny_pure ?_));have hi:=PySem.F.kt_sub_dict;show wpAny _ _ (isInstance (.ref d) (.type "dict") >>= _) _ _ _;unfold Builtin.Dict.samePairs;simp only[Std.Legacy.Range.forIn_eq_forIn_range']
 repeat (any_goals first|assumption|wp_step)
variable {dd:Option Addr}{sl:Array (Option Value)}
def EU (hd:(d ==sysModules)=false){ep:Nat}(ho:s.heap.get? d=some ⟨.type "dict",dd,.dict #[] ep,sl⟩) (hu:A.units<cLine):SeqAt.RcAt A s (.ref d) (.ref d) true:=λprog w E Q h=>
 richCompare_meets_room (op:=.Eq) ⟨_,ho,rfl⟩ ⟨_,ho,rfl⟩ PySem.F.slot_dict_eq PySem.F.entry_dict_eq (PySem.F.args_dict_eq_2 _ _) (E8 d hd dd ep sl) ⟨ho,show Value.bool true≠Value.notImplemented/\Q (.bool true) s from ⟨(λx=>nomatch x),h⟩⟩ hu
abbrev xE (K:W.Frag)(H:Hp)(a:Addr):Prop:=(∃ xs,bg K H a xs)\/(∃ xs,bc K H a xs)\/H a=some (.dK [])
def A8 {a:Addr}(I:Inv X Y U H s)(h:xE X.K H a)(hu:A.units+2<cLine):SeqAt.RcAt A s (.ref a) (.ref a) true:=by
 rcases h with ⟨xs,h⟩|⟨xs,h⟩|h
 ·obtain ⟨ia,ra,pa,_⟩:=I.list h;have rc:=SeqAt.RcAt.lists (A:=A) (e:=λ_=>true) pa.isList pa.isList rfl nofun λj h1 h2=>SeqAt.EqAt.same _
  have e:(List.range ia.toArray.size).all (λ_=>true)=true:=by simp
  rwa [e] at rc
 ·obtain ⟨ia,ra,pa,_⟩:=I.tuple h;have rc:=SeqAt.RcAt.tuples (A:=A) (e:=λ_=>true) (show s.heap.IsTuple a ia.toArray from pa) (show s.heap.IsTuple a ia.toArray from pa) nofun λj h1 h2=>SeqAt.EqAt.same _
  have e:((List.range (min ia.toArray.size ia.toArray.size)).all (λ_=>true)&&ia.toArray.size ==ia.toArray.size)=true:=by simp
  rwa [e] at rc
 ·obtain ⟨z,hd,vs,rel,dd⟩:=kr I.hok (.inl h);cases rel;obtain ⟨⟨c,d,da,sl⟩,es,ep,ho,hx,he,_,hp,_⟩:=dd;have e0:es=#[]:=by
   cases hp':es.toList with
   |nil=>exact Array.toList_eq_nil_iff.mp hp'
   |cons a b=>rw[hp'] at hp;cases hp
  subst e0;obtain rfl:da=.dict #[] ep:=he;obtain ⟨rfl,_⟩:=hx;exact EU hd ho nofun
section
variable {prog:Program}{w:World}{A:Around}{E:JR}{s:Shared}{T:String}{r d:Addr}{n:Nat}{P:Nat->Value->Prop}{OK:Heap->Prop}
end
abbrev IA (tp:Bool)(xs:List V):HO:=match tp with
 |true=>.tup xs
 |false=>.lst xs
abbrev ly (tp:Bool):String:=match tp with
 |true=>"tuple"
 |false=>"list"
abbrev EY (tp:Bool)(x:V)(H:Hp)(Q:VK):Prop:=∃ d kvs,x=.ref d/\H d=some (.dK kvs)/\∀ p,H p=none->Q (.ref p) (upd H p (IA tp (kvs.map (·.2))))
abbrev uZ (K:W.Frag)(C:Addr):Bool:=findIn K (.ref C) "__eq__" ==some (some (.builtin "object.__eq__"))&&subIn K (.ref C) (.type "str") ==some false&&subIn K (.ref C) (.type "object") ==some true
def qH {prog:Program}{w:World}{K:Frag}{C:Addr}{R:Result->Shared->Prop}(X:K.In s.heap)(hm:makesIn K C=true)(hi:findIn K (.ref C) "__init__"=some (some (.builtin "object.__init__")))
  (h:R (.ok (.ret (.ref (s.heap.objs.size+1)))) { s with heap:=(s.heap.push emptyDict).push (instObj C s.heap.objs.size) }):codeAny (model prog w) A (.call (.ref C) ⟨[],[]⟩) R s:=by
 obtain ⟨hh,g,d,t,os⟩:=s;have Y:=makes_of (M:=model prog w) X hm;refine make_core Y (looks_findIn X hi) (λz=>Looks.of_pure (oi_bind z)) (.inr ⟨rfl,rfl⟩) ?_;have k:∀ b o,hh.get? b=some o->((hh.push emptyDict).push (instObj C hh.objs.size)).get? b=some o:=λb o e=>Heap.get?_push_of_some _ (Heap.get?_push_of_some _ e)
 have hx:((hh.push emptyDict).push (instObj C hh.objs.size)).get? (hh.objs.size+1)=some (instObj C hh.objs.size):=by heap_get
 have t1:Looks (model prog w) ((hh.push emptyDict).push (instObj C hh.objs.size)) (typeOf (.ref (hh.objs.size+1))) (.ref C):=Looks.andThen (Looks.ld hx) .now;have t2:Looks (model prog w) ((hh.push emptyDict).push (instObj C hh.objs.size)) (isInstance (.ref (hh.objs.size+1)) (.type "object")) true:=t1.andThen (Y.top.keeps k);refine codeAny_call_builtin oi_plain entry_oi (@check_slot (model prog w) _ _ _ "object.__init__" "object" "__init__" (.ref (hh.objs.size+1)) [] [] _ oi_kind oi_split t2 (oi_args _) ?_);rw[oi_run];exact wpAny_pure ⟨rfl,h⟩
structure IV (K:Frag) (C:Addr):Prop where
 makes:makesIn K C=true
 init:findIn K (.ref C) "__init__"=some (some (.builtin "object.__init__"))
 kp:keepIn K (.ref C)=true
abbrev ID (C:Addr):TE:=λ_ H Q=>∀ x dx,H x=none->H dx=none->dx≠x->Q (.ref x) (upd (upd H dx (.own x)) x (.ins C dx []))
def vx {C:Addr}{x:Str}{p:Pos}(M:IV X.K C)(hg:Gl X x)(hm:X.mg x=some (.ref C))(hdb:(x ==("__debug__":Str))=false):PE X (.Call (.Name x p) [] [] pos) (ID C):=by
 intro Y s U H Q I h;refine wpAny_Call_Name_kw (bj I hg hm ?_ hdb);refine W.callWith_K0 I.bG M.kp (wpAny_call (qH I.bG M.makes M.init ?_));have I2:=Inv.made (C:=C) I;exact ⟨.ref (s.heap.objs.size+1),_,I2,rfl,h (s.heap.objs.size+1) s.heap.objs.size (I.hok.fresh (Nat.le_succ _)) (I.hok.fresh (Nat.le_refl _)) (Nat.ne_of_lt (Nat.lt_succ_self _))⟩
@[reducible]def VV:List (V×V)->List (Value×Value)->Prop:=Paired λp q=>RelV p.1 q.1/\RelV p.2 q.2
abbrev PQ (X:Cx)(pos:Pos)(keys:List (Option Expr))(values:List Expr)(t:St->Hp->(List (V×V)->Hp->Prop)->Prop):Prop:=
 ∀ (Y:JS) (s:Shared) (U:St) (H:Hp) (Q:List (V×V)->Hp->Prop),Inv X Y U H s->t U H Q->
  wpAny (model X.prog X.w) X.A (evalPairs (pairTrees keys values X.env pos)) (λvs s'=>∃ ps H',Inv X Y U H' s'/\VV ps vs/\Q ps H') X.xe s
def Di:PQ X pos [] [] (λ_ H Q=>Q [] H):=λY s U H Q I h=>pairTrees_nil_walk ⟨[],H,I,.nil,h⟩
def Ap {k v:Expr}{ks:List (Option Expr)}{vs:List Expr}{tk tv:TE}{t:St->Hp->(List (V×V)->Hp->Prop)->Prop}(hk:PE X k tk)(hv:PE X v tv)(hr:PQ X pos ks vs t):
  PQ X pos (some k::ks) (v::vs) (λU H Q=>tk U H λx H1=>tv U H1 λy H2=>t U H2 λps H3=>Q ((x,y)::ps) H3):=λY s U H Q I h=>
 pairTrees_cons_walk (au (hk Y s U H _ I h) λu s1 ⟨x,H1,I1,rx,q1⟩=>au (hv Y s1 U H1 _ I1 q1) λw2 s2 ⟨y,H2,I2,ry,q2⟩=>
  au (hr Y s2 U H2 _ I2 q2) λws s3 ⟨ps,H3,I3,rel,q3⟩=>⟨(x,y)::ps,H3,I3,.cons ⟨rx,ry⟩ rel,q3⟩)
abbrev CA (kvs more:List (Key×V)):List (Key×V):=more.foldl (λacc kv=>putK acc kv.1 kv.2) kvs
abbrev pK (K:W.Frag)(C:Addr):Bool:=findIn K (.ref C) "__ne__" ==some (some (.builtin "object.__ne__"))&&uZ K C
section
variable {A:Around}{s:Shared}{l C dx:Addr}{od:Option Obj}{K:W.Frag}{prog:Program}{w:World}{E:JR}
def Ga {Q:JP}(X:K.In s.heap)(I:InstAt s.heap l (instObj C dx) C od)(h1:findIn K (.ref C) "__eq__"=some (some (.builtin "object.__eq__"))) (h3:subIn K (.ref C) (.type "object")=some true) (h:Q (some (.bool true)) s):wpAny (model prog w) A (callSpecialIfBound? (.ref l) "__eq__" [.ref l]) Q E s:=by
 simp only[callSpecialIfBound?,bindSpecialIfBound?];refine wpAny_holding (wpAny_bind (wpAny_bind (wpAny_bind (I.type.here ((looks_findIn X h1).here ?_)))));simp only[PySem.F.cmp_object.eq.bind];have fin:wpAny (model prog w) A (call (.builtin "object.__eq__") ([.ref l]++[.ref l]) >>= λv=>pure (some v)) Q E s:=by
  refine wpAny_bind (wpAny_call (codeAny_call_builtin PySem.F.cmp_object.eq.plain PySem.F.cmpEntry_eq ?_));simp only[checkBuiltinCall,PySem.F.cmpKind_eq,PySem.F.cmpSplit_eq];refine wpAny_bind (wpAny_bind (I.type.here ((looks_subIn X h3).here ?_)));rw[if_neg (by simp)];have ha:=PySem.F.cmpArgs_eq (.ref l) (.ref l);have h0:(match Manifest.signature? "object.__eq__" with|some sig=>Bind.checkArgs "object.__eq__" sig { pos:=[Value.ref l]++[Value.ref l] }|x=>pure ())=pure ():=ha;refine wpAny_of_eq h0 ?_;exact objEq_entry_same (wpAny_pure h)
 refine wpAny_bind (wpAny_askSetting (wpAny_ite ?_))
 split
 ·exact wpAny_bind (wpAny_pure (wpAny_pure fin))
 ·exact wpAny_tryCatch (wpAny_bind (wpAny_pure (wpAny_pure fin)))
def Fl {Q:JP}(X:K.In s.heap)(I:InstAt s.heap l (instObj C dx) C od)(h1:findIn K (.ref C) "__eq__"=some (some (.builtin "object.__eq__"))) (h2:findIn K (.ref C) "__ne__"=some (some (.builtin "object.__ne__"))) (h3:subIn K (.ref C) (.type "object")=some true) (hu:A.units+2<cLine) (h:Q (some (.bool false)) s):wpAny (model prog w) A (callSpecialIfBound? (.ref l) "__ne__" [.ref l]) Q E s:=by
 simp only[callSpecialIfBound?,bindSpecialIfBound?];refine wpAny_holding (wpAny_bind (wpAny_bind (wpAny_bind (I.type.here ((looks_findIn X h2).here ?_)))));simp only[PySem.F.cmp_object.ne.bind];have fin:wpAny (model prog w) A (call (.builtin "object.__ne__") ([.ref l]++[.ref l]) >>= λv=>pure (some v)) Q E s:=by
  refine wpAny_bind (wpAny_call (codeAny_call_builtin PySem.F.cmp_object.ne.plain PySem.F.cmpEntry_ne ?_));simp only[checkBuiltinCall,PySem.F.cmpKind_ne,PySem.F.cmpSplit_ne];refine wpAny_bind (wpAny_bind (I.type.here ((looks_subIn X h3).here ?_)));rw[if_neg (by simp)];have ha:=PySem.F.cmpArgs_ne (.ref l) (.ref l);have h0:(match Manifest.signature? "object.__ne__" with|some sig=>Bind.checkArgs "object.__ne__" sig { pos:=[Value.ref l]++[Value.ref l] }|x=>pure ())=pure ():=ha;refine wpAny_of_eq h0 ?_;unfold Builtin.«object.__ne__»;show wpAny _ _ (pure (Value.ref l,[Value.ref l]) >>= _) _ _ _;refine wpAny_bind (wpAny_pure ?_);refine wpAny_bind (wpAny_cRoomFor (show A.units+1<cLine by omega) ?_);refine wpAny_bind (Ga X I h1 h3 ?_);refine wpAny_bind (wpAny_truthy_bool ?_);exact wpAny_pure (wpAny_pure h)
 refine wpAny_bind (wpAny_askSetting (wpAny_ite ?_))
 split
 ·exact wpAny_bind (wpAny_pure (wpAny_pure fin))
 ·exact wpAny_tryCatch (wpAny_bind (wpAny_pure (wpAny_pure fin)))
def sL (X:K.In s.heap)(I:InstAt s.heap l (instObj C dx) C od)(hC:pK K C=true)(hu:A.units+3<cLine):SeqAt.RcNeAt A s (.ref l) (.ref l) false:=λprog w E Q h=>by
 unfold pK uZ at hC;simp only[Bool.and_eq_true,beq_iff_eq] at hC;obtain ⟨h0,⟨h1,h2⟩,h3⟩:=hC;simp only[richCompare,PySem.cmpInfo_NotEq]
 try with_reducible refine wpAny_holding ?_
 refine wpAny_bind (wpAny_cRoomFor nofun ?_);show wpAny _ _ (typeOf (Value.ref l) >>= _) _ _ _;refine wpAny_bind (I.type.here (wpAny_bind (I.type.here ?_)));rw[if_neg (by simp)];refine wpAny_bind (wpAny_pure ?_);rw[if_neg (by simp)];refine wpAny_bind ?_;simp only[tryCompare];refine wpAny_bind (Fl X I h1 h0 h3 nofun ?_);exact wpAny_pure (wpAny_pure h)
def GB (d:Addr)(hd:(d ==sysModules)=false)(dd:Option Addr)(ep:Nat)(sl:Array (Option Value)):Meets (Builtin.«dict.__ne__» ⟨[.ref d,.ref d],[]⟩) (λ_ R s=>s.heap.get? d=some ⟨.type "dict",dd,.dict #[] ep,sl⟩/\R (.ok (.ret (.bool false))) s):=by
 intro prog w A R s hs;obtain ⟨h,g,dp,tt,os⟩:=s;obtain ⟨ho,q⟩:=hs;have hT:(⟨h,g,dp,tt,os⟩:Shared).TypeIs (.ref d) "dict":=⟨_,ho,rfl⟩;unfold Builtin.«dict.__ne__»
 k_delta "equality"
 unfold Builtin.Dict.dictSlotArgs;refine wpAny_bind (wpAny_bind (wpAny_notOrdered_dict hT ?_));show wpAny _ _ (pure (Value.ref d,[Value.ref d]) >>= _) _ _ _;refine wpAny_bind (wpAny_pure (wpAny_pure ?_));have hi:=PySem.F.kt_sub_dict;show wpAny _ _ (isInstance (.ref d) (.type "dict") >>= _) _ _ _;unfold Builtin.Dict.samePairs;simp only[Std.Legacy.Range.forIn_eq_forIn_range']
 repeat (any_goals first|assumption|wp_step)
def yR (hd:(d ==sysModules)=false){ep:Nat}(ho:s.heap.get? d=some ⟨.type "dict",dd,.dict #[] ep,sl⟩) (hu:A.units<cLine):SeqAt.RcNeAt A s (.ref d) (.ref d) false:=λprog w E Q h=>
 richCompare_meets_room (op:=.NotEq) ⟨_,ho,rfl⟩ ⟨_,ho,rfl⟩ PySem.F.slot_dict_ne PySem.F.entry_dict_ne (PySem.F.args_dict_ne_2 _ _) (GB d hd dd ep sl) ⟨ho,show Value.bool false≠Value.notImplemented/\Q (.bool false) s from ⟨(λx=>nomatch x),h⟩⟩ hu
abbrev pG (K:W.Frag)(H:Hp)(a:Addr):Prop:=(∃ xs,bc K H a xs)\/H a=some (.dK [])\/∃ C dx fs,H a=some (.ins C dx fs)/\pK K C=true
def yp {a:Addr}(I:Inv X Y U H s)(h:pG X.K H a)(hu:A.units+3<cLine):SeqAt.RcNeAt A s (.ref a) (.ref a) false:=by
 rcases h with ⟨xs,h⟩|h|⟨C,dx,fs,h,hn⟩
 ·obtain ⟨ia,ra,pa,_⟩:=I.tuple h;have rc:=SeqAt.RcNeAt.tuples (A:=A) (e:=λ_=>true) (show s.heap.IsTuple a ia.toArray from pa) (show s.heap.IsTuple a ia.toArray from pa) nofun λj h1 h2=>SeqAt.EqAt.same _
  have e:((List.range (min ia.toArray.size ia.toArray.size)).all (λ_=>true)&&ia.toArray.size ==ia.toArray.size)=true:=by simp
  rw[e] at rc;exact rc
 ·obtain ⟨z,hd,vs,rel,dd⟩:=kr I.hok (.inl h);cases rel;obtain ⟨⟨c,d,da,sl⟩,es,ep,ho,hx,he,_,hp,_⟩:=dd;have e0:es=#[]:=by
   cases hp':es.toList with
   |nil=>exact Array.toList_eq_nil_iff.mp hp'
   |cons a b=>rw[hp'] at hp;cases hp
  subst e0;obtain rfl:da=.dict #[] ep:=he;obtain ⟨rfl,_⟩:=hx;exact yR hd ho nofun
 ·obtain ⟨mA,o,_⟩:=el I.hok h;obtain ⟨od,i,_⟩:=o.look;exact sL I.bG i hn hu
end
end L2
namespace L2
open PySem PySem.Spec PyProof.Rows
abbrev GD (hi:Int)(n:Nat):It:=⟨λi _=>i<n,λi H x H'=>H'=H/\x=.int (hi-i),λi _=>n<=i⟩
def pz {P:Program}{w:World}{K:W.Frag}{tg:Expr}(it:Addr)(hi:Int)(n:Nat):Turn P w K tg (GD hi n) [it] it (λi h=>IsRangeIter h it (hi+(i:Nat)* -1) ((n:Int)-(i:Nat)) (-1)) where
 mem:=by simp
 obj:=λi h st b hb=>by
  have e:b=it:=by simpa using hb
  subst e;exact ⟨_,st,λv z=>by
   have z':Data.fields _=Data.cell v:=z;cases z'⟩
 keep:=λi h h' st k=>k it (by simp) _ st
 item:=by
  intro X hP hw hK hc i Y s U H E I hf st hg;subst hP hw hK;obtain ⟨f0,f1,f2,f3,f4,f5⟩:=hf it (by simp);have W:=Walks.range (prog:=X.prog) (w:=X.w) (I.ok.hd hc) it hi (-1) n;refine W.item i s _ _ hg st λv h' tk hv st' kk=>?_
  obtain ⟨t,rfl⟩:=hv;have I1:Inv X Y U H { s with heap:=h',toks:=tk }:=I.turned (λb o hb e=>kk b o (by simpa using hb) e) f0 f1 f3 f4 f5;refine ⟨_,rfl,rW (s:={ s with heap:=h',toks:=tk }) (n:="range_iterator") st' rfl rfl (by decide) ⟨.int (hi-i),H,I1,⟨t,?_⟩,⟨rfl,rfl⟩,st',λb hb=>(hf b hb).1⟩⟩;rw[show hi-(i:Int)=hi+(i:Int)* -1 by omega]
 done:=by
  intro X hP hw hK hc i Y s U H E I hf st hg;subst hP hw hK;obtain ⟨f0,f1,f2,f3,f4,f5⟩:=hf it (by simp);exact wpAny_pyNext_range_end (I.ok.hd hc) st (by have:n<=i:=hg;omega) λh' eb=>⟨rfl,I.turned (t':=s.toks) (λb o hb e=>eb b o hb e) f0 f1 f3 f4 f5⟩
 self:=λ_ _ _ _ _ st h=>wpAny_pyIter_rangeiter st h
def eW {a b:Int}:Builtin.Range.rangeSize a b (-1)=if a>b then a-b else 0:=by
 unfold Builtin.Range.rangeSize;rw[if_neg (by decide)];simp only[Int.neg_neg,Int.ediv_one]
 split<;>omega
def sN {a b:Int}(ha: -(2 ^ 62)<=a)(ha':a<2 ^ 62)(hb: -(2 ^ 62)<=b)(hb':b<2 ^ 62):Builtin.Range.small a b (-1)=true:=by
 unfold Builtin.Range.small;rw[eW];simp only[Builtin.Range.rangeFitsLong,Bool.and_eq_true,Bool.or_eq_true,decide_eq_true_eq,beq_iff_eq,show ¬ (-1:Int)>0 by decide,if_false]
 split<;>omega
section
variable {X:Cx}{tg:Expr}
def tF {Y:JS}{U:St}{H:Hp}{s:Shared}{R:It->Hp->Prop}{E:JR}{lo hi:Int}{t u v:Tok}{tk:Nat}(I:Inv X Y U H s)(h1: -(2 ^ 62)<=hi)(h2:hi<2 ^ 62)(h3: -(2 ^ 62)<=lo)(h4:lo<2 ^ 62)
  (q:R (GD hi (hi-lo).toNat) H):wpAny (model X.prog X.w) X.A (pyIter (.ref s.heap.objs.size)) (FC X Y U tg R) E { s with heap:=s.heap.push { cls:=.type "range",data:=.fields #[.int hi t,.int lo u,.int (-1) v] },toks:=tk }:=by
 refine wpAny_pyIter_range (IsRange.new ..) (sN h1 h2 h3 h4) ?_;have I1:Inv X Y U H { s with heap:=s.heap.push { cls:=.type "range",data:=.fields #[.int hi t,.int lo u,.int (-1) v] },toks:=tk }:=I.kept λb o e=>Heap.get?_push_of_some _ e
 refine ⟨(s.heap.push { cls:=.type "range",data:=.fields #[.int hi t,.int lo u,.int (-1) v] }).objs.size,[(s.heap.push { cls:=.type "range",data:=.fields #[.int hi t,.int lo u,.int (-1) v] }).objs.size],_,_,H,rfl,
  I1.kept (t':=tk) λb o e=>Heap.get?_push_of_some _ e,pz _ hi (hi-lo).toNat,?_,λb hb=>?_,q⟩
 ·have e1:hi+((0:Nat):Int)* -1=hi:=by simp
  have e2:(((hi-lo).toNat:Nat):Int)-((0:Nat):Int)=Builtin.Range.rangeSize hi lo (-1):=by rw[eW];split<;>omega
  show IsRangeIter _ _ (hi+((0:Nat):Int)* -1) ((((hi-lo).toNat:Nat):Int)-((0:Nat):Int)) (-1);rw[e1,e2];exact Heap.get?_push_size _ rfl
 ·have e:b=(s.heap.push { cls:=.type "range",data:=.fields #[.int hi t,.int lo u,.int (-1) v] }).objs.size:=by simpa using hb
  subst e;exact I1.pI (Nat.le_refl _) (I1.hok.fresh (Nat.le_refl _))
abbrev Fe (ta:TA):TI:=λU H R=>ta U H λvs H1=>∃ i j:Int,vs=[.int i,.int j,.int (-1)]/\(-(2 ^ 62)<=i/\i<2 ^ 62/\ -(2 ^ 62)<=j/\j<2 ^ 62)/\R (GD i (i-j).toNat) H1
def sY {a b c:Expr}{ta:TA}{p pos:Pos}(hg:Gl X "range") (hm:X.mg "range"=none) (ha:PA X [a,b,c] ta) (hs:starEach [a,b,c] X.env=[(false,eval a X.env),(false,eval b X.env),(false,eval c X.env)]) (hs2:starEach [b,c] X.env=[(false,eval b X.env),(false,eval c X.env)]):
  PI X tg (.Call (.Name "range" p) [a,b,c] [] pos) (Fe ta):=by
 intro Y s U H R I h;refine Call_ (cE I hg hm boot_range (PyProof.Rows.callWith_type1 (au (ha pos Y s U H _ I h) λus s1 ⟨vs,H1,I1,r1,q1⟩=>?_) (by rw[hs,hs2]) (by rw[hs2];rfl)));obtain ⟨i,j,e,⟨q1,q2,q3,q4⟩,q⟩:=q1;subst e;cases r1 with
 |cons r rr=>
  cases rr with
  |cons r' rr=>
   cases rr with
   |cons r'' rr=>
    cases rr;obtain ⟨t,rfl⟩:=r;obtain ⟨t',rfl⟩:=r';obtain ⟨t'',rfl⟩:=r'';refine call_range_3 (by decide) (tF I1 q1 q2 q3 q4 q) (.inl ?_);exact PyProof.noPylong_small nofun
end
end L2
namespace L2
open PySem PySem.Spec PySem.W PyProof.Rows
open PySem.AutoSeq1 (wpAny_loadPart')
noncomputable abbrev EL (l:Addr):Obj:={ cls:=.type "tuple_iterator",data:=.fields #[.ref l,.int 0 0] }
noncomputable abbrev Hx (j:Addr):Obj:={ cls:=.type "enumerate",data:=.fields #[.none,.bool false,.ref j,rawInt 0,.none,.none] }
def Dj (l:Addr)(o:Obj)(xs:Array Value)(hc:o.cls=.type "tuple") (hd:∃ n,o.data=.seq xs n):
  Meets (Builtin.«enumerate.__new__» ⟨[.type "enumerate",.ref l],[]⟩) (λ_ R s=>s.heap.get? l=some o/\R (.ok (.ret (.ref (s.heap.push (EL l)).objs.size))) { s with heap:=(s.heap.push (EL l)).push (Hx s.heap.objs.size) }):=
 .of_wp λprog w A R s h=>by
  obtain ⟨⟩:=s;obtain ⟨hl,h⟩:=h;have hs:=sub_enumerate;have hL:Heap.IsTuple (Shared.heap ⟨_,_,_,_,_⟩) l xs:=⟨o,hl,hc,hd⟩
  wp_walk using wpAny_loadPart' hl
  refine wpAny_stack_any λst=>wpAny_pure ?_
  split
  ·rename_i c _ _ _ _ _;cases (c ==Value.type "enumerate")
   ·wp_walk using wpAny_loadPart' hl,wpAny_pyIter_tuple hL
    exact ⟨_,rfl,h⟩
   ·wp_walk using wpAny_loadPart' hl,wpAny_pyIter_tuple hL
    exact ⟨_,rfl,h⟩
  ·wp_walk using wpAny_loadPart' hl,wpAny_pyIter_tuple hL
   exact ⟨_,rfl,h⟩
variable {xs:Array Value}{Q:JP}{i:Nat}
section
variable {prog:Program}{w:World}{A:Around}{E:JR}{s:Shared}
def zV {l:Addr}{Q:JR}(hL:s.heap.IsTuple l xs)
  (q:∀ h',IsEnum h' (s.heap.objs.size+1) s.heap.objs.size 0 .none->h'.IsTupleIter s.heap.objs.size l 0->(∀ b o,s.heap.get? b=some o->h'.get? b=some o)->Q (.ref (s.heap.objs.size+1)) { s with heap:=h' }):
  wpAny (model prog w) A (call (.type "enumerate") [.ref l]) Q E s:=by
 obtain ⟨o,hl,hc,hd⟩:=hL;refine callType_new F.called_enumerate (by decide) (F.typeCall_enumerate_1 _) (F.newCall_enumerate_1 _) (λobj=>F.args_object_init_2 obj _) F.entry_enumerate_new (Dj l o xs hc hd) ⟨hl,?_⟩;have hz:(s.heap.push (EL l)).objs.size=s.heap.objs.size+1:=Heap.size_push ..;show _/\_;rw[hz];have he:IsEnum ((s.heap.push (EL l)).push (Hx s.heap.objs.size)) (s.heap.objs.size+1) s.heap.objs.size 0 .none:=by
  have:=Heap.get?_push_size (s.heap.push (EL l)) (o:=Hx s.heap.objs.size) rfl;rw[hz] at this;exact this
 exact ⟨⟨_,he,rfl⟩,q _ he ⟨_,Heap.get?_push_of_some _ (Heap.get?_push_size _ rfl),rfl,rfl⟩ λb o x=>Heap.get?_push_of_some _ (Heap.get?_push_of_some _ x)⟩
def E5 {e j l:Addr}{x y:Value}{Q:JR}(he:IsEnum s.heap e j i y)(g:s.heap.IsTupleIter j l i)(hl:s.heap.IsTuple l xs)(hx:xs[i]? =some x)(ne:e≠j)
  (q:∀ h',IsEnumOut h' e j ((i:Int)+1) x s.heap.objs.size->h'.IsTupleIter j l (i+1)->h'.get? s.heap.objs.size=some { cls:=.type "tuple",data:=.seq #[.int i s.toks,x] }->
   (∀ b o,b≠e->b≠j->s.heap.get? b=some o->h'.get? b=some o)->Q (.ref s.heap.objs.size) { s with heap:=h',toks:=s.toks+1 }):
  wpAny (model prog w) A (Builtin.«enumerate.__next__» ⟨[.ref e],[]⟩) (λfin s'=>∃ v,fin=.done (.ret v)/\Q v s') E s:=by
 obtain ⟨hp,gs,d,tk,os⟩:=s;show wpAny _ _ (field (.ref e) 2 >>= _) _ _ _;refine wpAny_bind (wpAny_field he rfl (x:=.ref j) rfl (wpAny_bind (vP g hl hx λk1 g1 s1=>?_)))
 replace s1:Heap.SameBut j hp k1:=s1
 have e1:IsEnum k1 e j i y:=(s1.2 e ne).trans he;show wpAny _ _ (field (.ref e) 3 >>= _) _ _ ⟨k1,gs,d,tk,os⟩;refine wpAny_bind (wpAny_field e1 rfl (x:=rawInt i) rfl ?_);show wpAny _ _ (field (.ref e) 4 >>= _) _ _ ⟨k1,gs,d,tk,os⟩;refine wpAny_bind (wpAny_field e1 rfl (x:=.none) rfl ?_);show wpAny _ _ (mkInt i >>= _) _ _ ⟨k1,gs,d,tk,os⟩;refine wpAny_bind (wpAny_mkInt ?_);show wpAny _ _ (setField (.ref e) 3 (rawInt ((i:Int)+1)) >>= _) _ _ ⟨k1,gs,d,tk+1,os⟩;refine wpAny_bind (wpAny_setField_rec e1 (by simp) λk2 e2 s2=>?_)
 replace s2:Heap.SameBut e k1 k2:=s2
 replace e2:IsEnum k2 e j ((i:Int)+1) y:=e2
 show wpAny _ _ (setField (.ref e) 4 .none >>= _) _ _ ⟨k2,gs,d,tk+1,os⟩;refine wpAny_bind (wpAny_setField_rec e2 (by simp) λk3 e3 s3=>?_)
 replace s3:Heap.SameBut e k2 k3:=s3
 replace e3:IsEnum k3 e j ((i:Int)+1) y:=e3
 show wpAny _ _ (newTuple [.int i tk,x] >>= _) _ _ ⟨k3,gs,d,tk+1,os⟩;refine wpAny_bind (wpAny_newTuple ?_);have e4:IsEnum (k3.push { cls:=.type "tuple",data:=.seq #[.int i tk,x] }) e j ((i:Int)+1) y:=Heap.get?_push_of_some _ e3;generalize hk:k3.push { cls:=.type "tuple",data:=.seq #[.int i tk,x] }=k4 at e4;have z3:k3.objs.size=hp.objs.size:=by rw[s3.1,s2.1,s1.1]
 have lt:e<hp.objs.size:=Heap.lt_size he;have t4:k4.get? hp.objs.size=some { cls:=.type "tuple",data:=.seq #[.int i tk,x] }:=by rw[<-hk,<-z3];exact Heap.get?_push_size _ rfl
 have b4:∀ b o,b≠e->b≠j->hp.get? b=some o->k4.get? b=some o:=λb o hb hj h=>by
  rw[<-hk];exact Heap.get?_push_of_some _ (s3.extBut b o hb (s2.extBut b o hb (s1.extBut b o hj h)))
 have g4:k4.IsTupleIter j l (i+1):=by
  obtain ⟨o,ho,r⟩:=g1;exact ⟨o,by rw[<-hk];exact Heap.get?_push_of_some _ (s3.extBut _ _ ne.symm (s2.extBut _ _ ne.symm ho)),r⟩
 show wpAny _ _ (Builtin.SmallTypes.ownedTupleIsFree (.ref e) >>= _) _ _ ⟨k4,gs,d,tk+1,os⟩;rw[z3];clear hk e3 s3 e2 s2 e1 s1 g1 z3 k3 k2 k1;refine wpAny_bind ?_;unfold Builtin.SmallTypes.ownedTupleIsFree;refine wpAny_bind (wpAny_field e4 rfl (x:=.none) rfl (wpAny_pure ?_));simp only[if_true];refine wpAny_bind (wpAny_rule (wpAny_bind (wpAny_field e4 rfl (x:=y) rfl (wpAny_bind (wpAny_setField_rec e4 (by simp) λk5 e5 s5=>?_)))))
 replace s5:Heap.SameBut e k4 k5:=s5
 replace e5:IsEnum k5 e j ((i:Int)+1) x:=e5
 show wpAny _ _ (Builtin.SmallTypes.ownedTupleHandOut (.ref e) (.ref hp.objs.size) >>= _) _ _ ⟨k5,gs,d,tk+1,os⟩;refine wpAny_bind ?_;unfold Builtin.SmallTypes.ownedTupleHandOut;refine wpAny_bind (wpAny_setField_rec e5 (by simp) λk6 e6 s6=>?_)
 replace s6:Heap.SameBut e k5 k6:=s6
 replace e6:IsEnumOut k6 e j ((i:Int)+1) x hp.objs.size:=e6
 refine wpAny_setField_rec e6 (by simp) λk7 e7 s7=>?_
 replace s7:Heap.SameBut e k6 k7:=s7
 replace e7:IsEnumOut k7 e j ((i:Int)+1) x hp.objs.size:=e7
 have ex:∀ b o,b≠e->k4.get? b=some o->k7.get? b=some o:=λb o hb h=>s7.extBut b o hb (s6.extBut b o hb (s5.extBut b o hb h))
 refine wpAny_bind (wpAny_letGo (wpAny_pure ⟨_,rfl,q k7 e7 ?_ (ex _ _ (Nat.ne_of_gt lt) t4) λb o hb hj h=>ex b o hb (b4 b o hb hj h)⟩));obtain ⟨o,ho,r⟩:=g4;exact ⟨o,ex _ _ ne.symm ho,r⟩
def yG {e j l:Addr}{x y:Value}(he:IsEnum s.heap e j i y)(g:s.heap.IsTupleIter j l i)(hl:s.heap.IsTuple l xs)(hx:xs[i]? =some x)(ne:e≠j)
  (q:∀ h',IsEnumOut h' e j ((i:Int)+1) x s.heap.objs.size->h'.IsTupleIter j l (i+1)->h'.get? s.heap.objs.size=some { cls:=.type "tuple",data:=.seq #[.int i s.toks,x] }->
   (∀ b o,b≠e->b≠j->s.heap.get? b=some o->h'.get? b=some o)->Q (some (.ref s.heap.objs.size)) { s with heap:=h',toks:=s.toks+1 }):wpAny (model prog w) A (pyNext (.ref e)) Q E s:=by
 have hT:s.TypeIs (.ref e) "enumerate":=⟨_,he,rfl⟩;unfold pyNext;exact wpAny_bind (wpAny_attempt (wpAny_callSpecial?_slot (name:=Str.ofString "__next__") hT F.slot_enumerate_next (wpAny_call_entry F.slot_enumerate_next hT F.entry_enumerate_next (E5 he g hl hx ne λh' a b c k=>wpAny_pure (q h' a b c k)) (F.args_enumerate_next_1 _))))
def C4 {e j l:Addr}{y:Value}(hh:A.handled=none)(he:IsEnum s.heap e j i y)(g:s.heap.IsTupleIter j l i)(hl:s.heap.IsTuple l xs)(hx:xs[i]? =none)
  (q:∀ h',Heap.ExtBut j s.heap h'->Q none { s with heap:=h' }):wpAny (model prog w) A (pyNext (.ref e)) Q E s:=by
 have hT:s.TypeIs (.ref e) "enumerate":=⟨_,he,rfl⟩;unfold pyNext;refine wpAny_bind (wpAny_attempt (wpAny_callSpecial?_slot (name:=Str.ofString "__next__") hT F.slot_enumerate_next (wpAny_call_entry F.slot_enumerate_next hT F.entry_enumerate_next ?_ (F.args_enumerate_next_1 _))));show wpAny _ _ (field (.ref e) 2 >>= _) _ _ _;refine wpAny_bind (wpAny_field he rfl (x:=.ref j) rfl (wpAny_bind (rJ hh g hl hx λh' x he' hx'=>?_)));obtain ⟨o,ho,hc⟩:=hx';exact wpAny_bind (wpAny_isInstance (T:="StopIteration") (b:=true) ⟨o,ho,hc⟩ isSubtype_stop (wpAny_pure (q _ he')))
end
abbrev E4 (K:W.Frag)(l:Addr):It:=
 ⟨λi H=>∃ xs x,bc K H l xs/\xs[i]? =some x,λi H x H'=>∃ T y,H T=none/\x=.ref T/\H'=upd H T (.tup [.int i,y])/\∀ xs,bc K H l xs->xs[i]? =some y,λi H=>∃ xs,bc K H l xs/\xs.length<=i⟩
variable {elts:List Expr}
def qd {P:Program}{w:World}{K:W.Frag}{k:Nat}{pos:Pos}(l e it:Addr)(hei:e≠it):
  Turn P w K (.Tuple elts k pos) (E4 K l) [e,it] e (λi h=>(∃ old,IsEnum h e it ((i:Nat):Int) old)/\h.IsTupleIter it l i) where
 mem:=by simp
 obj:=λi h st b hb=>by
  obtain ⟨⟨old,he⟩,hit⟩:=st;rcases mem_cons.mp hb with rfl|hb
  ·exact ⟨_,he,λv z=>by
    have z':Data.fields _=Data.cell v:=z;cases z'⟩
  ·have e':b=it:=by simpa using hb
   subst e';obtain ⟨o,e,c,d⟩:=hit;exact ⟨o,e,λv z=>by rw[d] at z;cases z⟩
 keep:=λi h h' st k=>by
  obtain ⟨⟨old,he⟩,hit⟩:=st;exact ⟨⟨old,k e (by simp) _ he⟩,hit.at λo q=>k it (by simp) o q⟩
 item:=by
  intro X hP hw hK hc i Y s U H E I hf st hg;subst hP hw hK;obtain ⟨xs,x,hq,hx⟩:=hg;obtain ⟨⟨old,he⟩,hit⟩:=st;obtain ⟨its,rv,p,hz⟩:=I.tuple hq;obtain ⟨u,hu,ru⟩:=rv.get hx;have heN:H e=none:=(hf e (by simp)).1;have hes:e≠s.heap.objs.size:=Nat.ne_of_lt (Heap.lt_size he);obtain ⟨oi,hoi,_⟩:=id hit;have his:it≠s.heap.objs.size:=Nat.ne_of_lt (Heap.lt_size hoi);refine yG he hit (show s.heap.IsTuple l its.toArray from p) (x:=u) (by simpa using hu) hei λh1 heo hit1 ht1 hk1=>?_
  have I1:Inv X Y U (upd H s.heap.objs.size (.tup [.int i,x])) { s with heap:=h1,toks:=s.toks+1 }:=
   I.jy (ch:=[e,it]) (λb o hb q=>hk1 b o (λz=>hb (by simp[z])) (λz=>hb (by simp[z])) q) hf (Nat.le_refl _)
    ⟨fits (Nat.le_of_ble_eq_true rfl),[.int i s.toks,u],.cons ⟨_,rfl⟩ (.cons ru .nil),⟨_,ht1,rfl,_,rfl⟩⟩
  refine ⟨_,rfl,wpAny_letOwnedTupleGo_enum heo λh2 he2 hs2=>?_⟩;obtain ⟨f0,f1,f2,f3,f4,f5⟩:=hf e (by simp);have I2:=I1.turned (h':=h2) (t':=s.toks+1) (it:=e) (λb o hb q=>(hs2.2 b hb).trans q) (by rw[af hes];exact heN) f1 f3 f4 f5;refine ⟨.ref s.heap.objs.size,_,I2,rfl,⟨_,x,I.hok.fresh (Nat.le_refl _),rfl,rfl,λys hy=>by rw[I.eG hy hq];exact hx⟩,⟨⟨_,by simpa using he2⟩,hit1.at λo q=>(hs2.2 it hei.symm).trans q⟩,λb hb=>?_⟩;have hb':b≠s.heap.objs.size:=by
   rcases mem_cons.mp hb with rfl|hb
   ·exact hes
   ·have e':b=it:=by simpa using hb
    subst e';exact his
  rw[af hb'];exact (hf b hb).1
 done:=by
  intro X hP hw hK hc i Y s U H E I hf st hg;subst hP hw hK;obtain ⟨xs,hq,hx⟩:=hg;obtain ⟨⟨old,he⟩,hit⟩:=st;obtain ⟨its,rv,p,hz⟩:=I.tuple hq;obtain ⟨f0,f1,f2,f3,f4,f5⟩:=hf it (by simp);have hl:=rv.length;exact C4 (I.ok.hd hc) he hit (show s.heap.IsTuple l its.toArray from p) (by simp;omega) λh' eb=>⟨rfl,I.turned (t':=s.toks) (λb o hb q=>eb b o hb q) f0 f1 f3 f4 f5⟩
 self:=λ_ _ _ _ _ st h=>by
  obtain ⟨⟨old,he⟩,hit⟩:=st;exact wpAny_pyIter_enum he h
abbrev FZ (K:W.Frag)(ta:TA):TI:=λU H R=>ta U H λvs H1=>∃ l,vs=[.ref l]/\(∃ xs,bc K H1 l xs)/\R (E4 K l) H1
def yL {X:Cx}{k:Nat}{a:Expr}{ta:TA}{p pos pos':Pos}(hg:Gl X "enumerate") (hm:X.mg "enumerate"=none) (ha:PA X [a] ta) (hs:starEach [a] X.env=[(false,eval a X.env)]):
  PI X (.Tuple elts k pos') (.Call (.Name "enumerate" p) [a] [] pos) (FZ X.K ta):=by
 intro Y s U H R I h;refine Call_ (cE I hg hm fN (PyProof.Rows.callWith_type1 (au (ha pos Y s U H _ I h) λus s1 ⟨vs,H1,I1,r1,q1⟩=>?_) hs rfl));obtain ⟨l,e,⟨xs,hl⟩,q⟩:=q1;subst e;cases r1 with
 |cons r rr=>
  cases rr;cases r;obtain ⟨its,rv,p,hz⟩:=I1.tuple hl;refine zV (show s1.heap.IsTuple l its.toArray from p) λh' he hit hk=>wpAny_pyIter_enum he ?_
  refine ⟨s1.heap.objs.size+1,[s1.heap.objs.size+1,s1.heap.objs.size],_,_,H1,rfl,I1.kept (t':=s1.toks) hk,qd l _ _ (Nat.succ_ne_self _),⟨⟨_,he⟩,hit⟩,λb hb=>?_,q⟩;have hb':s1.heap.objs.size<=b:=by
   rcases mem_cons.mp hb with rfl|hb
   ·exact Nat.le_succ _
   ·have e':b=s1.heap.objs.size:=by simpa using hb
    exact Nat.le_of_eq e'.symm
  exact I1.pI hb' (I1.hok.fresh hb')
section
variable {X:Cx}{Y:JS}{U:St}{H:Hp}{s:Shared}
end
end L2
namespace L2
open PySem PySem.Spec PyProof.Rows
inductive eE (K:W.Frag) (H:Hp):Nat->V->V->Bool->Prop where
 |flat {n:Nat}{x y:V}(fx:aJ x=true) (fy:aJ y=true):eE K H n x y (jT x y)
 |same {n:Nat}(a:Addr):eE K H (n+1) (.ref a) (.ref a) true
 |ll {n:Nat}{a b:Addr}{xs ys:List V}{e:Nat->Bool}(ha:bg K H a xs) (hb:bg K H b ys) (hl:xs.length=ys.length) (h:∀ j x y,xs[j]? =some x->ys[j]? =some y->eE K H (n+1) x y (e j)):eE K H (n+2) (.ref a) (.ref b) ((List.range xs.length).all e)
 |tt {n:Nat}{a b:Addr}{xs ys:List V}{e:Nat->Bool}(ha:bc K H a xs) (hb:bc K H b ys) (h:∀ j x y,xs[j]? =some x->ys[j]? =some y->eE K H (n+1) x y (e j)):eE K H (n+2) (.ref a) (.ref b) ((List.range (min xs.length ys.length)).all e&&xs.length ==ys.length)
variable {A:Around}
section
variable {X:Cx}{Y:JS}{s:Shared}{U:St}{H:Hp}
def uY {y x:V}{u v:Value}(ry:RelV y u)(rx:RelV x v)(fy:aJ y=true)(fx:aJ x=true):SeqAt.RcAt A s u v (jT y x):=by
 cases y<;>first|cases fy|skip
 all_goals (cases x<;>first|cases fx|skip)
 all_goals (first|(obtain ⟨t,rfl⟩:=ry)|cases ry)
 all_goals (first|(obtain ⟨t',rfl⟩:=rx)|cases rx)
 ·exact SeqAt.RcAt.none_none
 ·exact SeqAt.RcAt.none_bool _
 ·exact SeqAt.RcAt.none_int _ _
 ·exact SeqAt.RcAt.none_str _ _
 ·exact SeqAt.RcAt.bool_none _
 ·exact SeqAt.RcAt.bool_bool _ _
 ·exact SeqAt.RcAt.bool_int _ _ _
 ·exact SeqAt.RcAt.bool_str _ _ _
 ·exact SeqAt.RcAt.int_none _ _
 ·exact SeqAt.RcAt.int_bool _ _ _
 ·exact SeqAt.RcAt.int_int _ _ _ _
 ·exact SeqAt.RcAt.int_str _ _ _ _
 ·exact SeqAt.RcAt.str_none _ _
 ·exact SeqAt.RcAt.str_bool _ _ _
 ·exact SeqAt.RcAt.str_int _ _ _ _
 ·exact SeqAt.RcAt.str_str _ _ _ _
def nH {y x:V}{u v:Value}(ry:RelV y u)(rx:RelV x v)(fy:aJ y=true)(fx:aJ x=true):SeqAt.RcNeAt A s u v (!jT y x):=by
 cases y<;>first|cases fy|skip
 all_goals (cases x<;>first|cases fx|skip)
 all_goals (first|(obtain ⟨t,rfl⟩:=ry)|cases ry)
 all_goals (first|(obtain ⟨t',rfl⟩:=rx)|cases rx)
 ·exact SeqAt.RcNeAt.none_none
 ·exact SeqAt.RcNeAt.none_bool _
 ·exact SeqAt.RcNeAt.none_int _ _
 ·exact SeqAt.RcNeAt.none_str _ _
 ·exact SeqAt.RcNeAt.bool_none _
 ·exact SeqAt.RcNeAt.bool_bool _ _
 ·exact SeqAt.RcNeAt.bool_int _ _ _
 ·exact SeqAt.RcNeAt.bool_str _ _ _
 ·exact SeqAt.RcNeAt.int_none _ _
 ·exact SeqAt.RcNeAt.int_bool _ _ _
 ·exact SeqAt.RcNeAt.int_int _ _ _ _
 ·exact SeqAt.RcNeAt.int_str _ _ _ _
 ·exact SeqAt.RcNeAt.str_none _ _
 ·exact SeqAt.RcNeAt.str_bool _ _ _
 ·exact SeqAt.RcNeAt.str_int _ _ _ _
 ·exact SeqAt.RcNeAt.str_str _ _ _ _
def eqv_refl (I:Inv X Y U H s):∀ {n:Nat}{x y:V}{b:Bool},eE X.K H n x y b->x=y->b=true:=by
 intro n x y b h
 induction h with
 | @flat n x y fx fy=>
  rintro rfl;cases x<;>first|(exact absurd fx Bool.false_ne_true)|simp[jT]
 |same a=>intro _;rfl
 | @ll n a b xs ys e ha hb hl h ih=>
  intro z;cases z;have:=I.jL ha hb;subst this;rw[all_eq_true];intro j hj;have hj':j<xs.length:=mem_range.mp hj;exact ih j _ _ (getElem?_eq_getElem hj') (getElem?_eq_getElem hj') rfl
 | @tt n a b xs ys e ha hb h ih=>
  intro z;cases z;have:=I.eG ha hb;subst this;rw[beq_self_eq_true,Bool.and_true,Nat.min_self,all_eq_true];intro j hj;have hj':j<xs.length:=mem_range.mp hj;exact ih j _ _ (getElem?_eq_getElem hj') (getElem?_eq_getElem hj') rfl
def oE (I:Inv X Y U H s):∀ {n:Nat}{x y:V}{b:Bool},eE X.K H n x y b->∀ {A:Around}{u v:Value},A.units+n<cLine->RelV x u->RelV y v->
  (SeqAt.EqAt A s u v b)/\(x=y\/SeqAt.RcAt A s u v b/\SeqAt.RcNeAt A s u v (!b)):=by
 intro n x y b h
 induction h with
 |flat fx fy=>intro A u v _ rx ry;exact ⟨vI rx ry fx fy,.inr ⟨uY rx ry fx fy,nH rx ry fx fy⟩⟩
 |same a=>intro A u v _ rx ry;cases rx;cases ry;exact ⟨SeqAt.EqAt.same _,.inl rfl⟩
 | @ll n a b xs ys e ha hb hl h ih=>
  intro A u v hu rx ry;have hall:=eE.ll ha hb hl h;cases rx;cases ry
  by_cases hab:a=b
  ·subst hab;have z:=eqv_refl I hall rfl;rw[z];exact ⟨SeqAt.EqAt.same _,.inl rfl⟩
  obtain ⟨ia,ra,pa,_⟩:=I.list ha;obtain ⟨ib,rb,pb,_⟩:=I.list hb;have e1:ia.toArray.size=xs.length:=by rw[size_toArray,ra.length]
  have e2:ib.toArray.size=ys.length:=by rw[size_toArray,rb.length]
  have he:∀ j (h1:j<ia.toArray.size) (h2:j<ib.toArray.size),SeqAt.EqAt A.in1 s ia.toArray[j] ib.toArray[j] (e j):=λj h1 h2=>by
   obtain ⟨x1,f1,r1⟩:=iZ ra h1;obtain ⟨y1,f2,r2⟩:=iZ rb h2;exact (ih j x1 y1 f1 f2 (by show A.units+1+(n+1)<cLine;omega) r1 r2).1
  have rc:=SeqAt.RcAt.lists (A:=A) pa.isList pb.isList (by rw[e1,e2,hl]) nofun he;have rn:=SeqAt.RcNeAt.lists (A:=A) pa.isList pb.isList (by rw[e1,e2,hl]) nofun he;rw[e1] at rc rn;exact ⟨SeqAt.EqAt.of_refs hab rc,.inr ⟨rc,rn⟩⟩
 | @tt n a b xs ys e ha hb h ih=>
  intro A u v hu rx ry;have hall:=eE.tt ha hb h;cases rx;cases ry
  by_cases hab:a=b
  ·subst hab;have z:=eqv_refl I hall rfl;rw[z];exact ⟨SeqAt.EqAt.same _,.inl rfl⟩
  obtain ⟨ia,ra,pa,_⟩:=I.tuple ha;obtain ⟨ib,rb,pb,_⟩:=I.tuple hb;have e1:ia.toArray.size=xs.length:=by rw[size_toArray,ra.length]
  have e2:ib.toArray.size=ys.length:=by rw[size_toArray,rb.length]
  have he:∀ j (h1:j<ia.toArray.size) (h2:j<ib.toArray.size),SeqAt.EqAt A.in1 s ia.toArray[j] ib.toArray[j] (e j):=λj h1 h2=>by
   obtain ⟨x1,f1,r1⟩:=iZ ra h1;obtain ⟨y1,f2,r2⟩:=iZ rb h2;exact (ih j x1 y1 f1 f2 (by show A.units+1+(n+1)<cLine;omega) r1 r2).1
  have rc:=SeqAt.RcAt.tuples (A:=A) (show s.heap.IsTuple a ia.toArray from pa) (show s.heap.IsTuple b ib.toArray from pb) nofun he;have rn:=SeqAt.RcNeAt.tuples (A:=A) (show s.heap.IsTuple a ia.toArray from pa) (show s.heap.IsTuple b ib.toArray from pb) nofun he;rw[e1,e2] at rc rn;exact ⟨SeqAt.EqAt.of_refs hab rc,.inr ⟨rc,rn⟩⟩
@[irreducible] noncomputable def d8 (K:W.Frag) (neg:Bool):R2:=λx y H Q=>∃ n b,eE K H n x y b/\n<=100/\(aJ x=true\/x≠y\/(neg=false/\∃ a,x=.ref a/\xE K H a)\/(neg=true/\∃ a,x=.ref a/\pG K H a))/\Q (.bl (if neg then !b else b)) H
def Dp (hu:X.A.units+200<cLine):cS X (compareOp .Eq) (d8 X.K false):=by
 intro Y s U H x y v u Q I rx ry h;unfold d8 at h;obtain ⟨n,b,e,hn,hx,q⟩:=h;rcases (oE I e (A:=X.A) nofun rx ry).2 with z|⟨z,_⟩
 ·subst z;rcases hx with hx|hx
  ·have z:=eqv_refl I e rfl;have r:=uY (s:=s) (A:=X.A) rx ry hx hx;have z2:=eqv_refl I (eE.flat (K:=X.K) (H:=H) (n:=0) hx hx) rfl;rw[z2] at r;rw[z] at q;exact PySem.EqBoolInt.of_rc r ⟨.bl true,H,I,rfl,q⟩
  rcases hx with hx|⟨_,a,rfl,hs⟩|⟨hx,_⟩
  ·exact absurd rfl hx
  ·have z:=eqv_refl I e rfl;rw[z] at q;cases rx;cases ry;exact PySem.EqBoolInt.of_rc (A8 (A:=X.A) I hs nofun) ⟨.bl true,H,I,rfl,q⟩
  ·cases hx
 ·exact PySem.EqBoolInt.of_rc z ⟨.bl b,H,I,rfl,q⟩
def CT (hu:X.A.units+200<cLine):cS X (compareOp .NotEq) (d8 X.K true):=by
 intro Y s U H x y v u Q I rx ry h;unfold d8 at h;obtain ⟨n,b,e,hn,hx,q⟩:=h;rcases (oE I e (A:=X.A) nofun rx ry).2 with z|⟨_,z⟩
 ·subst z;rcases hx with hx|hx
  ·have z:=eqv_refl I e rfl;have r:=nH (s:=s) (A:=X.A) rx ry hx hx;have z2:=eqv_refl I (eE.flat (K:=X.K) (H:=H) (n:=0) hx hx) rfl;rw[z2] at r;rw[z] at q;exact PySem.EqBoolInt.of_rcne r ⟨.bl false,H,I,rfl,q⟩
  rcases hx with hx|⟨hx,_⟩|⟨_,a,rfl,hs⟩
  ·exact absurd rfl hx
  ·cases hx
  ·have z:=eqv_refl I e rfl;rw[z] at q;cases rx;cases ry;exact PySem.EqBoolInt.of_rcne (yp (A:=X.A) I hs nofun) ⟨.bl false,H,I,rfl,q⟩
 ·exact PySem.EqBoolInt.of_rcne z ⟨.bl (!b),H,I,rfl,q⟩
end
@[irreducible] noncomputable def yJ (K:W.Frag) (a b:Addr) (H:Hp) (Q:VK):Prop:=(∃ xs ys,H a=some (.lst xs)/\H b=some (.lst ys)/\xs.length+ys.length<=100000/\∀ p,H p=none->Q (.ref p) (upd H p (.lst (xs++ys))))\/False
@[irreducible] noncomputable def A1 (K:W.Frag) (a:Addr) (k:Int) (H:Hp) (Q:VK):Prop:=(∃ xs,H a=some (.lst xs)/\ -1000<=k/\k<=1000/\xs.length<=1000/\∀ p,H p=none->Q (.ref p) (upd H p (.lst (List.replicate k.toNat xs).flatten)))\/False
abbrev Dk (K:W.Frag):R2:=λx y H Q=>match x,y with
 | .int i,.int j=>Q (.int (i+j)) H
 | .str a,.str b=>a.length+b.length<=100000/\Q (.str (a++b)) H
 | .ref a,.ref b=>yJ K a b H Q
 |_,_=>False
abbrev D0:R2:=λx y H Q=>match x,y with
 | .int i,.int j=>Q (.int (i-j)) H
 |_,_=>False
abbrev De (K:W.Frag):R2:=λx y H Q=>match x,y with
 | .int i,.int j=>sJ i j/\Q (.int (i*j)) H
 | .ref a,.int k=>A1 K a k H Q
 |_,_=>False
abbrev Ee:R2:=λx y H Q=>match x,y with
 | .int i,.int j=>(0<j/\j<1073741824)/\Q (.int (i / j)) H
 |_,_=>False
abbrev Ey:R2:=λx y H Q=>match x,y with
 | .int i,.int j=>0<j/\Q (.int (i % j)) H
 |_,_=>False
abbrev Dg:R2:=λx y H Q=>match x,y with
 | .int i,.int j=>ze i j/\Q (.int (i ^ j.toNat)) H
 |_,_=>False
abbrev CG (K:W.Frag)(op:Operator):R2:=match op with
 | .Add=>Dk K
 | .Sub=>D0
 | .Mult=>De K
 | .FloorDiv=>Ee
 | .Mod=>Ey
 | .Pow=>Dg
 |_=>λ_ _ _ _=>False
section
variable {X:Cx}
def js {n:Nat}(h:n<=1000000):n<=sizeLine:=by rw[sizeLine_eq];omega
def DJ (op:Operator):cS X (binaryOp op) (CG X.K op):=by
 intro Y s U H x y v u Q I rx ry h;cases op with
 |Add=>
  have h':Dk X.K x y H Q:=h;unfold Dk at h'
  split at h'
  ·exact C3 Y s U H _ _ v u Q I rx ry ⟨_,_,rfl,rfl,h'⟩
  ·exact pQ Y s U H _ _ v u Q I rx ry ⟨_,_,rfl,rfl,js nofun,h'.2⟩
  ·unfold yJ at h';rcases h' with ⟨xs,ys,ha,hb,hz,q⟩|h'
   ·exact Dm Y s U H _ _ v u Q I rx ry ⟨_,_,xs,ys,rfl,rfl,ha,hb,js nofun,q⟩
   ·exact h'.elim
  ·exact h'.elim
 |Sub=>
  have h':D0 x y H Q:=h;unfold D0 at h'
  split at h'
  ·exact DL Y s U H _ _ v u Q I rx ry ⟨_,_,rfl,rfl,h'⟩
  ·exact h'.elim
 |Mult=>
  have h':De X.K x y H Q:=h;unfold De at h'
  split at h'
  ·exact EB Y s U H _ _ v u Q I rx ry ⟨_,_,rfl,rfl,h'.1,h'.2⟩
  ·rename_i k;unfold A1 at h';rcases h' with ⟨xs,ha,h1,h2,hz,q⟩|h'
   ·refine DF Y s U H _ _ v u Q I rx ry ⟨_,k,xs,rfl,rfl,ha,by omega,by omega,js ?_,q⟩;have:xs.length*k.toNat<=1000*1000:=Nat.mul_le_mul hz nofun
    omega
   ·exact h'.elim
  ·exact h'.elim
 |FloorDiv=>
  have h':Ee x y H Q:=h;unfold Ee at h'
  split at h'
  ·exact Ac Y s U H _ _ v u Q I rx ry ⟨_,_,rfl,rfl,h'.1,h'.2⟩
  ·exact h'.elim
 |Mod=>
  have h':Ey x y H Q:=h;unfold Ey at h'
  split at h'
  ·exact Ea Y s U H _ _ v u Q I rx ry ⟨_,_,rfl,rfl,h'.1,h'.2⟩
  ·exact h'.elim
 |Pow=>
  have h':Dg x y H Q:=h;unfold Dg at h'
  split at h'
  ·exact CS Y s U H _ _ v u Q I rx ry ⟨_,_,rfl,rfl,h'.1,h'.2⟩
  ·exact h'.elim
 |_=>exact (show False from h).elim
abbrev tQ (f:Int->Int->Bool):R2:=λx y H Q=>match x,y with
 | .int i,.int j=>Q (.bl (f i j)) H
 |_,_=>False
@[irreducible] noncomputable def Fw (K:W.Frag) (neg:Bool):R2:=λx y H Q=>match y with
 | .ref p=>(∃ xs,(bg K H p xs\/bc K H p xs)/\aJ x=true/\xs.all aJ=true/\Q (.bl (if neg then !EJ x xs else EJ x xs)) H)\/False\/False
 | .str j=>False
 |_=>False
@[irreducible] noncomputable def yj (neg:Bool):R2:=λx y H Q=>match y with
 | .non=>Q (.bl (if neg then !decide (x=.non) else decide (x=.non))) H
 | .bl b=>False
 | .ref b=>False
 |_=>False
abbrev jK (K:W.Frag)(op:CmpOp):R2:=match op with
 | .Eq=>d8 K false
 | .NotEq=>d8 K true
 | .Lt=>tQ λi j=>decide (i<j)
 | .LtE=>tQ λi j=>decide (i<=j)
 | .Gt=>tQ λi j=>decide (j<i)
 | .GtE=>tQ λi j=>decide (j<=i)
 | .In=>Fw K false
 | .NotIn=>λ_ _ _ _=>False
 | .Is=>yj false
 | .IsNot=>yj true
def lb {f:Int->Int->Bool}{op:CmpOp}(ho:cS X (compareOp op) (yz λi j=>.bl (f i j))):cS X (compareOp op) (tQ f):=by
 intro Y s U H x y v u Q I rx ry h;unfold tQ at h
 split at h
 ·exact ho Y s U H _ _ v u Q I rx ry ⟨_,_,rfl,rfl,h⟩
 ·exact h.elim
def DP (hu:X.A.units+200<cLine)(op:CmpOp):cS X (compareOp op) (jK X.K op):=by
 cases op with
 |Eq=>exact Dp hu
 |NotEq=>exact CT hu
 |Lt=>exact lb E0
 |LtE=>exact lb F7
 |Gt=>exact lb G2
 |GtE=>exact lb EK
 |In=>
  intro Y s U H x y v u Q I rx ry h;have h':Fw X.K false x y H Q:=h;unfold Fw at h'
  split at h'
  ·rcases h' with ⟨xs,hx,f1,f2,q⟩|g|z
   ·exact uk Y s U H _ _ v u Q I rx ry ⟨_,xs,rfl,hx,f1,f2,q⟩
   ·exact g.elim
   ·exact z.elim
  ·exact h'.elim
  ·exact h'.elim
 |NotIn=>exact λ_ _ _ _ _ _ _ _ _ _ _ _ h=>(show False from h).elim
 |Is=>
  intro Y s U H x y v u Q I rx ry h;have h':yj false x y H Q:=h;unfold yj at h'
  split at h'
  ·exact DA Y s U H _ _ v u Q I rx ry ⟨rfl,h'⟩
  ·exact h'.elim
  ·exact h'.elim
  ·exact h'.elim
 |IsNot=>
  intro Y s U H x y v u Q I rx ry h;have h':yj true x y H Q:=h;unfold yj at h'
  split at h'
  ·exact Am Y s U H _ _ v u Q I rx ry ⟨rfl,h'⟩
  ·exact h'.elim
  ·exact h'.elim
  ·exact h'.elim
@[irreducible] noncomputable def yi (K:W.Frag):R2:=λx y H Q=>match x with
 | .ref p=>(∃ xs i v,y=.int i/\(bg K H p xs\/bc K H p xs)/\mL xs i=some v/\Q v H)\/∃ v,Dd H p y (some v)/\Q v H
 | .str z=>False
 |_=>False
def qh (hu:X.A.units+200<cLine):E3 X (yi X.K):=by
 intro value slice Y s U H x y v u Q I rx ry h hs;unfold yi at h
 split at h
 ·rcases h with ⟨xs,i,w,rfl,hx,ha,q⟩|⟨w,g,q⟩
  ·rcases hx with hx|hx
   ·exact AX value slice Y s U H _ _ v u Q I rx ry ⟨_,xs,i,w,rfl,rfl,hx,ha,q⟩ hs
   ·exact DW value slice Y s U H _ _ v u Q I rx ry ⟨_,xs,i,w,rfl,rfl,hx,ha,q⟩ hs
  ·cases rx;exact tail_any (nO I g) PySem.F.slot_dict_getitem.lookup (tE nofun I g ry λw' s3 I3 rw'=>⟨w,H,I3,rw',q⟩) hs
 ·exact h.elim
 ·exact h.elim
@[irreducible] noncomputable def mr:tD:=λo i v H Q=>match o with
 | .ref p=>(∃ xs k j,i=.int k/\H p=some (.lst xs)/\vM xs.length k=some j/\Q (upd H p (.lst (xs.set j v))))\/∃ H4,FL H p i v H4/\Q H4
 |_=>False
def rp (hu:X.A.units+200<cLine):Ag X mr:=by
 intro Y s U H o i v ov iv u Q I ro ri rv h;unfold mr at h
 split at h
 ·rcases h with ⟨xs,k,j,rfl,hp,hj,q⟩|⟨H4,g,q⟩
  ·exact set_list Y s U H _ _ v ov iv u Q I ro ri rv ⟨_,xs,k,j,rfl,rfl,hp,hj,q⟩
  ·cases ro;exact tR nofun I g ri rv λs4 I4=>⟨H4,I4,q⟩
 ·exact h.elim
@[irreducible] noncomputable def yn (K:W.Frag):V->Option Int->Option Int->Hp->VK->Prop:=λx lo hi H Q=>match x with
 | .ref a=>(∃ xs,bg K H a xs/\∀ p,H p=none->Q (.ref p) (upd H p (.lst (gZ xs lo hi))))\/GG K (.ref a) lo hi H Q
 | .str z=>False
 |_=>False
def DE:Ft X (yn X.K):=by
 intro Y s U H x v vl vu lo hi sl Q I rx hs pl pu h;unfold yn at h
 split at h
 ·rcases h with ⟨xs,hx,q⟩|h
  ·exact AS Y s U H _ v vl vu lo hi sl Q I rx hs pl pu ⟨_,xs,rfl,hx,q⟩
  ·exact El Y s U H _ v vl vu lo hi sl Q I rx hs pl pu h
 ·exact h.elim
 ·exact h.elim
end
end L2
namespace L3
open PySem L2
set_option genSizeOf false
inductive Bf where
 |len|list|tuple|int|str|min|max|abs|all|any|dict
 deriving DecidableEq
inductive Lm where
 |append|extend|insert|pop|clear|reverse|count
 deriving DecidableEq
inductive Cl where
 |own (c:Nat)|ty (n:String)
mutual
inductive Ex where
 |v (i:Nat)|int (i:Int)|bl (b:Bool)|non|str (x:Str)|gl (x:Str)
 |bin (op:Operator) (a b:Ex)|neg (a:Ex)|not (a:Ex)|and (a b:Ex)|or (a b:Ex)
 |cmp (op:CmpOp) (a b:Ex)|cmp2 (o1 o2:CmpOp) (a b c:Ex)|qv (o1 o2 o3:CmpOp) (a b c d:Ex)
 |ife (c:Tx) (a b:Ex)|tup (es:fB)|lst (es:fB)|ix (a i:Ex)|sl (a:Ex) (lo hi:Hi)
 |fld (a:Ex) (f:Str)|call (f:Nat) (es:fB)|meth (a:Ex) (m:Str) (es:fB)|lm (m:Lm) (a:Ex) (es:fB)|make (c:Nat) (es:fB)|bini (es:fB)|cini (c:Nat) (es:fB)
 |bf (b:Bf) (es:fB)|isi (a:Ex) (c:Cl)|lc (elt:Ex) (sel:List Nat) (it:Ci)|lci (elt:Ex) (c:Tx) (sel:List Nat) (it:Ci)|lct (elt:Ex) (n:Nat) (sel:List Nat) (it:Ci)|dnew|up (a:Ex)|dzip (a b:Ex)|isiT (a:Ex) (cs:List Nat)|vals (tp:Bool) (a:Ex)|mk0 (c:Nat)|disp (ks:List Str) (es:fB)|lix (a b:Ex)|dget (a k d:Ex)
inductive Tx where
 |not (a:Tx)|and (a b:Tx)|or (a b:Tx)|cmp (op:CmpOp) (a b:Ex)|cmp2 (o1 o2:CmpOp) (a b c:Ex)|val (e:Ex)
inductive fB where
 |nil|cons (e:Ex) (es:fB)
inductive Hi where
 |no|yes (e:Ex)
inductive Ci where
 |rng1 (a:Ex)|rng2 (a b:Ex)|rng3 (a b c:Ex)|enm (a:Ex)|enf (a:Ex)|seq (a:Ex)|zip (a b:Ex)
end
inductive Hb where
 |nm (i:Nat)|tp (is:List Nat)|nt (i:Nat) (is:List Nat)
mutual
inductive Sx where
 |asg (i:Nat) (e:Ex)|asgT (is:List Nat) (e:Ex)|par (is:List Nat) (es:fB)|sub (o i v:Ex)|fld (o:Ex) (f:Str) (v:Ex)
 |aug (i:Nat) (op:Operator) (e:Ex)|augS (o i:Ex) (op:Operator) (e:Ex)
 |ret (e:Ex)|retN|pass|brk|cont|expr (e:Ex)
 |ife (c:Tx) (a b:mh)|whl (c:Tx) (b:mh)|for (t:Hb) (it:Ci) (b:mh)|rais (e:Ex)|tryx (b:mh) (hs:yf)
inductive mh where
 |nil|cons (s:Sx) (r:mh)
inductive yf where
 |nil|cons (c:Nat) (i:Nat) (b:mh) (hs:yf)
end
structure ai where
 ps:List Str
 N:List Str
 dfl:List V
 body:mh
/-- what of the text never changes. gfn,gcl:the global names of defs and classes,by number;gbl:built-in names that are not shadowed;gbi:classes of exceptions whose __init__ is the built-in one;na:class and name that no class of it has;
  me:class,name,def;ini:class,its __init__;oc,xc:plain classes,classes of exceptions;sub,subT:isinstance -/
structure Tab where
 fns:List ai
 gfn:List (Str×Nat)
 gcl:List (Str×Nat)
 gbl:List Str
 gbi:List Str
 na:List (Nat×Str)
 me:List ((Nat×Str)×Nat)
 ini:List (Nat×Nat)
 ini0:List Nat
 inip:List Nat
 oc:List Nat
 xc:List Nat
 sub:List ((Nat×Nat)×Bool)
 subT:List ((Nat×String)×Bool)
 subB:List ((String×String)×Bool)
 subO:List ((String×Nat)×Bool)
 cin:List (Nat×Nat):=[]
structure Rt where
 K:W.Frag
 fad:Nat->Addr
 cad:Nat->Addr
 gl:Str->Option V
structure Gx where
 T:Tab
 R:Rt
 Ψ:Nat->Sp
 cm:Bool
@[irreducible] noncomputable def gy (c:Bool) (A B:Prop):Prop:=match c with
 |true=>A
 |false=>B
def di (c:Bool)(A B:Prop):gy c A B=(if c=true then A else B):=by unfold gy;cases c<;>rfl
abbrev Ed (K:W.Frag)(x:V)(H:Hp)(Q:Bool->Hp->Prop):Prop:=match x with
 | .bl k=>Q k H
 |y=>∃ k,AE K y H k/\Q k H
abbrev tyName:V->Hp->Option String
 | .non,_=>some "NoneType"
 | .bl _,_=>some "bool"
 | .int _,_=>some "int"
 | .str _,_=>some "str"
 | .ref a,H=>match H a with
  |some (.lst _)=>some "list"
  |some (.tup _)=>some "tuple"
  |some (.dK _)=>some "dict"
  |_=>none
 |_,_=>none
@[irreducible] noncomputable def nX (G:Gx) (b:Bf) (vs:List V) (H:Hp) (Q:VK):Prop:=match b with
 | .len=>∃ x n,vs=[x]/\GC G.R.K x H n/\Q (.int n) H
 | .list=>∃ p ys,vs=[.ref p]/\(bg G.R.K H p ys\/bc G.R.K H p ys)/\∀ l,H l=none->Q (.ref l) (upd H l (.lst ys))
 | .tuple=>∃ p ys,vs=[.ref p]/\((bg G.R.K H p ys/\∀ l,H l=none->Q (.ref l) (upd H l (.tup ys)))\/(bc G.R.K H p ys/\Q (.ref p) H))
 | .int=>(∃ i,vs=[.int i]/\Q (.int i) H)\/∃ k,vs=[.bl k]/\Q (.int (if k then 1 else 0)) H
 | .str=>(∃ i,vs=[.int i]/\i.natAbs.log2<1920/\Q (.str (toString i)) H)\/∃ z,vs=[.str z]/\Q (.str z) H
 | .min=>G.cm=true/\((∃ i j,vs=[.int i,.int j]/\Q (.int (if j<i then j else i)) H)\/False)
 | .max=>G.cm=true/\∃ i j,vs=[.int i,.int j]/\Q (.int (if j>i then j else i)) H
 | .abs=>False
 | .all=>False
 | .any=>False
 | .dict=>∃ p kvs,vs=[.ref p]/\H p=some (.dK kvs)/\∀ l,H l=none->Q (.ref l) (upd H l (.dK kvs))
@[irreducible] noncomputable def FH (m:Lm) (p:Addr) (xs:List V) (vs:List V) (H:Hp) (Q:VK):Prop:=match m with
 | .append=>∃ y,vs=[y]/\xs.length<=10000/\Q .non (upd H p (.lst (xs++[y])))
 | .extend=>∃ b zs,vs=[.ref b]/\H b=some (.lst zs)/\xs.length+zs.length<=10000/\Q .non (upd H p (.lst (xs++zs)))
 | .insert=>False
 | .pop=>False
 | .clear=>False
 | .reverse=>False
 | .count=>False
abbrev dflt (G:Gx)(f n:Nat):List V:=match G.T.fns[f]? with
 |some d=>d.dfl.drop (n+d.dfl.length-d.ps.length)
 |none=>[]
abbrev fB.len:fB->Nat
 | .nil=>0
 | .cons _ es=>es.len+1
abbrev qS (G:Gx)(H:Hp)(a:Addr)(i:Nat):Prop:=(G.T.oc.contains i=true/\∃ dx fs,H a=some (.ins (G.R.cad i) dx fs))\/(G.T.xc.contains i=true/\∃ dx fs fr,H a=some (.exc (G.R.cad i) dx fs fr))
@[irreducible] noncomputable def jW (G:Gx) (c:Cl) (x:V) (H:Hp) (Q:VK):Prop:=match c with
 | .ty n=>(∃ t b,tyName x H=some t/\G.T.subB.lookup (t,n)=some b/\Q (.bl b) H)\/∃ a i b,x=.ref a/\qS G H a i/\G.T.subT.lookup (i,n)=some b/\Q (.bl b) H
 | .own j=>(∃ t b,tyName x H=some t/\G.T.subO.lookup (t,j)=some b/\Q (.bl b) H)\/∃ a i b,x=.ref a/\qS G H a i/\G.T.sub.lookup (i,j)=some b/\Q (.bl b) H
abbrev anyS (G:Gx)(i:Nat):List Nat->Option Bool
 | []=>some false
 |c::r=>match G.T.sub.lookup (i,c) with
  |some true=>some true
  |some false=>anyS G i r
  |none=>none
abbrev yD (G:Gx)(t:String):List Nat->Option Bool
 | []=>some false
 |c::r=>match G.T.subO.lookup (t,c) with
  |some true=>some true
  |some false=>yD G t r
  |none=>none
@[irreducible] noncomputable def n8 (G:Gx) (cs:List Nat) (x:V) (H:Hp) (Q:VK):Prop:=(∃ t b,tyName x H=some t/\yD G t cs=some b/\Q (.bl b) H)\/∃ a i b,x=.ref a/\qS G H a i/\anyS G i cs=some b/\Q (.bl b) H
@[irreducible] noncomputable def nZ (G:Gx) (f:Str) (x:V) (H:Hp) (Q:VK):Prop:=∃ a i fs v,x=.ref a/\((G.T.oc.contains i=true/\∃ dx,H a=some (.ins (G.R.cad i) dx fs))\/(G.T.xc.contains i=true/\∃ dx fr,H a=some (.exc (G.R.cad i) (some dx) fs fr)))/\
 G.T.na.contains (i,f)=true/\fs.lookup f=some v/\Q v H
@[irreducible] noncomputable def yN (G:Gx) (f:Str) (x y:V) (H:Hp) (Q:Hp->Prop):Prop:=∃ a i,x=.ref a/\G.T.na.contains (i,f)=true/\
 ((∃ dx fs,G.T.oc.contains i=true/\H a=some (.ins (G.R.cad i) dx fs)/\fs.length<1000/\Q (upd H a (.ins (G.R.cad i) dx (cu f y fs))))\/
  (∃ d fs fr,G.T.xc.contains i=true/\H a=some (.exc (G.R.cad i) (some d) fs fr)/\fs.length<1000/\Q (upd H a (.exc (G.R.cad i) (some d) (cu f y fs) fr)))\/
  (∃ fr,G.T.xc.contains i=true/\H a=some (.exc (G.R.cad i) none [] fr)/\∀ d,H d=none->Q (upd (upd H d (.own a)) a (.exc (G.R.cad i) (some d) [(f,y)] fr))))
abbrev Hm (op:Operator)(x y:V)(H:Hp)(Q:VK):Prop:=match op,x,y with
 | .Add,.int i,.int j=>Q (.int (i+j)) H
 | .Sub,.int i,.int j=>Q (.int (i-j)) H
 |_,_,_=>False
@[irreducible] noncomputable def vo (K:W.Frag) (x y:V) (H:Hp) (Q:VK):Prop:=match x,y with
 | .ref p,.int i=>∃ xs v,bg K H p xs/\0<=i/\xs[i.toNat]? =some v/\Q v H
 |_,_=>False
abbrev wa (U:St):List Nat->List V->St
 |i::is,x::xs=>wa (U.set i (some x)) is xs
 |_,_=>U
@[irreducible] noncomputable def JK (x:V) (H:Hp) (Q:VK):Prop:=∃ z,x=.str z/\z.length<=100000/\∀ z':Str,z'.length<=3*z.length->Q (.str z') H
@[irreducible] noncomputable def yt (xs:List V) (H:Hp) (Q:VK):Prop:=xs.length<=10000/\∀ p,H p=none->Q (.ref p) (upd H p (.lst xs))
@[irreducible] noncomputable def iA (xs:List V) (H:Hp) (Q:VK):Prop:=xs.length<=10000/\∀ p,H p=none->Q (.ref p) (upd H p (.tup xs))
@[irreducible] noncomputable def newD (H:Hp) (Q:VK):Prop:=∀ p,H p=none->Q (.ref p) (upd H p (.dK []))
@[irreducible] noncomputable def zH (l:Addr) (H:Hp) (R:It->Hp->Prop):Prop:=(∃ xs,H l=some (.lst xs))/\R (Gk l) H
@[irreducible] noncomputable def zg (K:W.Frag) (l:Addr) (H:Hp) (R:It->Hp->Prop):Prop:=(∃ xs,bc K H l xs)/\R (E4 K l) H
@[irreducible] noncomputable def pR (K:W.Frag) (p:Addr) (H:Hp) (R:It->Hp->Prop):Prop:=((∃ xs,bg K H p xs)/\R (EF K p) H)\/((∃ xs,bc K H p xs)/\R (FX K p) H)
@[irreducible] noncomputable def zR (K:W.Frag) (x y:V) (H:Hp) (R:It->Hp->Prop):Prop:=Fu K x y H R
@[irreducible] noncomputable def E7 (tp:Bool) (x:V) (H:Hp) (Q:VK):Prop:=EY tp x H Q
@[irreducible] noncomputable def u0 (C:Addr) (H:Hp) (Q:VK):Prop:=∀ x dx,H x=none->H dx=none->dx≠x->Q (.ref x) (upd (upd H dx (.own x)) x (.ins C dx []))
@[irreducible] noncomputable def Fd (K:W.Frag) (x y:V) (H:Hp) (Q:VK):Prop:=Jg K x y H Q
@[irreducible] noncomputable def Ie (p:Addr) (y w:V) (H:Hp) (Q:VK):Prop:=∃ kvs k,H p=some (.dK kvs)/\y=kV k/\Q ((gQ kvs k).getD w) H
@[irreducible] noncomputable def Ht (K:W.Frag) (p:Addr) (y:V) (H:Hp) (Q:VK):Prop:=∃ xs,∃ (e:V->Bool) (j:Nat) (x:V),H p=some (.lst xs)/\xs.length<=10000/\(∀ x ∈ xs,∃ n,n<=100/\eE K H n x y (e x))/\xs[j]? =some x/\e x=true/\(∀ (m:Nat) x,m<j->xs[m]? =some x->e x=false)/\Q (.int (j:Int)) H
@[irreducible] noncomputable def AM (te:TE) (J:It) (σ₀:St) (H1:Hp) (Q:VK):Prop:=LC te J σ₀ H1 Q
def u9: @AM= @LC:=by
 funext te J U H Q
 unfold AM
 rfl
@[irreducible] noncomputable def Dn (tc:TT) (te:TE) (J:It) (σ₀:St) (H1:Hp) (Q:VK):Prop:=LCg (fU 0) tc te J σ₀ H1 Q
def xl: @Dn= @LCg (fU 0):=by
 funext tc te J U H Q
 unfold Dn
 rfl
abbrev gl (is:List Nat):AV:=λvs U H Q=>vs.length=is.length/\Q (wa U is vs) H
@[irreducible] noncomputable def LCt (K:W.Frag) (n:Nat) (te:TE) (J:It) (σ₀:St) (H1:Hp) (Q:VK):Prop:=LCg (Aw K n (gl (List.range n))) yes te J σ₀ H1 Q
def D4 {K:W.Frag}{n:Nat}:LCt K n=LCg (Aw K n (gl (List.range n))) yes:=by
 funext te J U H Q
 unfold LCt
 rfl
abbrev IZ:List Str->List V->List (Key×V)
 |k::ks,x::xs=>(.inr k,x)::IZ ks xs
 |_,_=>[]
@[irreducible] noncomputable def Fg (ks:List Str) (p:Addr) (xs:List V) (H:Hp) (Q:VK):Prop:=H p=some (.dK [])/\Q (.ref p) (upd H p (.dK (CA [] (IZ ks xs))))
mutual
noncomputable def wE (G:Gx):Ex->St->Hp->VK->XK->Prop
 | .v i,U,H,Q,_=>match U[i]? with
  |some (some x)=>Q x H
  |_=>False
 | .int i,_,H,Q,_=>Q (.int i) H
 | .bl b,_,H,Q,_=>Q (.bl b) H
 | .non,_,H,Q,_=>Q .non H
 | .str x,_,H,Q,_=>Q (.str x) H
 | .gl x,_,H,Q,_=>match G.R.gl x with
  |some v=>Q v H
  |none=>False
 | .bin op a b,U,H,Q,E=>wE G a U H (λx H1=>wE G b U H1 (λy H2=>CG G.R.K op x y H2 Q) E) E
 | .neg a,U,H,Q,E=>wE G a U H (λx H1=>match x with| .int i=>Q (.int (-i)) H1|_=>False) E
 | .not a,U,H,Q,E=>wE G a U H (λx H1=>match x with| .bl c=>Q (.bl (!c)) H1|_=>False) E
 | .and a b,U,H,Q,E=>wE G a U H (λx H1=>match x with| .bl c=>gy c (wE G b U H1 Q E) (Q (.bl false) H1)|_=>False) E
 | .or a b,U,H,Q,E=>wE G a U H (λx H1=>match x with| .bl c=>gy c (Q (.bl true) H1) (wE G b U H1 Q E)|_=>False) E
 | .cmp op a b,U,H,Q,E=>wE G a U H (λx H1=>wE G b U H1 (λy H2=>jK G.R.K op x y H2 Q) E) E
 | .cmp2 o1 o2 a b c,U,H,Q,E=>wE G a U H (λx H1=>wE G b U H1 (λy H2=>jK G.R.K o1 x y H2 λz H3=>match z with| .bl k=>gy k (wE G c U H3 (λw H4=>jK G.R.K o2 y w H4 Q) E) (Q (.bl false) H3)|_=>False) E) E
 | .qv o1 o2 o3 a b c d,U,H,Q,E=>wE G a U H (λx H1=>wE G b U H1 (λy H2=>jK G.R.K o1 x y H2 λz H3=>match z with| .bl k=>gy k (wE G c U H3 (λw H4=>jK G.R.K o2 y w H4 λz' H5=>match z' with| .bl k'=>gy k' (wE G d U H5 (λw2 H6=>jK G.R.K o3 w w2 H6 Q) E) (Q (.bl false) H5)|_=>False) E) (Q (.bl false) H3)|_=>False) E) E
 | .ife c a b,U,H,Q,E=>wT G c U H (λk H1=>gy k (wE G a U H1 Q E) (wE G b U H1 Q E)) E
 | .tup es,U,H,Q,E=>wEs G es U H (λxs H1=>iA xs H1 Q) E
 | .lst es,U,H,Q,E=>wEs G es U H (λxs H1=>yt xs H1 Q) E
 | .ix a i,U,H,Q,E=>wE G a U H (λx H1=>wE G i U H1 (λy H2=>yi G.R.K x y H2 Q) E) E
 | .sl a lo hi,U,H,Q,E=>wE G a U H (λx H1=>wO G lo U H1 (λl H2=>wO G hi U H2 (λu H3=>yn G.R.K x l u H3 Q) E) E) E
 | .fld a f,U,H,Q,E=>wE G a U H (λx H1=>nZ G f x H1 Q) E
 | .call f es,U,H,Q,E=>G.cm=true/\wEs G es U H (λvs H1=>G.Ψ f (vs++dflt G f es.len) H1 Q E) E
 | .meth a m es,U,H,Q,E=>G.cm=true/\wE G a U H (λx H1=>∃ p i dx fs f,x=.ref p/\H1 p=some (.ins (G.R.cad i) dx fs)/\fs.lookup m=none/\G.T.me.lookup (i,m)=some f/\
   wEs G es U H1 (λvs H2=>G.Ψ f (x::(vs++dflt G f (es.len+1))) H2 Q E) E) E
 | .lm m a es,U,H,Q,E=>wE G a U H (λx H1=>∃ p xs0,x=.ref p/\H1 p=some (.lst xs0)/\wEs G es U H1 (λvs H2=>∃ xs,H2 p=some (.lst xs)/\FH m p xs vs H2 Q) E) E
 | .make c es,U,H,Q,E=>G.cm=true/\match G.T.ini.lookup c with
  |none=>G.T.ini0.contains c=true/\wEs G es U H (λvs H1=>vs.length=1/\∀ x,H1 x=none->Q (.ref x) (upd H1 x (.exc (G.R.cad c) none [] true))) E
  |some f=>if G.T.xc.contains c=true then wEs G es U H (λvs H1=>vs.length<=1000/\∀ x,H1 x=none->G.Ψ f (.ref x::(vs++dflt G f (es.len+1))) (upd H1 x (.exc (G.R.cad c) none [] true)) (λv H2=>v=.non/\Q (.ref x) H2) E) E
   else wEs G es U H (λvs H1=>∀ x dx,H1 x=none->H1 dx=none->dx≠x->G.Ψ f (.ref x::(vs++dflt G f (es.len+1))) (upd (upd H1 dx (.own x)) x (.ins (G.R.cad c) dx [])) (λv H2=>v=.non/\Q (.ref x) H2) E) E
 | .bini es,U,H,Q,E=>wEs G es U H (λvs H1=>∃ a i dx fs fr v,vs=[.ref a,v]/\H1 a=some (.exc (G.R.cad i) dx fs fr)/\G.T.xc.contains i=true/\Q .non H1) E
 | .cini c es,U,H,Q,E=>G.cm=true/\match G.T.cin.lookup c with
  |some f=>wEs G es U H (λvs H1=>G.Ψ f (vs++dflt G f es.len) H1 Q E) E
  |none=>False
 | .bf b es,U,H,Q,E=>wEs G es U H (λvs H1=>nX G b vs H1 Q) E
 | .isi a c,U,H,Q,E=>wE G a U H (λx H1=>jW G c x H1 Q) E
 | .lc elt sel it,U,H,Q,E=>G.cm=true/\wI G it U H (λJ H1=>AM (λσ' H' Q'=>wE G elt σ' H' Q' (λ_ _=>False)) J (none::fh U sel) H1 Q) E
 | .lci elt c sel it,U,H,Q,E=>G.cm=true/\wI G it U H (λJ H1=>Dn (λσ' H' Q'=>wT G c σ' H' Q' (λ_ _=>False)) (λσ' H' Q'=>wE G elt σ' H' Q' (λ_ _=>False)) J (none::fh U sel) H1 Q) E
 | .lct elt n sel it,U,H,Q,E=>G.cm=true/\wI G it U H (λJ H1=>LCt G.R.K n (λσ' H' Q'=>wE G elt σ' H' Q' (λ_ _=>False)) J (List.replicate n none++fh U sel) H1 Q) E
 | .dnew,_,H,Q,_=>newD H Q
 | .up a,U,H,Q,E=>wE G a U H (λx H1=>JK x H1 Q) E
 | .isiT a cs,U,H,Q,E=>wE G a U H (λx H1=>∀ p,H1 p=none->n8 G cs x (upd H1 p (.tup (cs.map λc=>.ref (G.R.cad c)))) Q) E
 | .mk0 c,_,H,Q,_=>u0 (G.R.cad c) H Q
 | .disp ks es,U,H,Q,E=>∀ p,H p=none->wEs G es U (upd H p (.dK [])) (λxs H2=>Fg ks p xs H2 Q) E
 | .dget a k d,U,H,Q,E=>wE G a U H (λx H1=>∃ p kvs0,x=.ref p/\H1 p=some (.dK kvs0)/\wE G k U H1 (λy H2=>wE G d U H2 (λw H3=>Ie p y w H3 Q) E) E) E
 | .lix a b,U,H,Q,E=>wE G a U H (λx H1=>∃ p xs0,x=.ref p/\H1 p=some (.lst xs0)/\wE G b U H1 (λy H2=>Ht G.R.K p y H2 Q) E) E
 | .vals tp a,U,H,Q,E=>G.cm=true/\wE G a U H (λx H1=>E7 tp x H1 Q) E
 | .dzip a b,U,H,Q,E=>G.cm=true/\wE G a U H (λx H1=>wE G b U H1 (λy H2=>Fd G.R.K x y H2 Q) E) E
noncomputable def wT (G:Gx):Tx->St->Hp->(Bool->Hp->Prop)->XK->Prop
 | .not a,U,H,Q,E=>wT G a U H (λc H1=>Q (!c) H1) E
 | .and a b,U,H,Q,E=>wT G a U H (λc H1=>gy c (wT G b U H1 Q E) (Q false H1)) E
 | .or a b,U,H,Q,E=>wT G a U H (λc H1=>gy c (Q true H1) (wT G b U H1 Q E)) E
 | .cmp op a b,U,H,Q,E=>wE G a U H (λx H1=>wE G b U H1 (λy H2=>jK G.R.K op x y H2 λz H3=>match z with| .bl k=>Q k H3|_=>False) E) E
 | .cmp2 o1 o2 a b c,U,H,Q,E=>wE G a U H (λx H1=>wE G b U H1 (λy H2=>jK G.R.K o1 x y H2 λz H3=>match z with| .bl k=>gy k (wE G c U H3 (λw H4=>jK G.R.K o2 y w H4 λz H5=>match z with| .bl k=>Q k H5|_=>False) E) (Q false H3)|_=>False) E) E
 | .val e,U,H,Q,E=>wE G e U H (λx H1=>Ed G.R.K x H1 Q) E
noncomputable def wEs (G:Gx):fB->St->Hp->(List V->Hp->Prop)->XK->Prop
 | .nil,_,H,Q,_=>Q [] H
 | .cons e es,U,H,Q,E=>wE G e U H (λx H1=>wEs G es U H1 (λxs H2=>Q (x::xs) H2) E) E
noncomputable def wO (G:Gx):Hi->St->Hp->(Option Int->Hp->Prop)->XK->Prop
 | .no,_,H,Q,_=>Q none H
 | .yes e,U,H,Q,E=>wE G e U H (λx H1=>match x with| .int i=>Q (some i) H1|_=>False) E
noncomputable def wI (G:Gx):Ci->St->Hp->(It->Hp->Prop)->XK->Prop
 | .rng1 a,U,H,R,E=>wE G a U H (λx H1=>match x with| .int j=>-(2 ^ 62)<=j/\j<2 ^ 62/\R (Eg 0 j.toNat) H1|_=>False) E
 | .rng2 a b,U,H,R,E=>wE G a U H (λx H1=>wE G b U H1 (λy H2=>match x,y with| .int i,.int j=>(-(2 ^ 62)<=i/\i<2 ^ 62/\ -(2 ^ 62)<=j/\j<2 ^ 62)/\R (Eg i (j-i).toNat) H2|_,_=>False) E) E
 | .rng3 a b c,U,H,R,E=>wE G a U H (λx H1=>wE G b U H1 (λy H2=>wE G c U H2 (λw H3=>match x,y with| .int i,.int j=>w=.int (-1)/\(-(2 ^ 62)<=i/\i<2 ^ 62/\ -(2 ^ 62)<=j/\j<2 ^ 62)/\R (GD i (i-j).toNat) H3|_,_=>False) E) E) E
 | .enm a,U,H,R,E=>wE G a U H (λx H1=>match x with| .ref l=>zH l H1 R|_=>False) E
 | .enf a,U,H,R,E=>wE G a U H (λx H1=>match x with| .ref l=>zg G.R.K l H1 R|_=>False) E
 | .seq a,U,H,R,E=>wE G a U H (λx H1=>match x with| .ref p=>pR G.R.K p H1 R|_=>False) E
 | .zip a b,U,H,R,E=>wE G a U H (λx H1=>wE G b U H1 (λy H2=>zR G.R.K x y H2 R) E) E
end
abbrev Hy (D:Ends)(f:St->Hp->Prop):Ends:={ D with nx:=f }
abbrev Be (D:Ends)(N:St->Hp->Prop):Ends:={ D with nx:=N,ct:=N,bk:=D.nx }
abbrev Js (D:Ends)(i:Nat):Ends:={ nx:=λσ' H'=>D.nx (σ'.set i none) H',rt:=D.rt,bk:=λσ' H'=>D.bk (σ'.set i none) H',ct:=λσ' H'=>D.ct (σ'.set i none) H' }
abbrev wG (U:St)(t:Hb)(K:W.Frag)(x:V)(H:Hp)(Q:St->Prop):Prop:=match t with
 | .nm i=>Q (U.set i (some x))
 | .tp is=>∃ a xs,x=.ref a/\(bc K H a xs\/bg K H a xs)/\xs.length=is.length/\Q (wa U is xs)
 | .nt i is=>∃ a y b ys,x=.ref a/\bc K H a [y,.ref b]/\bc K H b ys/\ys.length=is.length/\Q (wa (U.set i (some y)) is ys)
@[irreducible] noncomputable def fZ (J:It) (D:Ends) (F:(St->Hp->Prop)->V->St->Hp->Prop) (U:St) (H1:Hp):Prop:=∃ W:Nat->Nat->St->Hp->Prop,(∃ m,W 0 m U H1)/\∀ i m U H,W i m U H->
 (J.stop i H/\D.nx U H)\/(J.go i H/\∃ N:St->Hp->Prop,(∀ σ' H',N σ' H'->∃ m',m'<m/\W (i+1) m' σ' H')/\∀ x H',J.yld i H x H'->F N x U H')
mutual
noncomputable def wS:Sx->Gx->Ends->(St->XK)->St->Hp->Prop
 | .asg i e,G,D,E,U,H=>wE G e U H (λx H1=>D.nx (U.set i (some x)) H1) (E U)
 | .asgT is e,G,D,E,U,H=>G.cm=true/\wE G e U H (λx H1=>wG U (.tp is) G.R.K x H1 λσ1=>D.nx σ1 H1) (E U)
 | .par is es,G,D,E,U,H=>G.cm=true/\wEs G es U H (λxs H1=>xs.length=is.length/\D.nx (wa U is xs) H1) (E U)
 | .sub o i v,G,D,E,U,H=>wE G v U H (λy H1=>wE G o U H1 (λov H2=>wE G i U H2 (λiv H3=>mr ov iv y H3 (λH4=>D.nx U H4)) (E U)) (E U)) (E U)
 | .fld o f v,G,D,E,U,H=>wE G v U H (λy H1=>wE G o U H1 (λx H2=>yN G f x y H2 (λH3=>D.nx U H3)) (E U)) (E U)
 | .aug i op e,G,D,E,U,H=>(match U[i]? with|some (some x)=>wE G e U H (λy H1=>Hm op x y H1 λz H2=>D.nx (U.set i (some z)) H2) (E U)|_=>False)
 | .augS o i op e,G,D,E,U,H=>wE G o U H (λov H1=>wE G i U H1 (λiv H2=>vo G.R.K ov iv H2 (λx H3=>wE G e U H3 (λy H4=>Hm op x y H4 (λz H5=>mr ov iv z H5 (λH6=>D.nx U H6))) (E U))) (E U)) (E U)
 | .ret e,G,D,E,U,H=>wE G e U H D.rt (E U)
 | .retN,_,D,_,_,H=>D.rt .non H
 | .pass,_,D,_,U,H=>D.nx U H
 | .brk,_,D,_,U,H=>D.bk U H
 | .cont,_,D,_,U,H=>D.ct U H
 | .expr e,G,D,E,U,H=>wE G e U H (λ_ H1=>D.nx U H1) (E U)
 | .ife c a b,G,D,E,U,H=>wT G c U H (λk H1=>gy k (wB a G D E U H1) (wB b G D E U H1)) (E U)
 | .whl c b,G,D,E,U,H=>∃ W:Nat->St->Hp->Prop,(∃ m,W m U H)/\∀ m U H,W m U H->wT G c U H (λk H1=>gy k (∃ N:St->Hp->Prop,(∀ σ' H',N σ' H'->∃ m',m'<m/\W m' σ' H')/\wB b G (Be D N) E U H1) (D.nx U H1)) (E U)
 | .for t it b,G,D,E,U,H=>G.cm=true/\wI G it U H (λJ H1=>fZ J D (λN x U H'=>wG U t G.R.K x H' λσ2=>wB b G (Be D N) E σ2 H') U H1) (E U)
 | .rais e,G,_,E,U,H=>G.cm=true/\wE G e U H (λv H1=>∃ a i dx fs,v=.ref a/\H1 a=some (.exc (G.R.cad i) dx fs true)/\G.T.xc.contains i=true/\E U a (upd H1 a (.exc (G.R.cad i) dx fs false))) (E U)
 | .tryx b hs,G,D,_,U,H=>G.cm=true/\wB b G D (λσ' e H'=>wH hs G D σ' e H') U H
noncomputable def wB:mh->Gx->Ends->(St->XK)->St->Hp->Prop
 | .nil,_,D,_,U,H=>D.nx U H
 | .cons s r,G,D,E,U,H=>wS s G (Hy D λσ1 H1=>wB r G D E σ1 H1) E U H
noncomputable def wH:yf->Gx->Ends->St->Addr->Hp->Prop
 | .nil,_,_,_,_,_=>False
 | .cons c i b hs,G,D,U,e,H=>∃ j dx fs k,H e=some (.exc (G.R.cad j) dx fs false)/\G.T.xc.contains j=true/\G.T.sub.lookup (j,c)=some k/\
   gy k (wB b { G with cm:=false } (Js D i) (λ_ _ _=>False) (U.set i (some (.ref e))) H)
    (wH hs G D U e H)
end
end L3
namespace L3
open PySem PySem.Spec L2 PyProof.Rows
structure Sn where
 T:Tab
 sc:Scope
 N:List Str
abbrev Sn.kh (S:Sn)(x:Str):Bool:=decide (S.sc.names.lookup x=some .globalImplicit)&& !(x ==("__debug__":Str))
abbrev Sn.Fb (S:Sn)(x:Str):Bool:=(decide (S.sc.names.lookup x=some .local)||decide (S.sc.names.lookup x=some .cell)||decide (S.sc.names.lookup x=some .free))&& !(x ==("__debug__":Str))&& !(x ==("__classdict__":Str))
abbrev Sn.loc (S:Sn)(i:Nat)(x:Str):Bool:=decide (S.N[i]? =some x)&&(decide (S.sc.names.lookup x=some .local)||decide (S.sc.names.lookup x=some .cell))
abbrev qo:Expr->Bool
 | .ListComp .. | .SetComp .. | .DictComp ..=>false
 |_=>true
abbrev cT:Expr->Bool
 | .Set ..=>false
 |_=>true
abbrev eD:Expr->Bool
 | .Slice ..=>false
 |_=>true
abbrev fJ:Expr->Bool
 | .Call (.Name _ _) [] [] _=>false
 |_=>true
abbrev plainT:Expr->Bool
 | .UnaryOp .Not _ _| .BoolOp .. | .IfExp .. | .Compare ..=>false
 |_=>true
abbrev wR:Bf->String
 | .len=>"len"| .list=>"list"| .tuple=>"tuple"| .int=>"int"| .str=>"str"| .min=>"min"| .max=>"max"| .abs=>"abs"| .all=>"all"| .any=>"any"| .dict=>"dict"
abbrev xh:Lm->String
 | .append=>"append"| .extend=>"extend"| .insert=>"insert"| .pop=>"pop"| .clear=>"clear"| .reverse=>"reverse"| .count=>"count"
abbrev iQ:List String:=["int","bool","str","list","tuple","dict","ValueError"]
abbrev yu (S:Sn):Cl->Expr->Bool
 | .own c,.Name x _=>S.kh x&&decide (S.T.gcl.lookup x=some c)
 | .ty n,.Name x _=>S.kh x&&decide (x=(n:Str))&&S.T.gbl.contains x&&iQ.contains n
 |_,_=>false
abbrev rX (S:Sn):List Nat->List Expr->Bool
 | [],[]=>true
 |c::cs,.Name x _::es=>S.kh x&&decide (S.T.gcl.lookup x=some c)&&rX S cs es
 |_,_=>false
abbrev dz (outer inner:Scope):Scope:=
 { inner with names:=inner.names.map λ(n,k)=>if (k ==.free&&outer.kind ==.function&&outer.names.lookup n ==some .cell) then (n,.cell) else (n,k) }
abbrev fg (S:Sn)(scope:Scope)(xs:List Str)(sel:List Nat):Bool:=
 decide (scope.kind=.function)&&decide (S.sc.kind=.function)&&scope.names.all (λy=>y.2 != .cell&&(y.2 != .local||decide (scope.names.lookup y.1=some .local))&&(y.2 != .free||(decide (S.sc.names.lookup y.1=some .cell))))&&xs.all (λx=>decide (scope.names.lookup x=some .local))&&
 sel.all (λi=>match S.N[i]? with|some y=>decide (S.sc.names.lookup y=some .cell)&&decide ((dz S.sc scope).names.lookup y=some .cell)|none=>false)&&decide ((xs++sel.filterMap λi=>S.N[i]?).Nodup)
abbrev FA:List Expr->List Str
 | .Name x _::r=>x::FA r
 |_=>[]
abbrev vE (S:Sn):List Nat->List Expr->Bool
 | [],[]=>true
 |i::is,.Name x _::r=>decide (S.N[i]? =some x)&&decide (S.sc.names.lookup x=some .local)&&vE S is r
 |_,_=>false
abbrev tf:List Str->List (Option Expr)->Bool
 | [],[]=>true
 |k::ks,some (.Constant (.str x) _ _)::r=>decide (k=x)&&tf ks r
 |_,_=>false
mutual
noncomputable def mE (S:Sn):Ex->Expr->Bool
 | .v i,e=>match e with| .Name x _=>decide (S.N[i]? =some x)&&S.Fb x|_=>false
 | .int i,e=>match e with| .Constant y1 _ _=>(match y1 with| .int j=>decide (i=j)|_=>false)|_=>false
 | .bl i,e=>match e with| .Constant y1 _ _=>(match y1 with| .bool j=>decide (i=j)|_=>false)|_=>false
 | .non,e=>match e with| .Constant y1 _ _=>(match y1 with| .none=>true|_=>false)|_=>false
 | .str i,e=>match e with| .Constant y1 _ _=>(match y1 with| .str j=>decide (i=j)|_=>false)|_=>false
 | .gl x,e=>match e with| .Name y _=>decide (x=y)&&S.kh y|_=>false
 | .bin op a b,e=>match e with| .BinOp a' op' b' _=>decide (op=op')&&mE S a a'&&mE S b b'|_=>false
 | .neg a,e=>match e with| .UnaryOp y1 a' _=>(match y1 with| .USub=>mE S a a'|_=>false)|_=>false
 | .not a,e=>match e with| .UnaryOp y1 a' _=>(match y1 with| .Not=>mE S a a'|_=>false)|_=>false
 | .and a b,e=>match e with| .BoolOp y1 y2 p=>(match y1 with| .And=>(match y2 with|a'::b'::r=>mE S a a'&&mE S b (match r with| []=>b'|_=>.BoolOp .And (b'::r) p)|_=>false)|_=>false)|_=>false
 | .or a b,e=>match e with| .BoolOp y1 y2 p=>(match y1 with| .Or=>(match y2 with|a'::b'::r=>mE S a a'&&mE S b (match r with| []=>b'|_=>.BoolOp .Or (b'::r) p)|_=>false)|_=>false)|_=>false
 | .cmp op a b,e=>match e with| .Compare a' y1 y2 _=>(match y1 with| [op']=>(match y2 with| [b']=>decide (op=op')&&mE S a a'&&mE S b b'&&cT b'|_=>false)|_=>false)|_=>false
 | .cmp2 o1 o2 a b c,e=>match e with| .Compare a' y1 y2 _=>(match y1 with| [p1,p2]=>(match y2 with| [b',c']=>decide (o1=p1)&&decide (o2=p2)&&mE S a a'&&mE S b b'&&mE S c c'&&cT c'|_=>false)|_=>false)|_=>false
 | .qv o1 o2 o3 a b c d,_=>false
 | .ife c a b,e=>match e with| .IfExp c' a' b' _=>mT S c c'&&mE S a a'&&mE S b b'|_=>false
 | .tup es,e=>match e with| .Tuple es' _ _=>jU S es es'|_=>false
 | .lst es,e=>match e with| .List es' _=>jU S es es'|_=>false
 | .ix a i,e=>match e with| .Subscript a' i' _=>mE S a a'&&mE S i i'&&eD i'|_=>false
 | .sl a lo hi,e=>match e with| .Subscript a' y1 _=>(match y1 with| .Slice lo' hi' y2 _=>(match y2 with|none=>mE S a a'&&mO S lo lo'&&mO S hi hi'|_=>false)|_=>false)|_=>false
 | .fld a f,e=>match e with| .Attribute a' f' _=>mE S a a'&&decide (f=f')&&fJ a'|_=>false
 | .call f es,e=>match e with| .Call y1 es' y2 _=>(match y1 with| .Name x _=>(match y2 with| []=>S.kh x&&decide (S.T.gfn.lookup x=some f)&&jU S es es'|_=>false)|_=>false)|_=>false
 | .meth a m es,e=>match e with| .Call y1 es' y2 q=>(match y1 with| .Attribute a' m' p=>(match y2 with| []=>mE S a a'&&decide (m=m')&&jU S es es'&&fJ a'&&(p.endLine ==q.line)&&decide (es.len<20)|_=>false)|_=>false)|_=>false
 | .dget a k d,_=>false
 | .lix a b,_=>false
 | .lm m a es,e=>match e with| .Call y1 es' y2 q=>(match y1 with| .Attribute a' m' p=>(match y2 with| []=>mE S a a'&&decide (m'=(xh m:Str))&&jU S es es'&&fJ a'&&(p.endLine ==q.line)&&decide (es.len<20)|_=>false)|_=>false)|_=>false
 | .make c es,e=>match e with| .Call y1 es' y2 _=>(match y1 with| .Name x _=>(match y2 with| []=>S.kh x&&decide (S.T.gcl.lookup x=some c)&&jU S es es'|_=>false)|_=>false)|_=>false
 | .bini es,e=>match e with| .Call y1 es' y2 q=>(match y1 with| .Attribute y3 m p=>(match y3 with| .Name x _=>(match y2 with| []=>S.kh x&&decide (m=("__init__":Str))&&S.T.gbi.contains x&&jU S es es'&&decide (es.len=2)&&(p.endLine ==q.line)|_=>false)|_=>false)|_=>false)|_=>false
 | .cini c es,_=>false
 | .bf b es,e=>match e with| .Call y1 es' y2 _=>(match y1 with| .Name x _=>(match y2 with| []=>S.kh x&&decide (x=(wR b:Str))&&S.T.gbl.contains x&&jU S es es'&&decide (0<es.len)|_=>false)|_=>false)|_=>false
 | .isi a c,e=>match e with| .Call y1 y2 y3 _=>(match y1 with| .Name x _=>(match y3 with| []=>(match y2 with| [a',c']=>S.kh x&&decide (x=("isinstance":Str))&&S.T.gbl.contains x&&mE S a a'&&yu S c c'|_=>false)|_=>false)|_=>false)|_=>false
 | .lc elt sel it,e=>match e with| .ListComp elt' y1 scope _=>(match y1 with| [y2]=>(match y2 with|⟨y3,iter,y4,y5⟩=>(match y3 with| .Name x px=>(match y4 with| []=>(match y5 with|0=>fg S scope [x] sel&&mI S it (.Name x px) iter&&mE { S with sc:=dz S.sc scope,N:=x::sel.filterMap λi=>S.N[i]? } elt elt'&&cT iter|_=>false)|_=>false)|_=>false))|_=>false)|_=>false
 | .lci elt c sel it,e=>match e with| .ListComp elt' y1 scope _=>(match y1 with| [y2]=>(match y2 with|⟨y3,iter,y4,y5⟩=>(match y3 with| .Name x px=>(match y4 with| [c']=>(match y5 with|0=>fg S scope [x] sel&&mI S it (.Name x px) iter&&mE { S with sc:=dz S.sc scope,N:=x::sel.filterMap λi=>S.N[i]? } elt elt'&&mT { S with sc:=dz S.sc scope,N:=x::sel.filterMap λi=>S.N[i]? } c c'&&cT iter|_=>false)|_=>false)|_=>false))|_=>false)|_=>false
 | .lct elt n sel it,_=>false
 | .dnew,_=>false
 | .up a,_=>false
 | .isiT a cs,e=>match e with| .Call y1 y2 y3 _=>(match y1 with| .Name x _=>(match y3 with| []=>(match y2 with| [a',y4]=>(match y4 with| .Tuple es' _ _=>S.kh x&&decide (x=("isinstance":Str))&&S.T.gbl.contains x&&mE S a a'&&rX S cs es'&&decide (cs.length<=100)|_=>false)|_=>false)|_=>false)|_=>false)|_=>false
 | .mk0 c,e=>match e with| .Call y1 y2 y3 _=>(match y1 with| .Name x _=>(match y2 with| []=>(match y3 with| []=>S.kh x&&decide (S.T.gcl.lookup x=some c)&&S.T.inip.contains c|_=>false)|_=>false)|_=>false)|_=>false
 | .disp ks es,_=>false
 | .vals tp a,_=>false
 | .dzip a b,e=>match e with| .Call y1 y2 y3 _=>(match y1 with| .Name x _=>(match y3 with| []=>(match y2 with| [y4]=>(match y4 with| .Call y5 y6 y7 _=>(match y5 with| .Name y _=>(match y7 with| []=>(match y6 with| [a',b']=>S.kh x&&decide (x=("dict":Str))&&S.T.gbl.contains x&&S.kh y&&decide (y=("zip":Str))&&S.T.gbl.contains y&&mE S a a'&&mE S b b'&&notStar a'&&notStar b'|_=>false)|_=>false)|_=>false)|_=>false)|_=>false)|_=>false)|_=>false)|_=>false
noncomputable def mT (S:Sn):Tx->Expr->Bool
 | .not a,e=>match e with| .UnaryOp y1 a' _=>(match y1 with| .Not=>mT S a a'|_=>false)|_=>false
 | .and a b,e=>match e with| .BoolOp y1 y2 p=>(match y1 with| .And=>(match y2 with|a'::b'::r=>mT S a a'&&mT S b (match r with| []=>b'|_=>.BoolOp .And (b'::r) p)|_=>false)|_=>false)|_=>false
 | .or a b,e=>match e with| .BoolOp y1 y2 p=>(match y1 with| .Or=>(match y2 with|a'::b'::r=>mT S a a'&&mT S b (match r with| []=>b'|_=>.BoolOp .Or (b'::r) p)|_=>false)|_=>false)|_=>false
 | .cmp op a b,e=>match e with| .Compare a' y1 y2 _=>(match y1 with| [op']=>(match y2 with| [b']=>decide (op=op')&&mE S a a'&&mE S b b'&&cT b'|_=>false)|_=>false)|_=>false
 | .cmp2 o1 o2 a b c,e=>match e with| .Compare a' y1 y2 _=>(match y1 with| [p1,p2]=>(match y2 with| [b',c']=>decide (o1=p1)&&decide (o2=p2)&&mE S a a'&&mE S b b'&&mE S c c'&&cT c'|_=>false)|_=>false)|_=>false
 | .val e,e'=>mE S e e'&&plainT e'
noncomputable def jU (S:Sn):fB->List Expr->Bool
 | .nil,es=>es.isEmpty
 | .cons e es,l=>match l with|e'::es'=>mE S e e'&&notStar e'&&jU S es es'| []=>false
noncomputable def mO (S:Sn):Hi->Option Expr->Bool
 | .no,o=>o.isNone
 | .yes e,o=>match o with|some e'=>mE S e e'|none=>false
noncomputable def mI (S:Sn):Ci->Expr->Expr->Bool
 | .rng1 a,_,e=>match e with| .Call y1 y2 y3 _=>(match y1 with| .Name x _=>(match y3 with| []=>(match y2 with| [a']=>S.kh x&&decide (x=("range":Str))&&S.T.gbl.contains x&&mE S a a'&&notStar a'|_=>false)|_=>false)|_=>false)|_=>false
 | .rng2 a b,_,e=>false
 | .rng3 a b c,_,e=>match e with| .Call y1 y2 y3 _=>(match y1 with| .Name x _=>(match y3 with| []=>(match y2 with| [a',b',c']=>S.kh x&&decide (x=("range":Str))&&S.T.gbl.contains x&&mE S a a'&&mE S b b'&&mE S c c'&&notStar a'&&notStar b'&&notStar c'|_=>false)|_=>false)|_=>false)|_=>false
 | .enm a,t,e=>match e with| .Call y1 y2 y3 _=>(match y1 with| .Name x _=>(match y3 with| []=>(match y2 with| [a']=>S.kh x&&decide (x=("enumerate":Str))&&S.T.gbl.contains x&&mE S a a'&&notStar a'&&(match t with| .Tuple ..=>true|_=>false)|_=>false)|_=>false)|_=>false)|_=>false
 | .enf a,t,e=>match e with| .Call y1 y2 y3 _=>(match y1 with| .Name x _=>(match y3 with| []=>(match y2 with| [a']=>S.kh x&&decide (x=("enumerate":Str))&&S.T.gbl.contains x&&mE S a a'&&notStar a'&&(match t with| .Tuple ..=>true|_=>false)|_=>false)|_=>false)|_=>false)|_=>false
 | .seq a,_,e=>mE S a e
 | .zip a b,t,e=>match e with| .Call y1 y2 y3 _=>(match y1 with| .Name x _=>(match y3 with| []=>(match y2 with| [a',b']=>S.kh x&&decide (x=("zip":Str))&&S.T.gbl.contains x&&mE S a a'&&mE S b b'&&notStar a'&&notStar b'&&(match t with| .Tuple ..=>true|_=>false)|_=>false)|_=>false)|_=>false)|_=>false
end
end L3
namespace L3
open PySem PySem.Spec L2
variable {e:Expr}
def plainT_ok (h:plainT e=true)(env:Env)(whole:Sem Value):isTrue e env whole=(do let v <-whole;standAt e.pos;holding [v] (truthy v)):=by
 cases e<;>first|rfl|(cases h)|skip
 case UnaryOp op a p=>cases op<;>first|rfl|cases h
def bB (h:cT e=true)(env:Env)(x:Value):foldedSetIterable e env x=pure x:=by
 cases e<;>first|rfl|cases h
def dH (h:cT e=true)(op:CmpOp):behindInMarks op e=false:=by
 cases e<;>first|rfl|cases h
def gk (h:qo e=true)(t:Option Expr)(n:Nat)(env:Env):swapsWith e t n env=pure false:=by
 cases e<;>first|rfl|cases h
variable {o:Expr}
def cx (h:fJ o=true)(a:Str)(env:Env)(whole:Sem Value):attributeBase o a env whole=whole:=by
 cases o with
 |Call f as ks p=>
  cases f<;>first|rfl|skip
  case Name x q=>
   cases as with
   |nil=>cases ks with
    |nil=>cases h
    |cons k ks=>rfl
   |cons b bs=>rfl
 |_=>rfl
variable {b:Expr}
def pO (h:eD b=true):se b:=by
 intro o i;cases b<;>first|rfl|cases h
variable {X:Cx}
def PE.cn {t:TE}(h:PE X e t):PE X e (λU H R=>∃ Q,t U H Q/\∀ x H1,Q x H1->R x H1):=λY s U H R I ⟨Q,q,i⟩=>
 au (h Y s U H Q I q) λ_ _ ⟨v,H',J,r,z⟩=>⟨v,H',J,r,i _ _ z⟩
variable {t:TT}
def PT.cn (h:PT X e t):PT X e (λU H R=>∃ Q,t U H Q/\∀ x H1,Q x H1->R x H1):=λY s U H R I ⟨Q,q,i⟩=>
 au (h Y s U H Q I q) λ_ _ ⟨H',J,z⟩=>⟨H',J,i _ _ z⟩
def PA.cn {e:List Expr}{t:TA}(h:PA X e t):PA X e (λU H R=>∃ Q,t U H Q/\∀ x H1,Q x H1->R x H1):=λpos Y s U H R I ⟨Q,q,i⟩=>
 au (h pos Y s U H Q I q) λ_ _ ⟨v,H',J,r,z⟩=>⟨v,H',J,r,i _ _ z⟩
def PE.imp {t t':TE}(h:PE X e t)(hi:∀ U H Q,t' U H Q->t U H Q):PE X e t':=λY s U H Q I q=>h Y s U H Q I (hi _ _ _ q)
def PT.imp {t':TT}(h:PT X e t)(hi:∀ U H Q,t' U H Q->t U H Q):PT X e t':=λY s U H Q I q=>h Y s U H Q I (hi _ _ _ q)
def PS.imp {e:Stmt}{t t':TS}(h:PS X e t)(hi:∀ D U H,t' D U H->t D U H):PS X e t':=λY s U H D I q=>h Y s U H D I (hi _ _ _ q)
structure vz (P:Program) (w:World) (K:W.Frag) (mg:JT) (base:Heap) (k:Nat) (f:Addr) (d:ai) (sp:Sp):Prop where
 fact:∃ fd,cU P w K mg base (w4 P w) k f fd d.ps sp/\∀ j,∃ ds,Binds K fd d.ps ds/\Vals (d.dfl.drop j) ds
 own:∀ fd oc od osl,K.lookup f=some ⟨oc,od,.func fd,osl⟩->cU P w K mg base (w4 P w) k f fd d.ps sp
structure A4 (K:W.Frag) (mg:JT) (T:Tab) (R:Rt):Prop where
 gfn:∀ x f,T.gfn.lookup x=some f->mg x=some (.ref (R.fad f))/\W.keepIn K (.ref (R.fad f))=true/\∃ d,T.fns[f]? =some d
 gcl:∀ x c,T.gcl.lookup x=some c->mg x=some (.ref (R.cad c))
 gbl:∀ x,T.gbl.contains x=true->mg x=none/\x≠"__name__"
 gbi:∀ x,T.gbi.contains x=true->∃ B,mg x=some (.ref B)/\IX K B
 gl:∀ x v,R.gl x=some v->∃ u,mg x=some u/\RelV v u
 na:∀ i f,T.na.contains (i,f)=true->dJ K (R.cad i) f
 me:∀ i m f,T.me.lookup (i,m)=some f->Ao K (R.cad i)/\Meth K (R.cad i) m (R.fad f)/\∃ d,T.fns[f]? =some d
 ini0:∀ c,T.ini0.contains c=true->DH K (R.cad c)
 inip:∀ c,T.inip.contains c=true->IV K (R.cad c)
 ini:∀ c f,T.ini.lookup c=some f->(∃ d,T.fns[f]? =some d)/\if T.xc.contains c=true then Hf K (R.cad c) (R.fad f) else Mk K (R.cad c) (R.fad f)
 oc:∀ c,T.oc.contains c=true->Ao K (R.cad c)/\Ii K (R.cad c)
 xc:∀ c,T.xc.contains c=true->cw K (R.cad c)/\vc K (R.cad c)
 sub:∀ i j b,T.sub.lookup (i,j)=some b->W.kitOne K (.ref (R.cad i)) (.ref (R.cad j))=some b/\(T.xc.contains i=true->W.mroIn K (R.cad i) (.ref (R.cad j))=some b/\cw K (R.cad j))
 subT:∀ i n b,T.subT.lookup (i,n)=some b->W.kitOne K (.ref (R.cad i)) (.type n)=some b
 subB:∀ t n b,T.subB.lookup (t,n)=some b->W.kitOne K (.type t) (.type n)=some b
 subO:∀ t j b,T.subO.lookup (t,j)=some b->W.kitOne K (.type t) (.ref (R.cad j))=some b
 cin:∀ c f,T.cin.lookup c=some f->Jq K (R.cad c) (R.fad f)/\∃ d,T.fns[f]? =some d
structure Gd (X:Cx) (G:Gx) (S:Sn) (k:Nat) (E:St->XK):Prop where
 hK:G.R.K=X.K
 hT:S.T=G.T
 sc:X.env.scope=S.sc
 N:X.N=S.N
 nd:S.N.Nodup
 pass:Passes (w4 X.prog X.w) X E
 cm:G.cm=true->X.calm=true
 room:G.cm=true->bC (k+1) X.A
 un:X.A.units+200<cLine
 tab:A4 X.K X.mg G.T G.R
 fns:∀ f d,G.T.fns[f]? =some d->vz X.prog X.w X.K X.mg X.base k (G.R.fad f) d (G.Ψ f)
variable {x:Str}{l es:List Expr}
section
variable {X:Cx}{G:Gx}{S:Sn}{k:Nat}{E:St->XK}
def Gd.bin (g:Gd X G S k E)(op:Operator):cS X (binaryOp op) (CG G.R.K op):=g.hK▸DJ op
def Gd.cmp (g:Gd X G S k E)(op:CmpOp):cS X (compareOp op) (jK G.R.K op):=g.hK▸DP g.un op
def Gd.glob (g:Gd X G S k E)(h:S.kh x=true):Gl X x/\(x ==("__debug__":Str))=false:=by
 unfold Sn.kh at h;simp only[Bool.and_eq_true,decide_eq_true_eq,Bool.not_eq_true'] at h;refine ⟨?_,h.2⟩;show X.env.scope.names.lookup x=_;rw[g.sc];exact h.1
def Gd.Fb (g:Gd X G S k E)(h:S.Fb x=true):Hc X.env.scope x/\(x ==("__debug__":Str))=false/\(x ==("__classdict__":Str))=false:=by
 unfold Sn.Fb at h;simp only[Bool.and_eq_true,Bool.or_eq_true,decide_eq_true_eq,Bool.not_eq_true'] at h;refine ⟨?_,h.1.2,h.2⟩;unfold Hc;rw[g.sc];rcases h.1.1 with (h|h)|h
 ·exact .inl h
 ·exact .inr (.inl h)
 ·exact .inr (.inr h)
def Gd.loc (g:Gd X G S k E){i:Nat}(h:S.loc i x=true):X.N[i]? =some x/\L2.Loc X.env.scope x:=by
 unfold Sn.loc at h;simp only[Bool.and_eq_true,Bool.or_eq_true,decide_eq_true_eq] at h;rw[g.N];refine ⟨h.1,?_⟩;unfold L2.Loc;rw[g.sc];exact h.2
def aK:∀ {es:fB}{l:List Expr},jU S es l=true->∀ (env:Env) (pos:Pos),(backTo pos (starEach l env)).any (·.1)=false
 | .nil,[],_,_,_=>rfl
 | .nil,_::_,h,_,_=>by cases (show false=true from h)
 | .cons e es,[],h,_,_=>by cases (show false=true from h)
 | .cons e es,e'::l,h,env,pos=>by
  have h:(mE S e e'&&notStar e'&&jU S es l)=true:=h;simp only[Bool.and_eq_true] at h;rw[ab h.1.2];show ((backTo pos (starEach l env)).any (·.1))=false;exact aK h.2 env pos
def lV:∀ {es:fB}{l:List Expr},jU S es l=true->l.length=es.len
 | .nil,[],_=>rfl
 | .nil,_::_,h=>by cases (show false=true from h)
 | .cons e es,[],h=>by cases (show false=true from h)
 | .cons e es,e'::l,h=>by
  have h:(mE S e e'&&notStar e'&&jU S es l)=true:=h;simp only[Bool.and_eq_true] at h;show l.length+1=es.len+1;rw[lV h.2]
def bq {es:fB}(h:jU S es (e::l)=true):notStar e=true/\∃ x es',es=.cons x es'/\jU S es' l=true:=by
 cases es with
 |nil=>cases (show false=true from h)
 |cons x es'=>
  have h:(mE S x e&&notStar e&&jU S es' l)=true:=h;simp only[Bool.and_eq_true] at h;exact ⟨h.1.2,x,es',rfl,h.2⟩
def sh:∀ {es:fB}{l:List Expr},jU S es l=true->es.len<20->∀ (env:Env) (cpos:Pos),methodCallForm (l.length+([]:List Keyword).length) (backTo cpos (starEach l env)) (backToKw cpos (keywordEach [] env))=true:=by
 intro es l h hl env cpos;have h1:=aK h env cpos;have h2:=lV h;have h3:(backTo cpos (starEach l env)).all (λx=>!x.1)=true:=by
  rw[all_eq_true];intro x hx;rw[any_eq_false] at h1;simpa using h1 x hx
 unfold methodCallForm;rw[h3,h2];simp[keywordEach,backToKw]
 omega
def kG {m:Str}{apos pos:Pos}{env:Env}(hb:fJ o=true)(hf:methodCallForm (es.length+([]:List Keyword).length) (backTo pos (starEach es env)) (backToKw pos (keywordEach [] env))=true)(hl:(apos.endLine ==pos.line)=true):
  eval (.Call (.Attribute o m apos) es [] pos) env=(do
   let ov <-eval o env
   standAt apos.atName
   let (f,first) <-holding [ov] (getMethod ov m (do return (<-importBound o env).getD true))
   callWith pos f first (backTo pos (starEach es env)) (backToKw pos (keywordEach [] env))):=by
 show (do
  let ov <-attributeBase o m env (eval o env)
  standAt apos.atName
  methodCall o m apos pos env ov (es.length+([]:List Keyword).length) (backTo pos (starEach es env)) (backToKw pos (keywordEach [] env)))=_
 rw[cx hb];unfold methodCall calleeOf methodCallPos;rw[hf,hl]
 rfl
def CH {es:fB}(h:jU S es (e::l)=true)(hl:es.len<20)(env:Env)(cpos:Pos):
  ((backTo cpos (starEach (e::l) env)).all (λx=>!x.1)&&(backToKw cpos (keywordEach [] env)).all (λx=>x.1.isSome)
   &&decide ((e::l).length+([]:List Keyword).length+(if ([]:List Keyword).isEmpty then 0 else 1)<30))=true:=by
 have h1:=aK h env cpos;have h2:=lV h;have h3:(backTo cpos (starEach (e::l) env)).all (λx=>!x.1)=true:=by
  rw[all_eq_true];intro x hx;rw[any_eq_false] at h1;simpa using h1 x hx
 rw[h3,h2];simp[keywordEach,backToKw]
 omega
end
variable {K:W.Frag}{H:Hp}{Y:JS}{a:Addr}
section
variable {X:Cx}{G:Gx}{S:Sn}{k:Nat}{E:St->XK}
def gN {x:V}{t:String}(h:tyName x H=some t):f7 K H x (.type t):=by
 unfold tyName at h
 split at h
 ·cases h;exact .non
 ·cases h;exact .bl _
 ·cases h;exact .int _
 ·cases h;exact .str _
 ·split at h
  ·rename_i e;cases h;exact .lst e
  ·rename_i e;cases h;exact .tup e
  ·rename_i e;cases h;exact .dK e
  ·cases h
 ·cases h
def qR {s:Shared}{U:St}{Q:VK}{i:Nat}{b:Bool}{cv:Value}(g:Gd X G S k E)(I:Inv X Y U H s)(o:qS G H a i)
  (e:W.kitOne X.K (.ref (G.R.cad i)) cv=some b) (q:Q (.bl b) H):wpAny (model X.prog X.w) X.A (call (.builtin "isinstance") [.ref a,cv]) (EP X Y U Q) X.xe s:=by
 rcases o with ⟨ho,dx,fs,ha⟩|⟨ho,dx,fs,fr,ha⟩
 ·obtain ⟨c,z⟩:=g.tab.oc i ho;exact gP I (x:=.ref a) rfl (.ins ha c z.ha z.hn z.htk z.hm) e λtk=>⟨.bl b,H,I.tok _,rfl,q⟩
 ·obtain ⟨c,z⟩:=g.tab.xc i ho;exact xx I ha c z e λtk=>⟨.bl b,H,I.tok _,rfl,q⟩
def AU (g:Gd X G S k E)(j:Nat):ck X (.builtin "isinstance") (λvs H Q=>∃ x,vs=[x,.ref (G.R.cad j)]/\jW G (.own j) x H Q):=by
 intro Y s U H xs us Q I r h;obtain ⟨x,rfl,h⟩:=h;obtain ⟨u,w',rfl,rx,rT⟩:=vals2 r;obtain rfl:w'=Value.ref (G.R.cad j):=rT;unfold jW at h;rcases h with ⟨t,b,ht,hb,q⟩|⟨a,i,b,rfl,ho,hb,q⟩
 ·exact gP I rx (gN ht) (g.tab.subO t j b hb) λtk=>⟨.bl b,H,I.tok _,rfl,q⟩
 ·obtain rfl:u=Value.ref a:=rx;exact qR g I ho (g.tab.sub i j b hb).1 q
def DC (g:Gd X G S k E)(n:String):ck X (.builtin "isinstance") (λvs H Q=>∃ x,vs=[x,.ty n]/\jW G (.ty n) x H Q):=by
 intro Y s U H xs us Q I r h;obtain ⟨x,rfl,h⟩:=h;obtain ⟨u,w',rfl,rx,rT⟩:=vals2 r;obtain rfl:w'=Value.type n:=rT;unfold jW at h;rcases h with ⟨t,b,ht,hb,q⟩|⟨a,i,b,rfl,ho,hb,q⟩
 ·exact gP I rx (gN ht) (g.tab.subB t n b hb) λtk=>⟨.bl b,H,I.tok _,rfl,q⟩
 ·obtain rfl:u=Value.ref a:=rx;exact qR g I ho (g.tab.subT i n b hb) q
def zy {n:String}(h:iQ.contains n=true):bootBuiltins (n:Str)=some (.type n):=by
 have h':n ∈ iQ:=by simpa using h
 simp only[iQ,mem_cons,not_mem_nil,or_false] at h';rcases h' with rfl|rfl|rfl|rfl|rfl|rfl|rfl<;>decide+kernel
abbrev IT (G:Gx):Cl->V
 | .own c=>.ref (G.R.cad c)
 | .ty n=>.ty n
def Gq (g:Gd X G S k E){c:Cl}(h:yu S c e=true):PE X e (tC (IT G c)):=by
 unfold yu at h
 split at h
 ·simp only[Bool.and_eq_true,decide_eq_true_eq] at h;obtain ⟨hg,hd⟩:=g.glob h.1;exact mD hg (g.tab.gcl _ _ (g.hT▸h.2)) rfl hd
 ·simp only[Bool.and_eq_true,decide_eq_true_eq] at h;obtain ⟨⟨⟨h1,rfl⟩,h3⟩,h4⟩:=h;obtain ⟨hg,hd⟩:=g.glob h1;obtain ⟨hm,hn⟩:=g.tab.gbl _ (g.hT▸h3);exact yA hg hm (zy h4) rfl hn hd
 ·cases h
def D7 (g:Gd X G S k E)(c:Cl):ck X (.builtin "isinstance") (λvs H Q=>∃ x,vs=[x,IT G c]/\jW G c x H Q):=by
 cases c with
 |own j=>exact AU g j
 |ty n=>exact DC g n
def xW (g:Gd X G S k E){i:Nat}{b:Bool}:∀ {cs:List Nat},anyS G i cs=some b->W.kitAny X.K (.ref (G.R.cad i)) ((cs.map λc=>G.R.cad c).map Value.ref)=some b
 | [],h=>h
 |c::cs,h=>by
  have e:∀ b',G.T.sub.lookup (i,c)=some b'->W.kitOne X.K (.ref (G.R.cad i)) (.ref (G.R.cad c))=some b':=λb' hb=>(g.tab.sub i c b' hb).1
  unfold anyS at h;show (match W.kitOne X.K (.ref (G.R.cad i)) (.ref (G.R.cad c)) with|some true=>some true|some false=>W.kitAny X.K (.ref (G.R.cad i)) ((cs.map λc=>G.R.cad c).map Value.ref)|none=>none)=some b
  split at h
  ·rename_i q;rw[e _ q];exact h
  ·rename_i q;rw[e _ q];exact xW g h
  ·cases h
def Bw (g:Gd X G S k E){t:String}{b:Bool}:∀ {cs:List Nat},yD G t cs=some b->W.kitAny X.K (.type t) ((cs.map λc=>G.R.cad c).map Value.ref)=some b
 | [],h=>h
 |c::cs,h=>by
  have e:∀ b',G.T.subO.lookup (t,c)=some b'->W.kitOne X.K (.type t) (.ref (G.R.cad c))=some b':=λb' hb=>g.tab.subO t c b' hb
  unfold yD at h;show (match W.kitOne X.K (.type t) (.ref (G.R.cad c)) with|some true=>some true|some false=>W.kitAny X.K (.type t) ((cs.map λc=>G.R.cad c).map Value.ref)|none=>none)=some b
  split at h
  ·rename_i q;rw[e _ q];exact h
  ·rename_i q;rw[e _ q];exact Bw g h
  ·cases h
def yV (g:Gd X G S k E)(cs:List Nat):ck X (.builtin "isinstance") (λvs H Q=>∃ x p,vs=[x,.ref p]/\H p=some (.tup ((cs.map λc=>G.R.cad c).map V.ref))/\n8 G cs x H Q):=by
 intro Y s U H xs us Q I r h;obtain ⟨x,p,rfl,hp,h⟩:=h;obtain ⟨u,w',rfl,rx,rT⟩:=vals2 r;obtain rfl:w'=Value.ref p:=rT;unfold n8 at h;rcases h with ⟨t,b,ht,hb,q⟩|⟨a,i,b,rfl,ho,hb,q⟩
 ·obtain ⟨P,Z,hP,hx⟩:=nV I rx (gN (K:=X.K) ht);exact lu I Z hP hx hp (Bw g hb) λtk=>⟨.bl b,H,I.tok _,rfl,q⟩
 ·obtain rfl:u=Value.ref a:=rx;rcases ho with ⟨ho,dx,fs,ha⟩|⟨ho,dx,fs,fr,ha⟩
  ·obtain ⟨c,z⟩:=g.tab.oc i ho;obtain ⟨P,Z,hP,hx⟩:=nV I (x:=.ref a) rfl (.ins ha c z.ha z.hn z.htk z.hm);exact lu I Z hP hx hp (xW g hb) λtk=>⟨.bl b,H,I.tok _,rfl,q⟩
  ·obtain ⟨c,z⟩:=g.tab.xc i ho;obtain ⟨ox,odo,J⟩:=nY I ha;exact lu I (nr (ox:=ox) (odo:=odo) c z) J (λz=>nomatch z) hp (xW g hb) λtk=>⟨.bl b,H,I.tok _,rfl,q⟩
def ve (g:Gd X G S k E):∀ {cs:List Nat}{es:List Expr},rX S cs es=true->PA X es (λU H Q=>Q (cs.map λc=>.ref (G.R.cad c)) H)
 | [],[],_=>cI
 | [],_::_,h=>by cases (show false=true from h)
 |_::_,[],h=>by cases (show false=true from h)
 |c::cs,e::es,h=>by
  unfold rX at h
  split at h
  ·rename_i h1 h2;cases h1
  ·rename_i c' cs' x p es' h1 h2;cases h1;cases h2;simp only[Bool.and_eq_true,decide_eq_true_eq] at h;obtain ⟨hg,hd⟩:=g.glob h.1.1;exact eL (mD (v:=.ref (G.R.cad _)) hg (g.tab.gcl _ _ (g.hT▸h.1.2)) rfl hd) (ve g h.2) rfl
  ·cases h
abbrev vC:Bf->Value
 | .len=>.builtin "len"| .list=>.type "list"| .tuple=>.type "tuple"| .int=>.type "int"| .str=>.type "str"| .min=>.builtin "min"| .max=>.builtin "max"| .abs=>.builtin "abs"| .all=>.builtin "all"| .any=>.builtin "any"| .dict=>.type "dict"
def A2 (b:Bf):bootBuiltins (wR b:Str)=some (vC b):=by cases b<;>decide+kernel
def lj:ck X (.type "dict") (λvs H Q=>∃ p kvs,vs=[.ref p]/\H p=some (.dK kvs)/\∀ l,H l=none->Q (.ref l) (upd H l (.dK kvs))):=by
 intro Y s U H xs us Q I r h;obtain ⟨p,kvs,rfl,hp,q⟩:=h;obtain ⟨u,rfl,rx⟩:=vals1 r;cases rx;exact wC I (.inl hp) λl s' hl J=>⟨.ref l,_,J,rfl,q l hl⟩
def GW (g:Gd X G S k E)(b:Bf):ck X (vC b) (nX G b):=by
 intro Y s U H xs us Q I r h;unfold nX at h;rw[g.hK] at h;cases b with
 |len=>exact uS Y s U H _ us Q I r h
 |list=>exact lP Y s U H _ us Q I r h
 |tuple=>exact j6 Y s U H _ us Q I r h
 |int=>exact tI Y s U H _ us Q I r h
 |str=>
  rcases h with h|⟨z,rfl,q⟩
  ·exact lL Y s U H _ us Q I r h
  ·obtain ⟨u,rfl,t,rfl⟩:=vals1 r;exact PySem.P.str_of_str ⟨.str z,H,I,⟨_,rfl⟩,q⟩
 |min=>
  rcases h with ⟨hc,h|h⟩
  ·exact ub (g.cm hc) Y s U H _ us Q I r h
  ·exact h.elim
 |max=>exact ua (g.cm h.1) Y s U H _ us Q I r h.2
 |abs=>exact h.elim
 |all=>exact h.elim
 |any=>exact h.elim
 |dict=>exact lj Y s U H _ us Q I r h
abbrev Ej:Lm->String
 | .append=>"list.append"| .extend=>"list.extend"| .insert=>"list.insert"| .pop=>"list.pop"| .clear=>"list.clear"| .reverse=>"list.reverse"| .count=>"list.count"
def rB (m:Lm):Slot "list" (xh m:Str) (Ej m):=by
 cases m
 ·exact PySem.F.slot_list_append
 ·exact PySem.F.slot_list_extend
 ·exact PySem.F.slot_list_insert
 ·exact PySem.F.slot_list_pop
 ·exact PySem.F.slot_list_clear
 ·exact PySem.F.slot_list_reverse
 ·exact PySem.F.slot_list_count
def BB (m:Lm):typeOf (.builtin (Ej m))=pure (.type "method_descriptor"):=by cases m<;>rfl
abbrev JJ (m:Lm):V->List V->Hp->VK->Prop:=λx vs H Q=>∃ p xs,x=.ref p/\H p=some (.lst xs)/\FH m p xs vs H Q
def BG (m:Lm):Hg X (Ej m) (JJ m):=by
 intro Y s U H x vs v us Q I rx rv h;obtain ⟨p,xs,rfl,hp,h⟩:=h;unfold FH at h;cases m with
 |append=>
  obtain ⟨y,rfl,h⟩:=h;exact gI Y s U H _ _ v us Q I rx rv ⟨p,xs,_,rfl,rfl,hp,Nat.lt_of_le_of_lt h.1 (by decide),h.2⟩
 |extend=>
  obtain ⟨b,zs,rfl,hz,hl,q⟩:=h;exact tw Y s U H _ _ v us Q I rx rv ⟨p,_,xs,zs,rfl,rfl,hp,hz,js nofun,q⟩
 |insert=>exact h.elim
 |pop=>exact h.elim
 |clear=>exact h.elim
 |reverse=>exact h.elim
 |count=>exact h.elim
def xj {m:Str}{apos pos:Pos}{ta:TE}{t:TA}{pl:Sem Bool}{n:Nat}(g:Gd X G S k E)(hc:G.cm=true)(he:PE X o ta)(ha:PA X es t)
  (hnil:es=[]->∀ U H R,t U H R->R [] H) (hst:∀ e r,es=e::r->starEach es X.env=(false,eval e X.env)::starEach r X.env) (hpl:∀ e r,es=e::r->(backTo pos (starEach r X.env)).any (·.1)=false)
  (ht:eval (.Call (.Attribute o m apos) es [] pos) X.env=(do
   let ov <-eval o X.env
   standAt apos.atName
   let (f,first) <-holding [ov] (getMethod ov m pl)
   callWith pos f first (backTo pos (starEach es X.env)) (backToKw pos (keywordEach [] X.env)))):
  PE X (.Call (.Attribute o m apos) es [] pos) (λU H Q=>ta U H λx H1=>∃ p i dx fs f,x=.ref p/\H1 p=some (.ins (G.R.cad i) dx fs)/\fs.lookup m=none/\G.T.me.lookup (i,m)=some f/\
   t U H1 λvs H2=>G.Ψ f (x::(vs++dflt G f n)) H2 Q (E U)):=by
 intro Y s U H Q I h;refine W.methodCall_KW (pl:=pl) (au (he Y s U H _ I h) λu s1 ⟨x,H1,I1,rx,a,i,dx,fs,f,ex,ea,l,hf,q⟩=>?_) ht;subst ex;obtain rfl:u=Value.ref a:=rx;obtain ⟨c,hm,d,hd⟩:=g.tab.me i m f hf;obtain ⟨fd,F,B⟩:=(g.fns f d hd).fact;have hr:bC k X.A:=(g.room hc).mono (Nat.le_succ _);obtain ⟨ds,hb,hv⟩:∃ ds,Binds X.K fd d.ps ds/\Vals (dflt G f n) ds:=by
  unfold dflt;rw[hd];exact B _
 refine qk I1 ea c hm l ?_;cases es with
 |nil=>
  refine W.callWith_K0 (first:=[.ref a]) I1.bG hm.kp ?_;exact lI (us:=[.ref a]) (vs:=[.ref a]) F hr hb hv g.pass I1 (.cons rfl .nil) (hnil rfl _ _ _ q)
 |cons e r=>
  refine W.callWith_K (first:=[.ref a]) (h₀:=X.base) I.ok.mod.kin hm.kp (au (ha pos Y s1 U H1 _ I1 q) λus s2 ⟨vs,H2,I2,r,q2⟩=>⟨I2.bG,?_⟩) (hst e r rfl) (hpl e r rfl);exact lI (us:=.ref a::us) (vs:=.ref a::vs) F hr hb hv g.pass I2 (.cons rfl r) q2
end
def B5 {α β:Type}{f:α->Option β}:∀ {l:List α}{j:Nat}{y:β},(∀ a ∈ l,(f a).isSome=true)->(l.filterMap f)[j]? =some y->∃ a,l[j]? =some a/\f a=some y
 | [],_,_,_,h=>by simp at h
 |a::l,j,y,hs,h=>by
  obtain ⟨b,hb⟩:=Option.isSome_iff_exists.mp (hs a mem_cons_self);rw[filterMap_cons,hb] at h;cases j with
  |zero=>simp at h;exact ⟨a,rfl,by rw[hb,h]⟩
  |succ j=>
   simp at h;obtain ⟨a',h1,h2⟩:=B5 (λa ha=>hs a (mem_cons_of_mem _ ha)) h;exact ⟨a',by simpa using h1,h2⟩
def xt {α β:Type}{f:α->Option β}:∀ {l:List α},(∀ a ∈ l,(f a).isSome=true)->(l.filterMap f).length=l.length
 | [],_=>rfl
 |a::l,hs=>by
  obtain ⟨b,hb⟩:=Option.isSome_iff_exists.mp (hs a mem_cons_self);rw[filterMap_cons,hb];simp[xt (λa ha=>hs a (mem_cons_of_mem _ ha))]
abbrev i8 (env:Env):Str×NameKind->List (Str×Addr)->Sem (ForInStep (List (Str×Addr))):=λnk r=>do
 let cs:=r
 if (nk.2 ==NameKind.free)=true then do
  let a <-cellOf env nk.1
  pure (ForInStep.yield ((nk.1,a)::cs))
 else pure (ForInStep.yield cs)
def lR {env:Env}:∀ (names:List (Str×NameKind)) (cs:List (Str×Addr)),(∀ y ∈ names,y.2=.free->∃ c,env.cells.lookup y.1=some c)->
  ∃ cl,(forIn names cs (i8 env):Sem _)=pure cl/\(∀ y c,cl.lookup y=some c->cs.lookup y=some c\/env.cells.lookup y=some c)/\(∀ y,(cs.lookup y).isSome=true->(cl.lookup y).isSome=true)/\∀ y ∈ names,y.2=.free->(cl.lookup y.1).isSome=true
 | [],cs,_=>⟨cs,rfl,λy c h=>.inl h,λy h=>h,λy hy=>absurd hy (by simp)⟩
 |(n,kd)::r,cs,h=>by
  by_cases hk:kd=.free
  ·subst hk;obtain ⟨c,hc⟩:=h (n,.free) mem_cons_self rfl;obtain ⟨cl,h1,h2,h3,h4⟩:=lR r ((n,c)::cs) λy hy=>h y (mem_cons_of_mem _ hy)
   have self:(((n,c)::cs).lookup n).isSome=true:=by simp[lookup_cons]
   refine ⟨cl,?_,λy d q=>?_,λy q=>h3 y ?_,λy hy hf=>?_⟩
   ·rw[forIn_cons];have e:i8 env (n,.free) cs=pure (ForInStep.yield ((n,c)::cs)):=by
     unfold i8;simp only[cellOf,hc]
     rfl
    rw[e];exact h1
   ·rcases h2 y d q with q|q
    ·rw[lookup_cons] at q
     by_cases e:y=n
     ·subst e;simp at q;subst q;exact .inr hc
     ·rw[show (y ==n)=false from beq_eq_false_iff_ne.mpr e] at q;exact .inl q
    ·exact .inr q
   ·rw[lookup_cons];cases (y ==n)<;>simp[q]
   ·rcases mem_cons.mp hy with rfl|hy
    ·exact h3 _ self
    ·exact h4 y hy hf
  ·obtain ⟨cl,h1,h2,h3,h4⟩:=lR r cs λy hy=>h y (mem_cons_of_mem _ hy)
   refine ⟨cl,?_,h2,h3,λy hy hf=>?_⟩
   ·rw[forIn_cons];have e:i8 env (n,kd) cs=pure (ForInStep.yield cs):=by
     unfold i8;cases kd<;>first|rfl|exact absurd rfl hk
    rw[e];exact h1
   ·rcases mem_cons.mp hy with rfl|hy
    ·exact absurd hf hk
    ·exact h4 y hy hf
variable {scope:Scope}
def zS {env:Env}(h:∀ y ∈ scope.names,y.2=.free->∃ c,env.cells.lookup y.1=some c):
  ∃ cl,closureFor scope env=pure cl/\(∀ y c,cl.lookup y=some c->env.cells.lookup y=some c)/\∀ y ∈ scope.names,y.2=.free->(cl.lookup y.1).isSome=true:=by
 obtain ⟨cl,h1,h2,_,h4⟩:=lR scope.names [] h;refine ⟨cl,?_,λy c q=>(h2 y c q).resolve_left (by simp),h4⟩;have e:closureFor scope env=(forIn scope.names [] (i8 env) >>= λcs=>pure cs):=by
  unfold closureFor i8
  rfl
 rw[e,h1]
 rfl
variable {xs:List Str}{sel:List Nat}
section
variable {X:Cx}{G:Gx}{S:Sn}{k:Nat}{E:St->XK}
def oA (g:Gd X G S k E)(scope:Scope):relabel scope X.env=dz S.sc scope:=by
 unfold relabel dz Env.kindOf;rw[g.sc]
def bZ (g:Gd X G S k E)(ok:X.Ok)(h:fg S scope xs sel=true):∃ cl,ba X scope cl xs (sel.filterMap λi=>S.N[i]?) sel:=by
 unfold fg at h;simp only[Bool.and_eq_true,decide_eq_true_eq,all_eq_true,Bool.or_eq_true,bne_iff_ne,ne_eq] at h;obtain ⟨⟨⟨⟨⟨h1,h2⟩,h3⟩,h4⟩,h5⟩,h6⟩:=h;have hs:∀ i ∈ sel,(S.N[i]?).isSome=true:=λi hi=>by
  have:=h5 i hi
  split at this
  ·rename_i e;rw[e];rfl
  ·cases this
 obtain ⟨cl,c1,c2,c3⟩:=zS (env:=X.env) (scope:=scope) λy hy hf=>ok.has y.1 (.inl (by
  show X.env.scope.names.lookup y.1=_;rw[g.sc];exact ((h3 y hy).2).resolve_left λz=>z hf))
 refine ⟨cl,⟨c1,c2,λy hy=>?_,h1,λy hy=>(h3 y hy).1.1,λy hy hl=>((h3 y hy).1.2).resolve_left λz=>z hl,h4,(xt hs).symm,λj y hj=>?_,h6⟩⟩
 ·have:∃ kd,(y,kd) ∈ scope.names/\kd=.free:=by
   rcases hy with hy|hy
   ·obtain ⟨kd,m,q⟩:=du hy;rcases q with q|q
    ·subst q;exact absurd rfl (h3 _ m).1.1
    ·exact ⟨kd,m,q.1⟩
   ·obtain ⟨kd,m,q⟩:=du hy;rcases q with q|q
    ·exact ⟨kd,m,q.symm⟩
    ·exact nomatch q.2
  obtain ⟨kd,m,rfl⟩:=this;exact Option.isSome_iff_exists.mp (c3 _ m rfl)
 ·obtain ⟨i,hi,hn⟩:=B5 hs hj;have q:=h5 i (mem_of_getElem? hi);rw[hn] at q;simp only[Bool.and_eq_true,decide_eq_true_eq] at q;refine ⟨i,hi,by rw[g.N];exact hn,by rw[g.sc];exact q.1,by rw[oA g];exact q.2⟩
def Gd.comp (g:Gd X G S k E){cl:List (Str×Addr)}(C:ba X scope cl xs (sel.filterMap λi=>S.N[i]?) sel) (s:Shared) (H:Hp) (fp:List Addr):
  Gd (eX X scope cl (xs++sel.filterMap λi=>S.N[i]?) s H fp) G { S with sc:=dz S.sc scope,N:=xs++sel.filterMap λi=>S.N[i]? } k (λ_ _ _=>False) where
 hK:=g.hK
 hT:=g.hT
 sc:=oA g scope
 N:=rfl
 nd:=C.nd
 pass:=λY U H s e s' I h=>by
  obtain ⟨e,H',C,dx,fs,T,_,_,_,_,_,_,_,_,_,q⟩:=h;exact q.elim
 cm:=g.cm
 room:=g.room
 un:=g.un
 tab:=g.tab
 fns:=g.fns
def oZ (env:Env):∀ {is:List Nat}{ts:List Expr},vE S is ts=true->(assignEach ts env).length=is.length/\(assignEach ts env).findIdx? (·.1)=none
 | [],[],_=>⟨rfl,rfl⟩
 | [],_::_,h=>by simp[vE] at h
 |_::_,[],h=>by simp[vE] at h
 |i::is,t::ts,h=>by
  cases t<;>simp[vE] at h
  rename_i x p;obtain ⟨h1,h2⟩:=oZ env h.2;have e:assignEach (.Name x p::ts) env=(false,assign (.Name x p) env)::assignEach ts env:=rfl;rw[e];refine ⟨by simp[h1],?_⟩;rw[List.findIdx?_cons];simp[h2]
def rV (g:Gd X G S k E):∀ {is:List Nat}{ts:List Expr},vE S is ts=true->DU X ts (gl is)
 | [],[],_=>λY s U H vs us Q I r h=>lr Y s U H vs us Q I r ⟨length_eq_zero_iff.mp h.1,by
   have:=h.2;have e:vs=[]:=length_eq_zero_iff.mp h.1;subst e;exact this⟩
 | [],_::_,h=>by simp[vE] at h
 |_::_,[],h=>by simp[vE] at h
 |i::is,t::ts,h=>by
  cases t<;>simp[vE] at h
  rename_i x p;have hl:X.env.scope.names.lookup x=some .local:=by rw[g.sc];exact h.1.2
  have h1:PG X (.Name x p) (fU i):=fY (by rw[g.N];exact g.nd) (by rw[g.N];exact h.1.1) (.inl hl) (.inr hl);have h2:=rV g h.2;intro Y s U H vs us Q I r q;refine gq h1 h2 rfl Y s U H vs us Q I r ?_;obtain ⟨hl,q⟩:=q;cases vs with
  |nil=>simp at hl
  |cons v vs=>exact ⟨v,vs,rfl,by simpa using hl,q⟩
def yI (g:Gd X G S k E)(hc:G.cm=true){n kt:Nat}{ts:List Expr}{pt:Pos}(h:vE S (List.range n) ts=true):PG X (.Tuple ts kt pt) (Aw G.R.K n (gl (List.range n))):=by
 obtain ⟨e1,e2⟩:=oZ X.env h;rw[length_range] at e1;rw[g.hK];exact lq (g.cm hc) (rV g h) e1 e2
def yY {n:Nat}(h:xs.length=n):mN xs=List.replicate n none:=by
 subst h;unfold mN;rw[List.map_const']
end
set_option maxHeartbeats 2000000
variable {r:List Expr}{p:Pos}{s1:Shared}{R:It->Hp->Prop}{keys:List (Option Expr)}
section
variable {G:Gx}{k:Nat}
def jo {o1 o2:CmpOp}{c:Expr}(h:cT c=true):lastMarks [o1,o2] [b,c]=false:=by
 show behindInMarks o2 c=false;exact dH h _
def wA {t:TE}(h:PE X (match r with| []=>b|_=>.BoolOp .And (b::r) p) t):PE X (.BoolOp .And (b::r) p) t:=by
 cases r with
 |nil=>exact uJ h
 |cons c r=>exact h
def vb {t:TE}(h:PE X (match r with| []=>b|_=>.BoolOp .Or (b::r) p) t):PE X (.BoolOp .Or (b::r) p) t:=by
 cases r with
 |nil=>exact uJ h
 |cons c r=>exact h
def BS {op:BoolOp}(h:PT X (.BoolOp op l p) t):PW X (.BoolOp op l p) t:=λwhole Y s U H Q I q=>by
 have:=h Y s U H Q I q;exact this
def vG (h:PT X (match r with| []=>b|_=>.BoolOp .And (b::r) p) t):PW X (.BoolOp .And (b::r) p) t:=by
 cases r with
 |nil=>exact zr h
 |cons c r=>exact BS h
def xb (h:PT X (match r with| []=>b|_=>.BoolOp .Or (b::r) p) t):PW X (.BoolOp .Or (b::r) p) t:=by
 cases r with
 |nil=>exact CZ h
 |cons c r=>exact BS h
def yv:G6 X (unaryOp .USub) (λx H Q=>match x with| .int i=>Q (.int (-i)) H|_=>False):=by
 intro Y s U H x v Q I r h
 split at h
 ·exact (L2.EA Y s U H _ v Q I r ⟨_,rfl,h⟩)
 ·exact h.elim
def tO {CX:rz}{C f:Addr}{fd:FuncData}{ps:List Str}{sp:Sp}{dvs:List V}{ds:List Value}{E:St->XK}{pos:Pos}(M:Hf X.K C f)(F:cU X.prog X.w X.K X.mg X.base CX k f fd ps sp)(hr:bC (k+1) X.A)(hg:Gl X x)(hm:X.mg x=some (.ref C))(hb:Binds X.K fd ps ds)(hd:Vals dvs ds)(hx:Passes CX X E)
  (hdb:(x ==("__debug__":Str))=false):PE X (.Call (.Name x p) [] [] pos) (x8 C sp dvs E yB):=by
 intro Y s U H Q I h;refine wpAny_Call_Name_kw (bj I hg hm ?_ hdb);exact W.callWith_K0 I.bG M.kp (kW (us:=[]) M F hr hb hd hx (Nat.zero_le _) I .nil h.2)
def cS.cn {f:Value->Value->Sem Value}{r:R2}(h:cS X f r):cS X f (λx y H R=>∃ Q,r x y H Q/\∀ z H1,Q z H1->R z H1):=λY s U H x y v u R I rx ry ⟨Q,q,i⟩=>
 au (h Y s U H x y v u Q I rx ry q) λ_ _ ⟨v,H',J,r,z⟩=>⟨v,H',J,r,i _ _ z⟩
section
open PyProof.Rows
def uj {tg:Expr}{U:L2.St}{H1:Hp}{v:Value}{xs:List V}(I1:Inv X Y U H1 s1)(r:RelV (.ref a) v)(hq:bg X.K H1 a xs)(q:R (EF X.K a) H1):
  wpAny (model X.prog X.w) X.A (pyIter v) (FC X Y U tg R) X.xe s1:=by
 cases r;obtain ⟨its,rv,p,hz⟩:=I1.list hq;refine wpAny_pyIter_list p.isList ?_;refine ⟨s1.heap.objs.size,[s1.heap.objs.size],_,_,H1,rfl,I1.kept (t':=s1.toks) λb o e=>Heap.get?_push_of_some _ e,t8 a _,⟨_,Heap.get?_push_size _ rfl,rfl,rfl⟩,λb hb=>?_,q⟩;have e:b=s1.heap.objs.size:=by simpa using hb
 subst e;exact I1.pI (Nat.le_refl _) (I1.hok.fresh (Nat.le_refl _))
def wo {tg:Expr}{U:L2.St}{H1:Hp}{v:Value}{xs:List V}(I1:Inv X Y U H1 s1)(r:RelV (.ref a) v)(hq:bc X.K H1 a xs)(q:R (FX X.K a) H1):
  wpAny (model X.prog X.w) X.A (pyIter v) (FC X Y U tg R) X.xe s1:=by
 cases r;obtain ⟨its,rv,p,hz⟩:=I1.tuple hq;refine wpAny_pyIter_tuple (show s1.heap.IsTuple a its.toArray from p) ?_;refine ⟨s1.heap.objs.size,[s1.heap.objs.size],_,_,H1,rfl,I1.kept (t':=s1.toks) λb o e=>Heap.get?_push_of_some _ e,pD a _,⟨_,Heap.get?_push_size _ rfl,rfl,rfl⟩,λb hb=>?_,q⟩;have e:b=s1.heap.objs.size:=by simpa using hb
 subst e;exact I1.pI (Nat.le_refl _) (I1.hok.fresh (Nat.le_refl _))
end
def C8 {x:V}{Q:Bool->Hp->Prop}(h:Ed K x H Q):∃ k,AE K x H k/\Q k H:=by
 unfold Ed at h
 split at h
 ·exact ⟨_,rfl,h⟩
 ·exact h
abbrev Jl:List Str->List V->List (V×V)
 |k::ks,x::xs=>(.str k,x)::Jl ks xs
 |_,_=>[]
def uf {k:Str}{ks:List Str}(h:tf (k::ks) keys=true):∃ j p r,keys=some (.Constant (.str k) j p)::r/\tf ks r=true:=by
 unfold tf at h
 split at h
 ·rename_i e;cases e
 ·rename_i k' ks' x j p r e
  injection e with e1 e2
  subst e1 e2;simp only[Bool.and_eq_true,decide_eq_true_eq] at h;obtain ⟨rfl,h⟩:=h;exact ⟨_,_,_,rfl,h⟩
 ·cases h
def xM (h:tf [] keys=true):keys=[]:=by
 cases keys with
 |nil=>rfl
 |cons a r=>cases (show false=true from h)
mutual
theorem sE:∀ (x:Ex){X:Cx}{S:Sn}{E:St->XK},Gd X G S k E->∀ {e:Expr},mE S x e=true->PE X e (λU H Q=>wE G x U H Q (E U))
 | .v i,X,S,E,g,e,h=>by
  sleep 1
  simp only[Bool.and_eq_true,decide_eq_true_eq] at h;obtain ⟨h1,h2⟩:=h;obtain ⟨v1,v2,v3⟩:=g.Fb h2;refine PE.imp (Eo (i:=i) (by rw[g.N];exact h1) v1 v2 v3) λU H Q q=>?_
  conv at q=>whnf
  split at q
  ·rename_i e;exact ⟨_,e,q⟩
  ·exact q.elim
 | .int i,X,S,E,g,e,h=>by
  sleep 2
  simp only[decide_eq_true_eq] at h;subst h;exact Cs
 | .bl i,X,S,E,g,e,h=>by
  sleep 2
  simp only[decide_eq_true_eq] at h;subst h;exact FW
 | .non,X,S,E,g,e,h=>by
  sleep 2
  exact Cr
 | .str i,X,S,E,g,e,h=>by
  sleep 2
  simp only[decide_eq_true_eq] at h;subst h;exact wj
 | .gl x,X,S,E,g,e,h=>by
  sleep 1
  simp only[Bool.and_eq_true,decide_eq_true_eq] at h;obtain ⟨rfl,h2⟩:=h;obtain ⟨hg,hd⟩:=g.glob h2;intro Y s U H Q I q
  conv at q=>whnf
  split at q
  ·rename_i v e;obtain ⟨u,hm,r⟩:=g.tab.gl _ v e;exact mD hg hm r hd Y s U H Q I q
  ·exact q.elim
 | .bin op a b,X,S,E,g,e,h=>by
  sleep 1
  simp only[Bool.and_eq_true,decide_eq_true_eq] at h;obtain ⟨⟨rfl,ha⟩,hb⟩:=h;exact GP (g.bin op) (sE a g ha) (sE b g hb)
 | .neg a,X,S,E,g,e,h=>by
  sleep 2
  exact GR yv (sE a g h)
 | .not a,X,S,E,g,e,h=>by
  sleep 2
  refine PE.imp (Dr (PE.cn (sE a g h))) λU H Q q=>⟨_,q,λx H1 z=>?_⟩
  split at z
  ·exact ⟨_,rfl,z⟩
  ·exact z.elim
 | .and a b,X,S,E,g,e,h=>by
  sleep 3
  simp only[Bool.and_eq_true] at h;refine PE.imp (Eh (PE.cn (sE a g h.1)) (wA (sE b g h.2))) λU H Q q=>⟨_,q,λx H1 z=>?_⟩
  split at z
  ·rw[di] at z;exact ⟨_,rfl,z⟩
  ·exact z.elim
 | .or a b,X,S,E,g,e,h=>by
  sleep 3
  simp only[Bool.and_eq_true] at h;refine PE.imp (GV (PE.cn (sE a g h.1)) (vb (sE b g h.2))) λU H Q q=>⟨_,q,λx H1 z=>?_⟩
  split at z
  ·rw[di] at z;exact ⟨_,rfl,z⟩
  ·exact z.elim
 | .cmp op a b,X,S,E,g,e,h=>by
  sleep 3
  simp only[Bool.and_eq_true,decide_eq_true_eq] at h;obtain ⟨⟨⟨rfl,ha⟩,hb⟩,hn⟩:=h;exact yK (g.cmp op) (sE a g ha) (sE b g hb) (dH hn _)
 | .cmp2 o1 o2 a b c,X,S,E,g,e,h=>by
  sleep 3
  simp only[Bool.and_eq_true,decide_eq_true_eq] at h;obtain ⟨⟨⟨⟨⟨rfl,rfl⟩,ha⟩,hb⟩,hc⟩,hn⟩:=h;refine PE.imp (xU (cS.cn (g.cmp o1)) (g.cmp o2) (PE.cn (sE a g ha)) (PE.cn (sE b g hb)) (sE c g hc) (jo hn)) λU H Q q=>⟨_,q,λx H1 q1=>⟨_,q1,λy H2 q2=>⟨_,q2,λz H3 q3=>?_⟩⟩⟩
  split at q3
  ·rw[di] at q3;exact ⟨_,rfl,q3⟩
  ·exact q3.elim
 | .qv o1 o2 o3 a b c d,X,S,E,g,e,h=>by cases (show false=true from h)
 | .ife c a b,X,S,E,g,e,h=>by
  sleep 1
  simp only[Bool.and_eq_true] at h;exact PE.imp (xA (PT.cn (sT c g h.1.1)) (sE a g h.1.2) (sE b g h.2)) λU H Q q=>⟨_,q,λk H1 z=>by rwa [di] at z⟩
 | .tup es,X,S,E,g,e,h=>by
  sleep 1
  refine PE.imp (xN (PA.cn (uG es g h))) λU H Q q=>⟨_,q,λx H1 z=>by unfold iA at z;exact ⟨js (by have:=z.1;omega),z.2⟩⟩
 | .lst es,X,S,E,g,e,h=>by
  sleep 1
  refine PE.imp (CK (PA.cn (uG es g h))) λU H Q q=>⟨_,q,λx H1 z=>by unfold yt at z;exact ⟨js (by have:=z.1;omega),z.2⟩⟩
 | .ix a i,X,S,E,g,e,h=>by
  sleep 1
  simp only[Bool.and_eq_true] at h;have hr:E3 X (yi G.R.K):=g.hK▸qh g.un;exact GH hr (sE a g h.1.1) (sE i g h.1.2) (pO h.2)
 | .sl a lo hi,X,S,E,g,e,h=>by
  sleep 3
  simp only[Bool.and_eq_true] at h;have hr:Ft X (yn G.R.K):=g.hK▸DE;exact uM hr (sE a g h.1.1) (sO lo g h.1.2) (sO hi g h.2)
 | .fld a f,X,S,E,g,e,h=>by
  sleep 1
  simp only[Bool.and_eq_true,decide_eq_true_eq] at h;obtain ⟨⟨ha,rfl⟩,hn⟩:=h;intro Y s U H Q I q;have q':wE G a U H (λx H1=>nZ G f x H1 Q) (E U):=q;refine zU (cx hn _ _ _) (au (sE a g ha Y s U H _ I q') λu s1 ⟨x,H1,I1,rx,qf⟩=>?_);unfold nZ at qf;obtain ⟨a,i,fs,v,ex,ea,hna,l,q⟩:=qf;subst ex;obtain rfl:u=Value.ref a:=rx;have n:=g.tab.na i f hna;rcases ea with ⟨ho,dx,ea⟩|⟨ho,dx,fr,ea⟩
  ·exact qG I1 ea (g.tab.oc i ho).1 n l λu' s' J rv=>⟨v,H1,J,rv,q⟩
  ·exact uA I1 ea (g.tab.xc i ho).1 n l λu' s' J rv=>⟨v,H1,J,rv,q⟩
 | .call f es,X,S,E,g,e,h=>by
  sleep 3
  rename_i es' pos _ xn p1 _;simp only[Bool.and_eq_true,decide_eq_true_eq] at h;obtain ⟨⟨h1,h2⟩,h3⟩:=h;obtain ⟨hg,hdb⟩:=g.glob h1;obtain ⟨hm,hk,d,hd⟩:=g.tab.gfn _ _ (g.hT▸h2);obtain ⟨fd,F,B⟩:=(g.fns f d hd).fact;obtain ⟨ds,hb,hv⟩:∃ ds,Binds X.K fd d.ps ds/\Vals (dflt G f es.len) ds:=by
   unfold dflt;rw[hd];exact B _
  intro Y s U H Q I q;obtain ⟨hc,q⟩:=(show G.cm=true/\wEs G es U H (λvs H1=>G.Ψ f (vs++dflt G f es.len) H1 Q (E U)) (E U) from q);have hr:bC k X.A:=(g.room hc).mono (Nat.le_succ _);cases es' with
  |nil=>
   cases es with
   |nil=>exact vN F hr hg hm hk hb hv g.pass hdb Y s U H Q I q
   |cons _ _=>cases (show false=true from h3)
  |cons e0 er=>
   have PAs:=uG es g h3;obtain ⟨ns,x0,xr,rfl,h4⟩:=bq h3;exact yU F hr hg hm hk hb hv g.pass PAs hdb (ab ns) (aK h4 _ _) Y s U H Q I q
 | .meth a m es,X,S,E,g,e,h=>by
  sleep 3
  rename_i es' pos _ a' m' apos _;simp only[Bool.and_eq_true,decide_eq_true_eq] at h;obtain ⟨⟨⟨⟨⟨ha,rfl⟩,h3⟩,h4⟩,h5⟩,h6⟩:=h;intro Y s U H Q I q;obtain ⟨hc,q⟩:=(show G.cm=true/\_ from q);refine xj (n:=es.len+1) g hc (sE a g ha) (uG es g h3) (λz U H R hr=>?_) (λe r z=>?_) (λe r z=>?_) (kG h4 (sh h3 h6 _ _) h5) Y s U H Q I q
  ·subst z;cases es with
   |nil=>exact hr
   |cons _ _=>cases (show false=true from h3)
  ·subst z;exact ab (bq h3).1
  ·subst z;have PAs:=uG es g h3;obtain ⟨ns,x0,xr,rfl,h4⟩:=bq h3;exact aK h4 _ _
 | .lm m a es,X,S,E,g,e,h=>by
  sleep 3
  rename_i es' pos _ a' m' apos _;simp only[Bool.and_eq_true,decide_eq_true_eq] at h;obtain ⟨⟨⟨⟨⟨ha,rfl⟩,h3⟩,h4⟩,h5⟩,h6⟩:=h;cases es' with
  |nil=>
   cases es with
   |nil=>exact PE.imp (CU PySem.F.plainAttrs_list (rB m) (BB m) (BG m) (PE.cn (sE a g ha)) (cx h4 _ _ _) h5) λU H Q q=>⟨_,q,λx H1 z=>by
     obtain ⟨p,xs0,ex,hp,q⟩:=z;subst ex;obtain ⟨xs,h1,h2⟩:=q;exact ⟨.inl ⟨rfl,xs0,bg.of hp⟩,p,xs,rfl,h1,h2⟩⟩
   |cons _ _=>cases (show false=true from h3)
  |cons e0 er=>
   have PAs:=uG es g h3;obtain ⟨ns,x0,xr,rfl,h7⟩:=bq h3;exact PE.imp (Gm PySem.F.plainAttrs_list (rB m) (BB m) (BG m) (PE.cn (sE a g ha)) (PA.cn PAs) (cx h4 _ _ _) (CH h3 h6 _ _) h5 (ab ns) (aK h7 _ _)) λU H Q q=>⟨_,q,λx H1 z=>by
     obtain ⟨p,xs0,ex,hp,q⟩:=z;subst ex;exact ⟨.inl ⟨rfl,xs0,bg.of hp⟩,_,q,λvs H2 ⟨xs,h1,h2⟩=>⟨p,xs,rfl,h1,h2⟩⟩⟩
 | .dget a k d,X,S,E,g,e,h=>by cases (show false=true from h)
 | .lix a b,X,S,E,g,e,h=>by cases (show false=true from h)
 | .make c es,X,S,E,g,e,h=>by
  sleep 3
  rename_i es' pos _ xn p1 _;simp only[Bool.and_eq_true,decide_eq_true_eq] at h;obtain ⟨⟨h1,h2⟩,h3⟩:=h;obtain ⟨hg,hdb⟩:=g.glob h1;have hm:=g.tab.gcl _ _ (g.hT▸h2);intro Y s U H Q I q
  conv at q=>whnf
  obtain ⟨hc,q⟩:=q
  split at q
  ·obtain ⟨h0,q⟩:=q;cases es' with
   |nil=>
    cases es with
    |nil=>exact absurd q.1 (by decide)
    |cons _ _=>cases (show false=true from h3)
   |cons e0 er=>
    have PAs:=uG es g h3;obtain ⟨ns,x0,xr,rfl,h4⟩:=bq h3;exact xZ (g.tab.ini0 c h0) hg hm PAs hdb (ab ns) (aK h4 _ _) Y s U H Q I q
  ·rename_i f hf;obtain ⟨⟨d,hd⟩,hmk⟩:=g.tab.ini c f hf;obtain ⟨fd,F,B⟩:=(g.fns f d hd).fact;obtain ⟨ds,hb,hv⟩:∃ ds,Binds X.K fd d.ps ds/\Vals (dflt G f (es.len+1)) ds:=by
    unfold dflt;rw[hd];exact B _
   have hr:=g.room hc
   split at q
   ·rename_i hx;rw[if_pos hx] at hmk;cases es' with
    |nil=>
     cases es with
     |nil=>exact tO hmk F hr hg hm hb hv g.pass hdb Y s U H Q I q
     |cons _ _=>cases (show false=true from h3)
    |cons e0 er=>
     have PAs:=uG es g h3;obtain ⟨ns,x0,xr,rfl,h4⟩:=bq h3;exact vB hmk F hr hg hm hb hv g.pass PAs hdb (ab ns) (aK h4 _ _) Y s U H Q I q
   ·rename_i hx;rw[if_neg hx] at hmk;cases es' with
    |nil=>
     cases es with
     |nil=>exact wt hmk F hr hg hm hb hv g.pass hdb Y s U H Q I q
     |cons _ _=>cases (show false=true from h3)
    |cons e0 er=>
     have PAs:=uG es g h3;obtain ⟨ns,x0,xr,rfl,h4⟩:=bq h3;exact A5 hmk F hr hg hm hb hv g.pass PAs hdb (ab ns) (aK h4 _ _) Y s U H Q I q
 | .bini es,X,S,E,g,e,h=>by
  sleep 4
  rename_i es' pos _ mm p2 _ xn p1 _;simp only[Bool.and_eq_true,decide_eq_true_eq] at h;obtain ⟨⟨⟨⟨⟨h1,rfl⟩,h2⟩,h3⟩,h4⟩,h5⟩:=h;obtain ⟨hg,hdb⟩:=g.glob h1;obtain ⟨B,hm,hB⟩:=g.tab.gbi _ (g.hT▸h2);cases es' with
  |nil=>
   cases es with
   |nil=>cases h4
   |cons _ _=>cases (show false=true from h3)
  |cons e0 er=>
   have PAs:=uG es g h3;obtain ⟨ns,x0,xr,rfl,h7⟩:=bq h3;refine PE.imp (CQ hB hg hm (PA.cn PAs) hdb (ab ns) (aK h7 _ _) (kG (o:=.Name _ _) rfl (sh h3 (by rw[h4];decide) _ _) h5)) λU H Q q=>⟨_,q,λvs H1 z=>?_⟩
   obtain ⟨a,i,dx,fs,fr,v,ev,ea,hi,q⟩:=z;exact ⟨a,_,dx,fs,fr,v,ev,ea,(g.tab.xc i hi).1,q⟩
 | .cini c es,X,S,E,g,e,h=>by cases (show false=true from h)
 | .bf b es,X,S,E,g,e,h=>by
  sleep 3
  rename_i es' pos _ xn p1 _;simp only[Bool.and_eq_true,decide_eq_true_eq] at h;obtain ⟨⟨⟨⟨h1,rfl⟩,h2⟩,h3⟩,h4⟩:=h;obtain ⟨hg,hdb⟩:=g.glob h1;obtain ⟨hm,hn⟩:=g.tab.gbl _ (g.hT▸h2);cases es' with
  |nil=>
   cases es with
   |nil=>exact absurd h4 (by decide)
   |cons _ _=>cases (show false=true from h3)
  |cons e0 er=>
   have PAs:=uG es g h3;obtain ⟨ns,x0,xr,rfl,h7⟩:=bq h3;have hb:=A2 b;have hk:=GW g b;have key:∀ {v:Value},vC b=v->(∃ i,v=.builtin i)\/(∃ i,v=.type i):=by
    intro v hv;subst hv;cases b<;>first|exact .inl ⟨_,rfl⟩|exact .inr ⟨_,rfl⟩
   rcases key rfl with ⟨i,hi⟩|⟨i,hi⟩
   ·rw[hi] at hb hk;exact jv hk hg hm hb PAs hn hdb (ab ns) (aK h7 _ _)
   ·rw[hi] at hb hk;exact uy hk hg hm hb PAs hn hdb (ab ns) (aK h7 _ _)
 | .isi a c,X,S,E,g,e,h=>by
  sleep 4
  rename_i pos _ xn p1 _ _ a' c';simp only[Bool.and_eq_true,decide_eq_true_eq] at h;obtain ⟨⟨⟨⟨h1,rfl⟩,h2⟩,h3⟩,h4⟩:=h;obtain ⟨hg,hdb⟩:=g.glob h1;obtain ⟨hm,hn⟩:=g.tab.gbl _ (g.hT▸h2);have n1:notStar a'=true:=by
   cases a'<;>first|rfl|(cases a<;>cases (show false=true from h3))
  have n2:notStar c'=true:=by
   cases c'<;>first|rfl|(cases c<;>simp[yu] at h4)
  refine PE.imp (jv (D7 g c) hg hm xH (eL (PE.cn (sE a g h3)) (eL (Gq g h4) cI n2) n1) hn hdb (ab n1) ?_) λU H Q q=>⟨_,q,λx H1 z=>⟨x,rfl,z⟩⟩
  rw[ab n2]
  rfl
 | .lc elt sel it,X,S,E,g,e,h=>by
  sleep 2
  split at h
  iterate 3 (split at h;rotate_left;cases h)
  simp only[Bool.and_eq_true] at h;obtain ⟨⟨⟨h1,h2⟩,h3⟩,h4⟩:=h;intro Y s U H Q I q;obtain ⟨hc,q⟩:=(show G.cm=true/\wI G it U H (λJ H1=>AM (λσ' H' Q'=>wE G elt σ' H' Q' (λ_ _=>False)) J (none::fh U sel) H1 Q) (E U) from q);rw[u9] at q;obtain ⟨cl,C⟩:=bZ g I.ok h1;exact vt (g.cm hc) C (sI it g h2) (λs H fp=>sE elt (g.comp C s H fp) h3) (bB h4 _) Y s U H Q I q
 | .lci elt c sel it,X,S,E,g,e,h=>by
  sleep 2
  split at h
  iterate 3 (split at h;rotate_left;cases h)
  simp only[Bool.and_eq_true] at h;obtain ⟨⟨⟨⟨h1,h2⟩,h3⟩,h5⟩,h4⟩:=h;intro Y s U H Q I q;obtain ⟨hc,q⟩:=(show G.cm=true/\wI G it U H (λJ H1=>Dn (λσ' H' Q'=>wT G c σ' H' Q' (λ_ _=>False)) (λσ' H' Q'=>wE G elt σ' H' Q' (λ_ _=>False)) J (none::fh U sel) H1 Q) (E U) from q);rw[xl] at q;obtain ⟨cl,C⟩:=bZ g I.ok h1;exact kN (g.cm hc) C (sI it g h2) (λs H fp=>l6 C) (λs H fp=>rm (sT c (g.comp C s H fp) h5)) (λs H fp=>sE elt (g.comp C s H fp) h3) (bB h4 _) Y s U H Q I q
 | .lct elt n sel it,X,S,E,g,e,h=>by cases (show false=true from h)
 | .dnew,X,S,E,g,e,h=>by cases (show false=true from h)
 | .up a,X,S,E,g,e,h=>by cases (show false=true from h)
 | .isiT a cs,X,S,E,g,e,h=>by
  sleep 5
  rename_i pos _ xn p1 _ _ a' _ es' kk pos2;simp only[Bool.and_eq_true,decide_eq_true_eq] at h;obtain ⟨⟨⟨⟨⟨h1,rfl⟩,h2⟩,h3⟩,h4⟩,h5⟩:=h;obtain ⟨hg,hdb⟩:=g.glob h1;obtain ⟨hm,hn⟩:=g.tab.gbl _ (g.hT▸h2);have n1:notStar a'=true:=by
   cases a'<;>first|rfl|(cases a<;>cases (show false=true from h3))
  refine PE.imp (jv (yV g cs) hg hm xH (eL (PE.cn (sE a g h3)) (eL (xN (ve g h4)) cI rfl) n1) hn hdb (ab n1) ?_) λU H Q q=>⟨_,q,λx H1 z=>⟨?_,λp hp=>⟨x,p,rfl,?_,z p hp⟩⟩⟩
  ·rw[ab (show notStar (.Tuple es' kk pos2)=true from rfl)]
   rfl
  ·exact js (by rw[length_map];omega)
  ·rw[aq,List.map_map]
   rfl
 | .mk0 c,X,S,E,g,e,h=>by
  sleep 4
  simp only[Bool.and_eq_true,decide_eq_true_eq] at h;obtain ⟨⟨h1,h2⟩,h3⟩:=h;obtain ⟨hg,hdb⟩:=g.glob h1;refine PE.imp (vx (g.tab.inip c (g.hT▸h3)) hg (g.tab.gcl _ _ (g.hT▸h2)) hdb) λU H Q q=>?_
  have q':u0 (G.R.cad c) H Q:=q;unfold u0 at q';exact q'
 | .vals tp a,X,S,E,g,e,h=>by cases (show false=true from h)
 | .disp ks es,X,S,E,g,e,h=>by cases (show false=true from h)
 | .dzip a b,X,S,E,g,e,h=>by
  sleep 8
  simp only[Bool.and_eq_true,decide_eq_true_eq] at h;obtain ⟨⟨⟨⟨⟨⟨⟨⟨⟨h1,rfl⟩,h2⟩,h3⟩,rfl⟩,h4⟩,h5⟩,h6⟩,n1⟩,n2⟩:=h;obtain ⟨hg,hdb⟩:=g.glob h1;obtain ⟨hm,hn⟩:=g.tab.gbl _ (g.hT▸h2);obtain ⟨hg',hdb'⟩:=g.glob h3;obtain ⟨hm',hn'⟩:=g.tab.gbl _ (g.hT▸h4);intro Y s U H Q I q;obtain ⟨hc,q⟩:=(show G.cm=true/\wE G a U H (λx H1=>wE G b U H1 (λy H2=>Fd G.R.K x y H2 Q) (E U)) (E U) from q);refine zT (g.cm hc) hg hm hg' hm' (eL (PE.cn (sE a g h5)) (eL (PE.cn (sE b g h6)) cI n2) n1) (ab n1) (by rw[ab n2];rfl) Y s U H Q I ⟨_,q,λx H1 z=>⟨_,z,λy H2 z=>?_⟩⟩;unfold Fd at z;exact ⟨_,_,rfl,g.hK▸z⟩
termination_by structural x=>x
theorem sI:∀ (x:Ci){X:Cx}{S:Sn}{E:St->XK},Gd X G S k E->∀ {t e:Expr},mI S x t e=true->PI X t e (λU H R=>wI G x U H R (E U))
 | .rng1 a,X,S,E,g,t,e,h=>by
  sleep 4
  simp only[Bool.and_eq_true,decide_eq_true_eq] at h;obtain ⟨⟨⟨⟨h1,rfl⟩,h2⟩,h3⟩,n1⟩:=h;obtain ⟨hg,hdb⟩:=g.glob h1;obtain ⟨hm,hn⟩:=g.tab.gbl _ (g.hT▸h2);intro Y s U H R I q;refine tL hg hm (eL (PE.cn (sE a g h3)) cI n1) (ab n1) Y s U H R I ⟨_,q,λx H1 z=>?_⟩
  split at z
  ·exact ⟨_,rfl,z.1,z.2.1,z.2.2⟩
  ·exact z.elim
 | .rng2 a b,X,S,E,g,t,e,h=>by cases (show false=true from h)
 | .rng3 a b c,X,S,E,g,t,e,h=>by
  sleep 4
  simp only[Bool.and_eq_true,decide_eq_true_eq] at h;obtain ⟨⟨⟨⟨⟨⟨⟨⟨h1,rfl⟩,h2⟩,h3⟩,h4⟩,h5⟩,n1⟩,n2⟩,n3⟩:=h;obtain ⟨hg,hdb⟩:=g.glob h1;obtain ⟨hm,hn⟩:=g.tab.gbl _ (g.hT▸h2);intro Y s U H R I q;refine sY hg hm (eL (PE.cn (sE a g h3)) (eL (PE.cn (sE b g h4)) (eL (PE.cn (sE c g h5)) cI n3) n2) n1) (by rw[ab n1,ab n2,ab n3];rfl) (by rw[ab n2,ab n3];rfl) Y s U H R I ⟨_,q,λx H1 z=>⟨_,z,λy H2 z=>⟨_,z,λw H3 z=>?_⟩⟩⟩
  split at z
  ·obtain ⟨rfl,z1,z2⟩:=z;exact ⟨_,_,rfl,z1,z2⟩
  ·exact z.elim
 | .enm a,X,S,E,g,t,e,h=>by
  sleep 4
  simp only[Bool.and_eq_true,decide_eq_true_eq] at h;obtain ⟨⟨⟨⟨⟨h1,rfl⟩,h2⟩,h3⟩,n1⟩,h5⟩:=h;obtain ⟨hg,hdb⟩:=g.glob h1;obtain ⟨hm,hn⟩:=g.tab.gbl _ (g.hT▸h2)
  split at h5
  ·intro Y s U H R I q;refine zq hg hm (eL (PE.cn (sE a g h3)) cI n1) (ab n1) Y s U H R I ⟨_,q,λx H1 z=>?_⟩
   split at z
   ·unfold zH at z;exact ⟨_,rfl,z.1,z.2⟩
   ·exact z.elim
  ·cases h5
 | .enf a,X,S,E,g,t,e,h=>by
  sleep 4
  simp only[Bool.and_eq_true,decide_eq_true_eq] at h;obtain ⟨⟨⟨⟨⟨h1,rfl⟩,h2⟩,h3⟩,n1⟩,h5⟩:=h;obtain ⟨hg,hdb⟩:=g.glob h1;obtain ⟨hm,hn⟩:=g.tab.gbl _ (g.hT▸h2)
  split at h5
  ·intro Y s U H R I q;refine yL hg hm (eL (PE.cn (sE a g h3)) cI n1) (ab n1) Y s U H R I ⟨_,q,λx H1 z=>?_⟩
   split at z
   ·unfold zg at z;exact ⟨_,rfl,g.hK▸z⟩
   ·exact z.elim
  ·cases h5
 | .seq a,X,S,E,g,t,e,h=>by
  conv at h=>lhs;whnf
  intro Y s U H R I q;have q':wE G a U H (λx H1=>match x with| .ref p=>pR G.R.K p H1 R|_=>False) (E U):=q;rw[g.hK] at q';refine au (sE a g h Y s U H _ I q') λv s1 ⟨x,H1,I1,r1,z⟩=>?_
  dsimp only at z
  split at z
  ·unfold pR at z;rcases z with ⟨⟨xs,hx⟩,z⟩|⟨⟨xs,hx⟩,z⟩
   ·exact uj I1 r1 hx z
   ·exact wo I1 r1 hx z
  ·exact z.elim
 | .zip a b,X,S,E,g,t,e,h=>by
  sleep 4
  simp only[Bool.and_eq_true,decide_eq_true_eq] at h;obtain ⟨⟨⟨⟨⟨⟨⟨h1,rfl⟩,h2⟩,h3⟩,h4⟩,n1⟩,n2⟩,h5⟩:=h;obtain ⟨hg,hdb⟩:=g.glob h1;obtain ⟨hm,hn⟩:=g.tab.gbl _ (g.hT▸h2)
  split at h5
  ·intro Y s U H R I q;refine DV hg hm (eL (PE.cn (sE a g h3)) (eL (PE.cn (sE b g h4)) cI n2) n1) (ab n1) (by rw[ab n2];rfl) Y s U H R I ⟨_,q,λx H1 z=>⟨_,z,λy H2 z=>?_⟩⟩;unfold zR at z;exact ⟨_,_,rfl,g.hK▸z⟩
  ·cases h5
termination_by structural x=>x
theorem sO:∀ (x:Hi){X:Cx}{S:Sn}{E:St->XK},Gd X G S k E->∀ {e:Option Expr},mO S x e=true->PO X e (λU H Q=>wO G x U H Q (E U))
 | .no,X,S,E,g,none,h=>yo
 | .no,X,S,E,g,some _,h=>by cases (show false=true from h)
 | .yes x,X,S,E,g,none,h=>by cases (show false=true from h)
 | .yes x,X,S,E,g,some e,h=>by
  conv at h=>lhs;whnf
  intro Y s U H Q I q;refine zQ (PE.cn (sE x g h)) Y s U H Q I ⟨_,q,λy H1 z=>?_⟩
  split at z
  ·exact ⟨_,rfl,z⟩
  ·exact z.elim
termination_by structural x=>x
theorem sT:∀ (x:Tx){X:Cx}{S:Sn}{E:St->XK},Gd X G S k E->∀ {e:Expr},mT S x e=true->PT X e (λU H Q=>wT G x U H Q (E U))
 | .not a,X,S,E,g,e,h=>by
  sleep 2
  exact Ew (sT a g h)
 | .and a b,X,S,E,g,e,h=>by
  sleep 3
  simp only[Bool.and_eq_true] at h;exact PT.imp (CY (PT.cn (sT a g h.1)) (vG (sT b g h.2))).pt λU H Q q=>⟨_,q,λk H1 z=>by rwa [di] at z⟩
 | .or a b,X,S,E,g,e,h=>by
  sleep 3
  simp only[Bool.and_eq_true] at h;exact PT.imp (E6 (PT.cn (sT a g h.1)) (xb (sT b g h.2))).pt λU H Q q=>⟨_,q,λk H1 z=>by rwa [di] at z⟩
 | .cmp op a b,X,S,E,g,e,h=>by
  sleep 3
  simp only[Bool.and_eq_true,decide_eq_true_eq] at h;obtain ⟨⟨⟨rfl,ha⟩,hb⟩,hn⟩:=h;refine PT.imp (A7 (cS.cn (g.cmp op)) (PE.cn (sE a g ha)) (PE.cn (sE b g hb)) (dH hn _)) λU H Q q=>⟨_,q,λx H1 q1=>⟨_,q1,λy H2 q2=>⟨_,q2,λz H3 q3=>?_⟩⟩⟩
  split at q3
  ·exact ⟨_,rfl,q3⟩
  ·exact q3.elim
 | .cmp2 o1 o2 a b c,X,S,E,g,e,h=>by
  sleep 3
  simp only[Bool.and_eq_true,decide_eq_true_eq] at h;obtain ⟨⟨⟨⟨⟨rfl,rfl⟩,ha⟩,hb⟩,hc⟩,hn⟩:=h;refine PT.imp (vX (cS.cn (g.cmp o1)) (cS.cn (g.cmp o2)) (PE.cn (sE a g ha)) (PE.cn (sE b g hb)) (PE.cn (sE c g hc)) (jo hn)) λU H Q q=>⟨_,q,λx H1 q1=>⟨_,q1,λy H2 q2=>⟨_,q2,λz H3 q3=>?_⟩⟩⟩
  split at q3
  ·refine ⟨_,rfl,?_⟩;rw[di] at q3
   split at q3
   ·rename_i hk;rw[if_pos hk];refine ⟨_,q3,λw H4 q4=>⟨_,q4,λz H5 q5=>?_⟩⟩
    split at q5
    ·exact ⟨_,rfl,q5⟩
    ·exact q5.elim
   ·rename_i hk;rw[if_neg hk];exact ⟨_,rfl,q3⟩
  ·exact q3.elim
 | .val x,X,S,E,g,e,h=>by
  have h:(mE S x e&&plainT e)=true:=h;simp only[Bool.and_eq_true] at h;refine PT.imp (we (PE.cn (sE x g h.1)) (plainT_ok h.2 _)) λU H Q q=>⟨_,q,λy H1 z=>?_⟩
  exact g.hK▸C8 z
termination_by structural x=>x
theorem JF:∀ (x:fB){X:Cx}{S:Sn}{E:St->XK},Gd X G S k E->∀ {ks:List Str}{keys:List (Option Expr)}{e:List Expr}{pos:Pos},tf ks keys=true->jU S x e=true->x.len=ks.length->PQ X pos keys e (λU H R=>∃ Q,wEs G x U H Q (E U)/\∀ xs H1,xs.length=x.len->Q xs H1->R (Jl ks xs) H1)
 | .nil,X,S,E,g,ks,keys,[],pos,h1,h,hl=>by
  obtain rfl:ks=[]:=List.eq_nil_of_length_eq_zero hl.symm;rw[xM h1];exact λY s U H R I ⟨Q,q,i⟩=>Di Y s U H R I (i [] H rfl q)
 | .nil,X,S,E,g,_,_,_::_,pos,h1,h,hl=>by cases (show false=true from h)
 | .cons x xs,X,S,E,g,_,_,[],pos,h1,h,hl=>by cases (show false=true from h)
 | .cons x xs,X,S,E,g,[],keys,e::es,pos,h1,h,hl=>by cases hl
 | .cons x xs,X,S,E,g,c::ks,keys,e::es,pos,h1,h,hl=>by
  have h:(mE S x e&&notStar e&&jU S xs es)=true:=h;simp only[Bool.and_eq_true] at h;obtain ⟨j,p,r,rfl,h2⟩:=uf h1;intro Y s U H R I ⟨Q,q,i⟩;refine Ap wj (PE.cn (sE x g h.1.1)) (JF xs g h2 h.2 (Nat.succ.inj hl)) Y s U H R I ?_;exact ⟨_,q,λy H2 z=>⟨_,z,λys H3 hy w=>i (y::ys) H3 (congrArg Nat.succ hy) w⟩⟩
termination_by structural x=>x
theorem uG:∀ (x:fB){X:Cx}{S:Sn}{E:St->XK},Gd X G S k E->∀ {e:List Expr},jU S x e=true->PA X e (λU H Q=>wEs G x U H Q (E U))
 | .nil,X,S,E,g,[],h=>cI
 | .nil,X,S,E,g,_::_,h=>by cases (show false=true from h)
 | .cons x xs,X,S,E,g,[],h=>by cases (show false=true from h)
 | .cons x xs,X,S,E,g,e::es,h=>by
  have h:(mE S x e&&notStar e&&jU S xs es)=true:=h;simp only[Bool.and_eq_true] at h;exact eL (sE x g h.1.1) (uG xs g h.2) h.1.2
termination_by structural x=>x
end
end
end L3
namespace L2
open PySem PySem.Spec PyProof.Rows
variable {scope:Scope}{cl:List (Str×Addr)}{fr:List Str}{sel:List Nat}{s:Shared}
section
variable {X:Cx}
def fA {elt iter tgt:Expr}{ifs:List Expr}{xs:List Str}{y:Str}{py pos spos:Pos}{wi:TI}{tg:TG}{tc:TT}{te:TE}{ni:Nat}(hc:X.calm=true)(S:ba X scope cl xs fr sel)(hi:PI X tgt iter wi)
  (hg:∀ (s:Shared) (H:Hp) (fp:List Addr),PG (eX X scope cl (xs++fr) s H fp) tgt tg) (ht:∀ (s:Shared) (H:Hp) (fp:List Addr),Hl (eX X scope cl (xs++fr) s H fp) ifs tc)
  (he:∀ (s:Shared) (H:Hp) (fp:List Addr),PE (eX X scope cl (xs++fr) s H fp) elt te) (hs:∀ x,foldedSetIterable iter X.env x=pure x) (hN:X.N.Nodup) (hni:X.N[ni]? =some y) (hy:X.env.scope.names.lookup y=some .local)
  (hsw:swapsWith (.ListComp elt [⟨tgt,iter,ifs,0⟩] scope pos) (some (.Name y py)) spos.line X.env=pure true):PS X (.Assign [.Name y py] (.ListComp elt [⟨tgt,iter,ifs,0⟩] scope pos) spos) (λD U H=>EO wi tg tc te xs sel U H λv H1=>D.nx (U.set ni (some v)) H1):=by
 intro Y s U H DD I h;rw[exec_Assign_Name_used _ _ _ _ hsw];refine wpAny_bind (wpAny_standAt (wpAny_bind ?_));show wpAny _ _ (do let _ <-comprehension (.ListComp elt [⟨tgt,iter,ifs,0⟩] scope pos) scope X.env _ (newList []) false (eval iter X.env) (some (assign (.Name y py) X.env))) _ _ s;refine wpAny_bind (wpAny_mono (wpAny_comprehension_free (use:=some (assign (.Name y py) X.env)) (Q:=λ_ s'=>SP X Y DD .next s') rfl hs S.clos S.kind S.names ?_) (λ_ s' hq=>wpAny_pure (wpAny_pure hq)) λ_ _ e=>e);refine au (hi Y s U H _ I h) λv s1 h1=>au h1 λitv s2 h2=>?_
 obtain ⟨it,fp,tn,J,H2,e,I2,T,mM,f2,h2⟩:=h2;subst e;refine wpAny_newObj_type ?_;have hD:H2 s2.heap.objs.size=none:=I2.hok.fresh (Nat.le_refl _);have I3:Inv X Y U (upd H2 s2.heap.objs.size (.lst [])) { s2 with heap:=s2.heap.push { cls:=.type "list",dict:=none,data:=.seq ([]:List Value).toArray } }:=
  I2.laid (t':=s2.toks) (λb u e=>Heap.get?_push_of_some _ e) (Nat.le_refl _) ⟨Nat.zero_le _,[],0,.nil,Heap.get?_push_size _ rfl⟩
 have fo2:∀ b ∈ fp,b<s2.heap.objs.size:=λb hb=>by
  obtain ⟨o,ho,_⟩:=T.obj _ _ mM b hb;exact Heap.lt_size ho
 have f3:∀ b ∈ fp,gz X Y (upd H2 s2.heap.objs.size (.lst [])) b:=λb hb=>⟨by rw[af (Nat.ne_of_lt (fo2 b hb))];exact (f2 b hb).1,(f2 b hb).2⟩
 have st3:tn 0 (s2.heap.push { cls:=.type "list",dict:=none,data:=.seq ([]:List Value).toArray }):=T.keep _ _ _ mM λb hb o e=>Heap.get?_push_of_some _ e
 have fo3:∀ b ∈ fp,b<(s2.heap.push { cls:=.type "list",dict:=none,data:=.seq ([]:List Value).toArray }).objs.size:=λb hb=>by
  rw[Heap.size_push];exact Nat.lt_succ_of_lt (fo2 b hb)
 obtain ⟨W,⟨m0,w0⟩,turn⟩:=h2 _ hD;generalize s2.heap.objs.size=D at*;generalize hs3:({ s2 with heap:=s2.heap.push { cls:=.type "list",dict:=none,data:=.seq ([]:List Value).toArray } }:Shared)=s3 at*;have st3':tn 0 s3.heap:=by rw[<-hs3];exact st3
 have fo3':∀ b ∈ fp,b<s3.heap.objs.size:=by rw[<-hs3];exact fo3
 refine wpAny_newFunctionEnv S.nocell (by intro y hy;simp at hy) (λh' hns hsb=>?_) S.kind;have keep:∀ b o,s3.heap.get? b=some o->h'.get? b=some o:=λb o e=>(hsb.2 b (Nat.ne_of_lt (Heap.lt_size e))).trans (Heap.get?_push_of_some _ e)
 have I4:=oB (tk:=s3.toks+([]:List (Str×Value)).length) S I3 f3 fo3' hns keep;have st4:tn 0 h':=T.keep _ _ _ st3' λb hb o e=>keep b o e
 have stat:∀ {H':Hp},(∀ b ∈ fp,H' b=none)->∀ b ∈ fp,gz (eX X scope cl (xs++fr) s3 (upd H2 D (.lst [])) fp) (X.pn++Y) H' b:=λ{H'} hn b hb=>
  ⟨hn b hb,Nat.ne_of_lt (fo3' b hb),λz=>(mem_cons.mp (I3.gK b z)).elim (f3 b hb).2.1 (f3 b hb).2.2.1,.inl hb,λy c hy=>(f3 b hb).2.2.2.2.1 y c (S.sub y c hy),λp hp=>(f3 b hb).2.2.2.2.2 p (by simpa [eX] using hp)⟩
 have loop:codeAny (model X.prog X.w) X.A (.compLoop (.ListComp elt [⟨tgt,iter,ifs,0⟩] scope pos) 0 (.ref it) (.ref D) (compEnvC scope cl s3.heap.objs.size X.env))
   (compPost (model X.prog X.w) X.A X.xe (some (assign (.Name y py) X.env)) (λ_ s'=>SP X Y DD .next s') (.ref D) s3.heap.objs.size) { s3 with heap:=h',toks:=s3.toks+([]:List (Str×Value)).length }:=by
  refine codeAny_loop rfl (λn s'=>∃ i σ' H',Inv (eX X scope cl (xs++fr) s3 (upd H2 D (.lst [])) fp) (X.pn++Y) σ' H' s'/\tn i s'.heap/\(∀ b ∈ fp,H' b=none)/\W i n σ' H') (λn s5 hI=>?_) m0 ⟨0,_,_,I4,st4,λb hb=>(f3 b hb).1,w0⟩;show wpAny _ _ ((compTurn (.ListComp elt [⟨tgt,iter,ifs,0⟩] scope pos) 0 (.ref it) (.ref D) (compEnvC scope cl s3.heap.objs.size X.env)).onRaise (λx=>do noteFrame x (compEnvC scope cl s3.heap.objs.size X.env);theTreesLotGoes x)) _ _ s5;refine wpAny_noted ?_;refine rH (ht s3 (upd H2 D (.lst [])) fp).1 ?_;obtain ⟨i,σ5,H5,I5,st5,fr5,w5⟩:=hI;rcases turn i n σ5 H5 w5 with ⟨stop,q⟩|⟨go,Nn,hNn,step⟩
  ·refine au (T.done (eX X scope cl (xs++fr) s3 (upd H2 D (.lst [])) fp) rfl rfl rfl hc i _ s5 σ5 H5 _ I5 (stat fr5) st5 stop) λr s6 ⟨hr,I6⟩=>?_
   subst hr;obtain ⟨m,hn,_⟩:=I6.loc;have J:Inv X Y U H5 s6:=I3.vV (ch:=fp) I6.os I6.base I6.hok I6.bare λb hb=>⟨(f3 b hb).2.2.2.1,(f3 b hb).2.1,(f3 b hb).2.2.2.2.1,(f3 b hb).2.2.2.2.2⟩
   have fC:H5 s3.heap.objs.size=none:=I6.free;have nL:s3.heap.objs.size≠X.env.locals:=Ne.symm (Nat.ne_of_lt I3.lt);have nC:∀ z c,X.env.cells.lookup z=some c->c≠s3.heap.objs.size:=λz c e=>by
    obtain ⟨v,o,ho,_⟩:=I3.cell z c e;exact Nat.ne_of_lt (Heap.lt_size ho)
   show wpAny _ _ (assign (.Name y py) X.env (.ref D)) _ _ s6;refine wpAny_assign_Name (kq J hN hni (.inl hy) (v:=.ref D) rfl (λs7 J7 hsb=>?_) (.inr hy));obtain ⟨a,sb,ha⟩:=hsb;have hne:s3.heap.objs.size≠a:=by
    rcases ha with ha|ha
    ·rw[ha];exact nL
    ·exact Ne.symm (nC _ _ ha)
   refine ⟨m,hn.sameBut sb hne,λh'' hs''=>⟨_,H5,?_,q⟩⟩;exact J7.turned (h':=h'') (t':=s7.toks) (it:=s3.heap.objs.size) (λb o hb e=>(hs''.2 b hb).trans e) fC nL (.inr I3.sz) nC λp hp=>Nat.ne_of_lt (Heap.lt_size (I3.pin p hp).1)
  ·have fin:∀ {σ8:St}{H10:Hp}{s10:Shared},Inv (eX X scope cl (xs++fr) s3 (upd H2 D (.lst [])) fp) (X.pn++Y) σ8 H10 s10/\tn (i+1) s10.heap/\(∀ b ∈ fp,H10 b=none)->Nn σ8 H10->∃ m',m'<n/\∃ i σ' H',Inv (eX X scope cl (xs++fr) s3 (upd H2 D (.lst [])) fp) (X.pn++Y) σ' H' s10/\tn i s10.heap/\(∀ b ∈ fp,H' b=none)/\W i m' σ' H':=λ⟨I,t,f⟩ nn=>by
    obtain ⟨m',hm,w10⟩:=hNn _ _ nn;exact ⟨m',hm,i+1,_,_,I,t,f,w10⟩
   refine au (T.item (eX X scope cl (xs++fr) s3 (upd H2 D (.lst [])) fp) rfl rfl rfl hc i _ s5 σ5 H5 _ I5 (stat fr5) st5 go) λr s6 ⟨u,hr,h6⟩=>?_
   subst hr;refine au h6 λ_ s7 ⟨xv,H7,I7,r7,y7,st7,fr7⟩=>?_
   have I7':=I7.pinned (stat fr7) (T.obj _ _ st7);refine B1 (hg s3 _ fp _ s7 σ5 H7 xv u _ I7' r7 (step xv _ y7)) λ_ s8 ⟨σ8,H8,I8,q8⟩=>?_
   refine B1 ((ht s3 _ fp).2 _ s8 σ8 H8 _ I8 q8) λok s9 ⟨H9,I9,q9⟩=>?_
   have back:∀ {H10:Hp}{s10:Shared},Inv (eX X scope cl (xs++fr) s3 (upd H2 D (.lst [])) fp) _ σ8 H10 s10->Inv (eX X scope cl (xs++fr) s3 (upd H2 D (.lst [])) fp) (X.pn++Y) σ8 H10 s10/\tn (i+1) s10.heap/\(∀ b ∈ fp,H10 b=none):=λ{H10 s10} I10=>⟨I10.dI,T.keep _ _ _ st7 λb hb o e=>(I10.pin (b,o) (mem_append_right _ (mem_append_right _ (bD hb e)))).1,λb hb=>by
    obtain ⟨o,e,d⟩:=T.obj _ _ st7 b hb;exact (I10.pin (b,o) (mem_append_right _ (mem_append_right _ (bD hb e)))).2.1⟩
   refine ⟨λek=>?_,λek=>wpAny_pure ⟨rfl,fin (back I9) (q9.2 ek)⟩⟩;refine B1 (he s3 _ fp _ s9 _ _ _ I9 (q9.1 ek)) λuv s10 ⟨vv,H10,I10,r10,zs,hz,hzl,n10⟩=>?_
   refine B1 (gI (X:=eX X scope cl (xs++fr) s3 (upd H2 D (.lst [])) fp) _ s10 _ H10 (.ref D) [vv] (.ref D) [uv] (λ_ H'=>H'=upd H10 D (.lst (zs++[vv]))) I10 rfl (.cons r10 .nil) ⟨D,zs,vv,rfl,rfl,hz,hzl,rfl⟩) λ_ s11 ⟨_,H11,I11,_,e11⟩=>?_
   subst e11;exact wpAny_pure ⟨rfl,fin (back I11) n10⟩
 exact codeAny_compStart_list loop (T.self _ 0 _ _ _ st4 loop)
def tK {elt iter:Expr}{x y:Str}{px py pos spos:Pos}{wi:TI}{te:TE}{ni:Nat}(hc:X.calm=true)(S:ba X scope cl [x] fr sel)(hi:PI X (.Name x px) iter wi)
  (he:∀ (s:Shared) (H:Hp) (fp:List Addr),PE (eX X scope cl (x::fr) s H fp) elt te) (hs:∀ x,foldedSetIterable iter X.env x=pure x) (hN:X.N.Nodup) (hni:X.N[ni]? =some y) (hy:X.env.scope.names.lookup y=some .local)
  (hsw:swapsWith (.ListComp elt [⟨.Name x px,iter,[],0⟩] scope pos) (some (.Name y py)) spos.line X.env=pure true):PS X (.Assign [.Name y py] (.ListComp elt [⟨.Name x px,iter,[],0⟩] scope pos) spos) (λD U H=>Jm wi te sel U H λv H1=>D.nx (U.set ni (some v)) H1):=λY s U H D I h=>
 fA hc S hi.up (λs H fp=>l6 S) (λ_ _ _=>mx) he hs hN hni hy hsw Y s U H D I ⟨_,h,λ_ _ q=>q.g⟩
section
variable {prog:Program}{w:World}{A:Around}{E:JR}
def km {it t:Addr}{items:Array Value}(hne:t≠it):∀ (n i:Nat) (s:Shared) (Q:List Value->Shared->Prop),s.heap.IsListIter it t i->s.heap.IsList t items->i+n<=items.size->
  (∀ h',h'.IsListIter it t (i+n)->Heap.SameBut it s.heap h'->Q ((items.toList.drop i).take n) { s with heap:=h' })->wpAny (model prog w) A (draw (.ref it) n) Q E s
 |0,i,s,Q,hit,_,_,hQ=>by
  show wpAny _ _ (pure []) Q E s;exact wpAny_pure (by simpa using hQ s.heap hit (Heap.SameBut.refl ..))
 |n+1,i,s,Q,hit,ht,hle,hQ=>by
  have hlt:i<items.size:=by omega
  show wpAny _ _ (pyNext (.ref it) >>= _) Q E s;refine wpAny_bind (wpAny_pyNext_list_item hit ht (x:=items[i]) (by simp[hlt]) λh₁ hit₁ hs₁=>?_);refine wpAny_bind (wpAny_holding (km hne n (i+1) _ _ hit₁ (ht.extBut hs₁.extBut hne) nofun λh₂ hit₂ hs₂=>wpAny_pure ?_));have hd:items.toList.drop i=items[i]::items.toList.drop (i+1):=by simp[List.drop_eq_getElem_cons,hlt]
  have:=hQ h₂ (by rw[show i+(n+1)=i+1+n by omega];exact hit₂) (hs₁.trans hs₂);rw[hd,List.take_succ_cons] at this;exact this
def gE {t:Addr}{items:Array Value}{Q:List Value->Shared->Prop}(hh:A.handled=none)(ht:s.heap.IsList t items)(hty:s.TypeIs (.ref t) "list")
  (hQ:∀ h',Heap.ExtBut s.heap.objs.size s.heap h'->Q items.toList { s with heap:=h' }):wpAny (model prog w) A (unpackItems (.ref t) items.size none) Q E s:=by
 have hlt:t≠s.heap.objs.size:=by obtain ⟨o,ho,_⟩:=id ht;exact Nat.ne_of_lt (Heap.lt_size ho)
 unfold unpackItems;refine wpAny_bind ?_
 ·unfold notIterableAtAll;refine wpAny_bind (wpAny_specialOf hty PySem.F.slot_list_iter.lookup ?_);refine wpAny_pure ?_;simp only[Bool.false_eq_true,if_false];refine wpAny_bind (wpAny_holding (wpAny_pyIter_list ht ?_));refine wpAny_bind (wpAny_holding (km hlt items.size 0 _ _ ⟨_,Heap.get?_push_size _ rfl,rfl,rfl⟩ (ht.push _) nofun λh₁ hit₁ hs₁=>?_));have hall:List.take items.size (List.drop 0 items.toList)=items.toList:=by
   rw[drop_zero];exact List.take_of_length_le (by simp)
  rw[hall];rw[if_neg (by simp)];have ht₁:h₁.IsList t items:=(ht.push _).extBut hs₁.extBut hlt;refine wpAny_bind (wpAny_holding (wpAny_pyNext_list_end hh hit₁ ht₁ (by simp) λh₂ he₂=>?_));simp only[Option.isSome_none,Bool.false_eq_true,if_false];refine wpAny_pure (hQ h₂ λb o hb e=>he₂ b o hb (hs₁.extBut b o hb (Heap.get?_push_of_some _ e)))
end
def Cv {es:List Expr}{k:Nat}{pos:Pos}{t:AV}{n:Nat}(hc:X.calm=true)(h:DU X es t)
  (hn:(assignEach es X.env).length=n) (hst:(assignEach es X.env).findIdx? (·.1)=none){Y:JS}{U:St}{H:Hp}{a:Addr}{u:Value}{xs:List V}{Q:St->Hp->Prop}(I:Inv X Y U H s) (r:RelV (.ref a) u)
  (hq:bg X.K H a xs) (hl:xs.length=n) (hw:t xs U H Q):wpAny (model X.prog X.w) X.A (assign (.Tuple es k pos) X.env u) (λ_ s'=>∃ σ' H',Inv X Y σ' H' s'/\Q σ' H') X.xe s:=by
 cases r;obtain ⟨its,rv,p,hz⟩:=I.list hq;rw[assign_Tuple];refine wpAny_bind (wpAny_standAt ?_);unfold unpack;have e1:(assignEach es X.env).length=its.toArray.size:=by
  rw[hn,<-hl];simp[rv.length]
 rw[e1,hst];refine wpAny_bind (wpAny_holding (gE (I.ok.hd hc) p.isList p.isList.typeIs λh' hx=>?_));have I1:Inv X Y U H { s with heap:=h' }:=I.kept (t':=s.toks) λb o e=>hx b o (Nat.ne_of_lt (Heap.lt_size e)) e
 exact h Y _ U H xs _ Q I1 (by simpa using rv) hw
end
end L2
namespace L3
open PySem PySem.Spec L2
set_option maxHeartbeats 2000000
abbrev BL:Expr->Bool
 | .Tuple ..=>false
 |_=>true
abbrev uH (S:Sn):List Nat->List Expr->Bool
 | [],[]=>true
 |i::is,.Name x _::r=>S.loc i x&&uH S is r
 |_,_=>false
abbrev IL (S:Sn):Hb->Expr->Bool
 | .nm i,e=>match e with| .Name x _=>S.loc i x|_=>false
 | .tp is,e=>match e with| .Tuple ts _ _=>uH S is ts|_=>false
 | .nt i is,e=>match e with| .Tuple y1 _ _=>(match y1 with| [y2,y3]=>(match y2 with| .Name x _=>(match y3 with| .Tuple ts _ _=>S.loc i x&&uH S is ts|_=>false)|_=>false)|_=>false)|_=>false
mutual
noncomputable def mS (S:Sn):Sx->Stmt->Bool
 | .asg i e,s=>match s with| .Assign y1 e' _=>(match y1 with| [y2]=>(match y2 with| .Name x _=>S.loc i x&&mE S e e'|_=>false)|_=>false)|_=>false
 | .asgT is e,s=>match s with| .Assign y1 e' _=>(match y1 with| [y2]=>(match y2 with| .Tuple ts _ _=>uH S is ts&&mE S e e'&&BL e'|_=>false)|_=>false)|_=>false
 | .par is es,_=>false
 | .sub o i v,s=>match s with| .Assign y1 v' _=>(match y1 with| [y2]=>(match y2 with| .Subscript o' i' _=>mE S o o'&&mE S i i'&&mE S v v'&&eD i'|_=>false)|_=>false)|_=>false
 | .fld o f v,s=>match s with| .Assign y1 v' _=>(match y1 with| [y2]=>(match y2 with| .Attribute o' f' _=>mE S o o'&&decide (f=f')&&mE S v v'|_=>false)|_=>false)|_=>false
 | .aug i op e,_=>false
 | .augS o i op e,s=>match s with| .AugAssign y1 op' e' _=>(match y1 with| .Subscript o' i' _=>mE S o o'&&mE S i i'&&decide (op=op')&&mE S e e'&&eD i'|_=>false)|_=>false
 | .ret e,s=>match s with| .Return y1 _=>(match y1 with|some e'=>mE S e e'|_=>false)|_=>false
 | .retN,_=>false
 | .pass,_=>false
 | .brk,_=>false
 | .cont,_=>false
 | .expr e,s=>match s with| .Expr e' _=>mE S e e'&&qo e'|_=>false
 | .ife c a b,s=>match s with| .If c' a' b' _=>mT S c c'&&mB S a a'&&mB S b b'|_=>false
 | .whl c b,s=>match s with| .While c' b' y1 _=>(match y1 with| []=>mT S c c'&&mB S b b'|_=>false)|_=>false
 | .for t it b,s=>match s with| .For t' it' b' y1 _=>(match y1 with| []=>IL S t t'&&mI S it t' it'&&mB S b b'&&cT it'|_=>false)|_=>false
 | .rais e,s=>match s with| .Raise y1 y2 _=>(match y1 with|some e'=>(match y2 with|none=>mE S e e'|_=>false)|_=>false)|_=>false
 | .tryx b hs,s=>match s with| .Try b' y1 y2 y3 _=>(match y1 with|h0::hs'=>(match y2 with| []=>(match y3 with| []=>mB S b b'&&mH S hs (h0::hs')|_=>false)|_=>false)|_=>false)|_=>false
noncomputable def mB (S:Sn):mh->List Stmt->Bool
 | .nil,l=>l.isEmpty
 | .cons s r,l=>match l with|s'::r'=>mS S s s'&&mB S r r'| []=>false
noncomputable def mH (S:Sn):yf->List ExceptHandler->Bool
 | .nil,l=>l.isEmpty
 | .cons c i b hs,l=>match l with| .ExceptHandler (some (.Name x _)) (some n) (b0::bs) _::r=>S.kh x&&decide (S.T.gcl.lookup x=some c)&&decide (S.N[i]? =some n)&&decide (S.sc.names.lookup n=some .local)&&mB S b (b0::bs)&&mH S hs r|_=>false
end
structure Gs (X:Cx) (G:Gx) (S:Sn) (k:Nat) (E:St->XK):Prop extends Gd X G S k E where
 xok:G.cm=true->EC X E
 own:PassesOwn (model X.prog X.w) X.A X.env X.xe
 stk:X.stack=X.env::X.outer
 fr:X.env.frame=some X.env.locals
 fn:∀ x,X.fn x=true
variable {e elt:Expr}{ts:List Expr}{p:Pos}{gs:List Comprehension}{scope:Scope}
section
variable {X:Cx}{G:Gx}{S:Sn}{k:Nat}{E:St->XK}
def Gs.fw (g:Gs X G S k E){Y:JS}{xe:JR}{E':St->XK}(hx:EC (X.fw Y xe) E')(ho:PassesOwn (model X.prog X.w) X.A X.env xe):Gs (X.fw Y xe) G S k E' where
 hK:=g.hK
 hT:=g.hT
 sc:=g.sc
 N:=g.N
 nd:=g.nd
 pass:=kC hx
 cm:=g.cm
 room:=g.room
 un:=g.un
 tab:=g.tab
 fns:=g.fns
 xok:=λ_=>hx
 own:=ho
 stk:=g.stk
 fr:=g.fr
 fn:=g.fn
def Gs.bh (g:Gs X G S k E)(e:Value):Gs (X.bh e) { G with cm:=false } S k (λ_ _ _=>False) where
 hK:=g.hK
 hT:=g.hT
 sc:=g.sc
 N:=g.N
 nd:=g.nd
 pass:=λY U H s e s' I h=>by
  obtain ⟨e,H',C,dx,fs,T,_,_,_,_,_,_,_,_,_,q⟩:=h;exact q.elim
 cm:=λz=>by cases z
 room:=λz=>by cases z
 un:=g.un
 tab:=g.tab
 fns:=g.fns
 xok:=λz=>by cases z
 own:=PassesOwn.never
 stk:=g.stk
 fr:=g.fr
 fn:=g.fn
def jA (env:Env):∀ {is:List Nat}{ts:List Expr},uH S is ts=true->(assignEach ts env).length=is.length/\(assignEach ts env).findIdx? (·.1)=none
 | [],[],_=>⟨rfl,rfl⟩
 | [],_::_,h=>by simp[uH] at h
 |_::_,[],h=>by simp[uH] at h
 |i::is,t::ts,h=>by
  cases t<;>simp[uH] at h
  rename_i x p;obtain ⟨h1,h2⟩:=jA env h.2;have e:assignEach (.Name x p::ts) env=(false,assign (.Name x p) env)::assignEach ts env:=rfl;rw[e];refine ⟨by simp[h1],?_⟩;rw[List.findIdx?_cons];simp[h2]
def lE (g:Gs X G S k E):∀ {is:List Nat}{ts:List Expr},uH S is ts=true->DU X ts (gl is)
 | [],[],_=>λY s U H vs us Q I r h=>lr Y s U H vs us Q I r ⟨length_eq_zero_iff.mp h.1,by
   have:=h.2;have e:vs=[]:=length_eq_zero_iff.mp h.1;subst e;exact this⟩
 | [],_::_,h=>by simp[uH] at h
 |_::_,[],h=>by simp[uH] at h
 |i::is,t::ts,h=>by
  cases t<;>simp[uH] at h
  rename_i x p;obtain ⟨hi,hx⟩:=g.loc h.1;have h1:PG X (.Name x p) (fU i):=fY (by rw[g.N];exact g.nd) hi hx (.inl (g.fn x));have h2:=lE g h.2;intro Y s U H vs us Q I r q;refine gq h1 h2 rfl Y s U H vs us Q I r ?_;obtain ⟨hl,q⟩:=q;cases vs with
  |nil=>simp at hl
  |cons v vs=>exact ⟨v,vs,rfl,by simpa using hl,q⟩
def BI (g:Gs X G S k E)(hc:G.cm=true){t:Hb}(h:IL S t e=true):PG X e (λv U H Q=>wG U t G.R.K v H λσ1=>Q σ1 H):=by
 cases t with
 |nm i=>
  conv at h=>lhs;whnf
  split at h
  ·obtain ⟨hi,hx⟩:=g.loc h;exact fY (by rw[g.N];exact g.nd) hi hx (.inl (g.fn _))
  ·cases h
 |tp is=>
  conv at h=>lhs;whnf
  split at h
  ·intro Y s U H v u Q I r q;obtain ⟨a,xs,rfl,hq,hl,q⟩:=q;obtain ⟨e1,e2⟩:=jA X.env h;rw[g.hK] at hq;rcases hq with hq|hq
   ·exact lq (g.cm hc) (lE g h) e1 e2 Y s U H _ u Q I r ⟨a,xs,rfl,hq,hl,hl,q⟩
   ·exact Cv (g.cm hc) (lE g h) e1 e2 I r hq hl ⟨hl,q⟩
  ·cases h
 |nt i is=>
  conv at h=>lhs;whnf
  split at h
  ·split at h
   ·split at h
    ·split at h
     ·intro Y s U H v u Q I r q;simp only[Bool.and_eq_true] at h;obtain ⟨a,y,b,ys,rfl,hq,hb,hl,q⟩:=q;obtain ⟨e1,e2⟩:=jA X.env h.2;obtain ⟨hi,hx⟩:=g.loc h.1;rw[g.hK] at hq hb;refine lq (n:=2) (g.cm hc) (gq (fY (by rw[g.N];exact g.nd) hi hx (.inl (g.fn _))) (gq (lq (g.cm hc) (lE g h.2) e1 e2) lr rfl) rfl) rfl rfl Y s U H _ u Q I r ⟨a,_,rfl,hq,rfl,y,_,rfl,.ref b,_,rfl,b,ys,rfl,hb,hl,hl,rfl,q⟩
     ·cases h
    ·cases h
   ·cases h
  ·cases h
def ng {kk:Nat}(n:Nat)(env:Env):swapsWithSole [.Tuple ts kk p] e n env=pure false:=by
 cases e<;>rfl
def sG {o i:Expr}(n:Nat)(env:Env):swapsWithSole [.Subscript o i p] e n env=pure false:=by
 cases e<;>rfl
def uz {o:Expr}{f:Str}(n:Nat)(env:Env):swapsWith e (some (.Attribute o f p)) n env=pure false:=by
 cases e<;>rfl
def pU {kk:Nat}(env:Env)(h:BL e=true):swappedStores [.Tuple ts kk p] e env=pure none:=by
 cases e<;>first|rfl|cases h
def qL {o i:Expr}(env:Env):swappedStores [.Subscript o i p] e env=pure none:=by
 cases e<;>rfl
def qj {o i:Expr}{pos:Pos}{env:Env}(h:eD i=true):∀ v,assign (.Subscript o i pos) env v=(do
   let ov <-holding [v] (eval o env)
   let iv <-holding [v,ov] (eval i env)
   standAt pos
   holding [v,ov,iv] (setItem ov iv v)
   release [v,ov,iv] []):=by
 intro v;cases i<;>first|rfl|cases h
def zx {i:Expr}(h:eD i=true):∀ ov iv new,augStore i ov iv new=(do holding [new,ov,iv] (setItem ov iv new);release [new,ov,iv] [];pure .next):=by
 intro ov iv new;cases i<;>first|rfl|cases h
def FJ (op:Operator):Hq X op (Hm op):=by
 intro Y s U H x y v u Q I r1 r2 h;unfold Hm at h
 split at h
 ·exact CM Y s U H _ _ v u Q I r1 r2 ⟨_,_,rfl,rfl,h⟩
 ·exact En Y s U H _ _ v u Q I r1 r2 ⟨_,_,rfl,rfl,h⟩
 ·exact h.elim
def CO (g:Gd X G S k E):Et X (vo G.R.K):=by
 intro Y s U H x y v u Q I r1 r2 h;unfold vo at h;rw[g.hK] at h
 split at h
 ·obtain ⟨xs,w,h1,h2,h3,q⟩:=h;exact wK Y s U H _ _ v u Q I r1 r2 ⟨_,xs,_,w,rfl,rfl,h1,h2,h3,q⟩
 ·exact h.elim
def pM {py:Pos}{y:Str}{n:Nat}{env:Env}(hk:env.scope.kind=.function):∃ b,swapsWith (.ListComp elt gs scope p) (some (.Name y py)) n env=pure b/\(b=true->env.scope.names.lookup y=some .local):=by
 refine ⟨_,rfl,λh=>?_⟩;simp only[Bool.and_eq_true] at h;have:=h.1.1.2;exact beq_iff_eq.mp this
end
set_option maxHeartbeats 2000000
variable {S:Sn}
section
variable {k:Nat}
def ER {x:Ex}(h:mE S x (.ListComp elt gs scope p)=true):(∃ e' sel it y py iter,x=.lc e' sel it/\gs=[⟨.Name y py,iter,[],0⟩]/\
  fg S scope [y] sel=true/\mI S it (.Name y py) iter=true/\mE { S with sc:=dz S.sc scope,N:=y::sel.filterMap λi=>S.N[i]? } e' elt=true/\cT iter=true)\/
  (∃ e' c sel it y py iter c',x=.lci e' c sel it/\gs=[⟨.Name y py,iter,[c'],0⟩]/\
  fg S scope [y] sel=true/\mI S it (.Name y py) iter=true/\mE { S with sc:=dz S.sc scope,N:=y::sel.filterMap λi=>S.N[i]? } e' elt=true/\mT { S with sc:=dz S.sc scope,N:=y::sel.filterMap λi=>S.N[i]? } c c'=true/\cT iter=true)\/
  ∃ e' n sel it ts kt pt iter,x=.lct e' n sel it/\gs=[⟨.Tuple ts kt pt,iter,[],0⟩]/\
  fg S scope (FA ts) sel=true/\vE { S with sc:=dz S.sc scope,N:=FA ts++sel.filterMap λi=>S.N[i]? } (List.range n) ts=true/\(FA ts).length=n/\mI S it (.Tuple ts kt pt) iter=true/\mE { S with sc:=dz S.sc scope,N:=FA ts++sel.filterMap λi=>S.N[i]? } e' elt=true/\cT iter=true:=by
 cases x<;>(try (cases (show false=true from h);done))
 all_goals (conv at h=>lhs;whnf)
 all_goals (iterate 5 (split at h<;>first|(cases h;done)|skip))
 all_goals (simp only[Bool.and_eq_true,decide_eq_true_eq] at h)
 all_goals first
  |exact .inl ⟨_,_,_,_,_,_,rfl,rfl,h.1.1.1,h.1.1.2,h.1.2,h.2⟩
  |exact .inr (.inl ⟨_,_,_,_,_,_,_,_,rfl,rfl,h.1.1.1.1,h.1.1.1.2,h.1.1.2,h.1.2,h.2⟩)
  |exact .inr (.inr ⟨_,_,_,_,_,_,_,_,rfl,rfl,h.1.1.1.1.1,h.1.1.1.1.2,h.1.1.1.2,h.1.1.2,h.1.2,h.2⟩)
def qm (e:Expr){x:Ex}(h:mE S x e=true):qo e=true\/∃ elt gs scope p,e=.ListComp elt gs scope p:=by
 cases e<;>first|exact .inl rfl|exact .inr ⟨_,_,_,_,rfl⟩|(cases x<;>cases (show false=true from h))
def Gf {G:Gx}{X:Cx}{E:St->XK}(g:Gs X G S k E){i:Nat}{x:Str}{e:Ex}{e':Expr}{px:Pos}(hx:S.loc i x=true)(h:mE S e e'=true):PS X (.Assign [.Name x px] e' p) (λD U H=>wS (.asg i e) G D E U H):=by
 obtain ⟨hi,hl⟩:=g.loc hx;have hN:X.N.Nodup:=by rw[g.N];exact g.nd
 rcases qm e' h with hn|⟨elt,gs,scope,pp,rfl⟩
 ·exact xy hN hi hl (sE e g.toGd h) (gk hn _ _ _) (.inl (g.fn x))
 ·intro Y s U H D I q;obtain ⟨b,hb,hb2⟩:=pM (elt:=elt) (gs:=gs) (scope:=scope) (p:=pp) (py:=px) (y:=x) (n:=p.line) (env:=X.env) I.ok.kind;cases b with
  |false=>exact xy hN hi hl (sE e g.toGd h) hb (.inl (g.fn x)) Y s U H D I q
  |true=>
   rcases ER h with ⟨e2,sel,it,y,py,iter,rfl,rfl,h1,h2,h3,h4⟩|⟨e2,c,sel,it,y,py,iter,c',rfl,rfl,h1,h2,h3,h5,h4⟩|⟨e2,n,sel,it,ts,kt,pt,iter,rfl,rfl,h1,h5,h6,h2,h3,h4⟩
   ·obtain ⟨hc,q⟩:=(show G.cm=true/\wI G it U H (λJ H1=>AM (λσ' H' Q'=>wE G e2 σ' H' Q' (λ_ _=>False)) J (none::fh U sel) H1 (λx H1=>D.nx (U.set i (some x)) H1)) (E U) from q);rw[u9] at q;obtain ⟨cl,C⟩:=bZ g.toGd I.ok h1;exact tK (g.cm hc) C (sI it g.toGd h2) (λs H fp=>sE e2 (g.toGd.comp C s H fp) h3) (bB h4 _) hN hi (hb2 rfl) hb Y s U H D I q
   ·obtain ⟨hc,q⟩:=(show G.cm=true/\wI G it U H (λJ H1=>Dn (λσ' H' Q'=>wT G c σ' H' Q' (λ_ _=>False)) (λσ' H' Q'=>wE G e2 σ' H' Q' (λ_ _=>False)) J (none::fh U sel) H1 (λx H1=>D.nx (U.set i (some x)) H1)) (E U) from q);rw[xl] at q;obtain ⟨cl,C⟩:=bZ g.toGd I.ok h1;exact fA (g.cm hc) C (sI it g.toGd h2) (λs H fp=>l6 C) (λs H fp=>rm (sT c (g.toGd.comp C s H fp) h5)) (λs H fp=>sE e2 (g.toGd.comp C s H fp) h3) (bB h4 _) hN hi (hb2 rfl) hb Y s U H D I q
   ·obtain ⟨hc,q⟩:=(show G.cm=true/\wI G it U H (λJ H1=>LCt G.R.K n (λσ' H' Q'=>wE G e2 σ' H' Q' (λ_ _=>False)) J (List.replicate n none++fh U sel) H1 (λx H1=>D.nx (U.set i (some x)) H1)) (E U) from q);rw[D4,<-yY h6] at q;obtain ⟨cl,C⟩:=bZ g.toGd I.ok h1;exact fA (g.cm hc) C (sI it g.toGd h2) (λs H fp=>yI (g.toGd.comp C s H fp) hc h5) (λs H fp=>mx) (λs H fp=>sE e2 (g.toGd.comp C s H fp) h3) (bB h4 _) hN hi (hb2 rfl) hb Y s U H D I q
mutual
theorem sS:∀ (x:Sx){G:Gx}{X:Cx}{S:Sn}{E:St->XK},Gs X G S k E->∀ {st:Stmt},mS S x st=true->PS X st (λD U H=>wS x G D E U H)
 | .asg i e,G,X,S,E,g,st,h=>by
  sleep 3
  simp only[Bool.and_eq_true] at h;exact Gf g h.1 h.2
 | .asgT is e,G,X,S,E,g,st,h=>by
  sleep 3
  simp only[Bool.and_eq_true] at h;obtain ⟨⟨h1,h2⟩,h3⟩:=h;intro Y s U H D I q;obtain ⟨hc,q⟩:=(show G.cm=true/\wE G e U H (λx H1=>wG U (.tp is) G.R.K x H1 λσ1=>D.nx σ1 H1) (E U) from q);exact wM (sE e g.toGd h2) (BI g hc (t:=.tp is) (by simp only[IL];exact h1)) (ng _ _) (pU _ h3) rfl Y s U H D I q
 | .par is es,G,X,S,E,g,st,h=>by cases (show false=true from h)
 | .sub o i v,G,X,S,E,g,st,h=>by
  sleep 3
  simp only[Bool.and_eq_true] at h;obtain ⟨⟨⟨h1,h2⟩,h3⟩,h4⟩:=h;exact wM (sE v g.toGd h3) (Eu (sE o g.toGd h1) (sE i g.toGd h2) (rp g.un) (qj h4)) (sG _ _) (qL _) rfl
 | .fld o f v,G,X,S,E,g,st,h=>by
  sleep 3
  simp only[Bool.and_eq_true,decide_eq_true_eq] at h;obtain ⟨⟨h1,rfl⟩,h3⟩:=h;intro Y s U H D I q;have q':wE G v U H (λy H1=>wE G o U H1 (λx H2=>yN G f x y H2 (λH3=>D.nx U H3)) (E U)) (E U):=q;refine plainObj_wpAny_Assign_Attribute (au (sE v g.toGd h3 Y s U H _ I q') λu s1 ⟨y,H1,I1,ry,q⟩=>au (sE o g.toGd h1 Y s1 U H1 _ I1 q) λov s2 ⟨x,H2,I2,rx,q2⟩=>?_) (uz _ _);unfold yN at q2;obtain ⟨a,i,rfl,hna,q2⟩:=q2;obtain rfl:ov=Value.ref a:=rx;have n:=g.tab.na i f hna;rcases q2 with ⟨dx,fs,ho,ea,l,q2⟩|⟨d,fs,fr,ho,ea,l,q2⟩|⟨fr,ho,ea,q2⟩
  ·exact qF I2 ea (g.tab.oc i ho).1 n l ry λs3 I3=>⟨U,_,I3,q2⟩
  ·exact pT I2 ea (g.tab.xc i ho).1 n l ry λs3 I3=>⟨U,_,I3,q2⟩
  ·exact qw I2 ea (g.tab.xc i ho).1 n ry λd s3 hd I3=>⟨U,_,I3,q2 d hd⟩
 | .aug i op e,G,X,S,E,g,st,h=>by cases (show false=true from h)
 | .augS o i op e,G,X,S,E,g,st,h=>by
  sleep 2
  simp only[Bool.and_eq_true,decide_eq_true_eq] at h;obtain ⟨⟨⟨⟨h1,h2⟩,rfl⟩,h3⟩,h4⟩:=h;exact AW (sE o g.toGd h1) (sE i g.toGd h2) (CO g.toGd) (sE e g.toGd h3) (FJ op) (rp g.un) (zx h4)
 | .ret e,G,X,S,E,g,st,h=>by
  sleep 2
  exact D6 (sE e g.toGd h)
 | .retN,G,X,S,E,g,st,h=>by cases (show false=true from h)
 | .pass,G,X,S,E,g,st,h=>by cases (show false=true from h)
 | .brk,G,X,S,E,g,st,h=>by cases (show false=true from h)
 | .cont,G,X,S,E,g,st,h=>by cases (show false=true from h)
 | .expr e,G,X,S,E,g,st,h=>by
  sleep 1
  simp only[Bool.and_eq_true] at h;exact zP (sE e g.toGd h.1) (gk h.2 _ _ _)
 | .ife c a b,G,X,S,E,g,st,h=>by
  sleep 1
  simp only[Bool.and_eq_true] at h;exact PS.imp (Gp (PT.cn (sT c g.toGd h.1.1)) (sB a g h.1.2) (sB b g h.2)) λD U H q=>⟨_,q,λk H1 z=>by rwa [di] at z⟩
 | .whl c b,G,X,S,E,g,st,h=>by
  sleep 2
  simp only[Bool.and_eq_true] at h;refine PS.imp (xR g.own (PT.cn (sT c g.toGd h.1)) (sB b g h.2)) λD U H q=>?_
  obtain ⟨W,w0,w1⟩:=q;exact ⟨W,w0,λm U H w=>⟨_,w1 m U H w,λk H1 z=>by rwa [di] at z⟩⟩
 | .for t it b,G,X,S,E,g,st,h=>by
  sleep 2
  simp only[Bool.and_eq_true] at h;obtain ⟨⟨⟨h1,h2⟩,h3⟩,h4⟩:=h;intro Y s U H D I q
  conv at q=>whnf
  obtain ⟨hc,q⟩:=q;unfold fZ at q;exact D8 g.own (g.cm hc) (sI it g.toGd h2) (BI g hc h1) (sB b g h3) (bB h4 _) Y s U H D I q
 | .rais e,G,X,S,E,g,st,h=>by
  sleep 3
  intro Y s U H D I q
  conv at q=>whnf
  obtain ⟨hc,q⟩:=q;refine vg (g.xok hc) (g.cm hc) (PE.cn (sE e g.toGd h)) Y s U H D I ⟨_,q,λv H1 z=>?_⟩;obtain ⟨a,i,dx,fs,ev,ea,hi,q⟩:=z;exact ⟨a,_,dx,fs,ev,ea,(g.tab.xc i hi).1,q⟩
 | .tryx b hs,G,X,S,E,g,st,h=>by
  sleep 4
  simp only[Bool.and_eq_true] at h;intro Y s U H D I q;obtain ⟨hc,q⟩:=(show G.cm=true/\wB b G D (λσ' e H'=>wH hs G D σ' e H') U H from q);refine Ds (E':=λσ' e H'=>wH hs G D σ' e H') I g.stk g.fr (λxe hx ho=>?_) λσ' H' s' e C dx fs T J he hT hH hp st q'=>?_
  ·exact sB b (g.fw hx ho) h.1 [] s U H D (I.fw xe) q
  ·exact sH hs g h.2 J he hT hH hp st q'
theorem sB:∀ (x:mh){G:Gx}{X:Cx}{S:Sn}{E:St->XK},Gs X G S k E->∀ {st:List Stmt},mB S x st=true->yq X st (λD U H=>wB x G D E U H)
 | .nil,G,X,S,E,g,[],h=>Ab
 | .nil,G,X,S,E,g,_::_,h=>by cases (show false=true from h)
 | .cons x xs,G,X,S,E,g,[],h=>by cases (show false=true from h)
 | .cons x xs,G,X,S,E,g,st::sts,h=>by
  have h:(mS S x st&&mB S xs sts)=true:=h;simp only[Bool.and_eq_true] at h;exact vT (sS x g h.1) (sB xs g h.2)
theorem sH:∀ (x:yf){G:Gx}{X:Cx}{S:Sn}{E:St->XK},Gs X G S k E->∀ {hs:List ExceptHandler},mH S x hs=true->∀ {Y:JS}{U:St}{H:Hp}{s:Shared}{e C:Addr}{dx:Option Addr}{fs:List (Str×V)}{T:Addr}{D:Ends},
  L2.Inv X Y U H s->H e=some (.exc C dx fs false)->X.s₀.heap.objs.size<=T->H T=none->(∀ p ∈ X.pn++Y,p.1≠T)->yd s.heap e T .none->wH x G D U e H->wpAny (model X.prog X.w) X.A (handleBy (.ref e) X.env hs) (SP X Y D) X.xe s
 | .nil,G,X,S,E,g,hs,h,Y,U,H,s,e,C,dx,fs,T,D,I,he,hT,hH,hp,st,q=>by
  simp only[wH] at q
 | .cons c i b hs,G,X,S,E,g,l,h,Y,U,H,s,e,C,dx,fs,T,D,I,he,hT,hH,hp,st,q=>by
  conv at h=>lhs;whnf
  split at h
  ·simp only[Bool.and_eq_true,decide_eq_true_eq] at h;obtain ⟨⟨⟨⟨⟨h1,h2⟩,h3⟩,h4⟩,h5⟩,h6⟩:=h;obtain ⟨hg,hdb⟩:=g.glob h1;have hm:=g.tab.gcl _ _ (g.hT▸h2);obtain ⟨j,dx',fs',kk,he',hxc,hsub,q⟩:=(show ∃ j dx fs k,H e=some (.exc (G.R.cad j) dx fs false)/\G.T.xc.contains j=true/\G.T.sub.lookup (j,c)=some k/\_ from q);have ee:=he.symm.trans he'
   injection ee with ee
   injection ee with e1 e2 e3 e4
   subst e1;obtain ⟨_,hs2⟩:=g.tab.sub j c kk hsub;obtain ⟨hs3,hs4⟩:=hs2 hxc;refine nI (i:=i) I he hT hH hp st (g.tab.xc j hxc).1 hs4 hs3 hg hm (by rw[g.N];exact g.nd) (by rw[g.N];exact h3) (by rw[g.sc];exact h4) hdb (λhk s2 J=>?_) λhk=>?_
   ·rw[hk] at q;unfold gy at q;exact sB b (g.bh (.ref e)) h5 Y s2 _ H _ J q
   ·rw[hk] at q;unfold gy at q;exact sH hs g h6 I he hT hH hp st q
  ·cases h
end
end
abbrev cH (T:Tab)(R:Rt):Nat->Nat->Sp
 |0,_=>λ_ _ _ _=>False
 |k+1,f=>λvs H Q E=>match T.fns[f]? with
  |some d=>vs.length=d.ps.length/\wB d.body ⟨T,R,cH T R k,true⟩ { nx:=λ_ H'=>Q .non H',rt:=Q } (λ_=>E) (start d.N vs) H
  |none=>False
structure tV (K:W.Frag) (T:Tab) (f:Addr) (d:ai):Prop where
 ex:∃ (name qual:Str) (params:Arguments) (body:List Stmt) (scope:Scope) (dV kV doc pm cdv ct oc:Value) (od an:Option Addr) (osl:Array (Option Value)),
  K.lookup f=some ⟨oc,od,.func (W.fnOf name qual params body scope dV kV doc pm an cdv ct),osl⟩/\W.codeIn K cdv qual=true/\i4 d.N d.ps scope/\mB ⟨T,scope,d.N⟩ d.body body=true/\
  ∀ j,∃ ds,Binds K (W.fnOf name qual params body scope dV kV doc pm an cdv ct) d.ps ds/\Vals (d.dfl.drop j) ds
def vn {P:Program}{w:World}{K:W.Frag}{mg:JT}{base:Heap}{T:Tab}{R:Rt}(tab:A4 K mg T R)(hK:R.K=K)(fs:∀ f d,T.fns[f]? =some d->tV K T (R.fad f) d):
  ∀ (k f:Nat) (d:ai),T.fns[f]? =some d->vz P w K mg base (2*k) (R.fad f) d (cH T R k f)
 |0,f,d,hd=>by
  obtain ⟨name,qual,params,body,scope,dV,kV,doc,pm,cdv,ct,oc,od,an,osl,lk,hcd,S,hm,hb⟩:=(fs f d hd).ex;exact ⟨⟨_,⟨λ_ _ _ _ h=>h.elim,λ_ _ _ _ _ _ _ _ _ _ _ _ _ h=>h.elim⟩,hb⟩,λ_ _ _ _ _=>⟨λ_ _ _ _ h=>h.elim,λ_ _ _ _ _ _ _ _ _ _ _ _ _ h=>h.elim⟩⟩
 |k+1,f,d,hd=>by
  obtain ⟨name,qual,params,body,scope,dV,kV,doc,pm,cdv,ct,oc,od,an,osl,lk,hcd,S,hm,hb⟩:=(fs f d hd).ex;have F:=FT (P:=P) (w:=w) (mg:=mg) (base:=base) (CX:=w4 P w) (k:=2*k+1) (sp:=cH T R (k+1) f) lk hcd S (λvs H Q E h=>?_) (λA outer s H vs Q E hr h=>?_)
  ·refine ⟨⟨_,F,hb⟩,λfd oc' od' osl' lk'=>?_⟩;have e:=lk.symm.trans lk'
   injection e with e
   injection e with e1 e2 e3 e4
   injection e3 with e3
   subst e3;exact F
  ·simp only[cH,hd] at h;exact h.1
  ·simp only[cH,hd] at h;refine ⟨λD U H=>wB d.body ⟨T,R,cH T R k,true⟩ D (λ_=>E) U H,?_,h.2⟩;have hx:=uh (P:=P) (w:=w) (K:=K) (mg:=mg) (base:=base) (N:=d.N) (qual:=qual) (scope:=scope) (f:=R.fad f) (cd:=cdv) (A:=A) (outer:=outer) (E:=E) (s:=s) (H:=H);refine sB (k:=2*k) d.body (G:=⟨T,R,cH T R k,true⟩) (S:=⟨T,scope,d.N⟩) { hK:=hK,hT:=rfl,sc:=rfl,N:=rfl,nd:=S.nd,pass:=kC hx,cm:=λ_=>rfl,room:=λ_=>hr,un:= ?_,tab:=tab,fns:=λf' d' hd'=>vn tab hK fs k f' d' hd',xok:=λ_=>hx,own:=PassesOwn.leaving,stk:=rfl,fr:=rfl,fn:=λ_=>rfl } hm;have:=hr.un;show (A.deeper _).units+200<cLine
   omega
abbrev hR (K:W.Frag)(n:Nat):Sp:=λvs H Q _=>∃ (a:Addr) (ns:List Int),vs=[.ref a]/\bg K H a (ns.map V.int)/\ns.length<=n/\∀ H',Q (.bl true) H'
variable {P:Program}
def v8 {w:World}{H:Hp}{s:Shared}{e:Value}{s':Shared}(h:w4 P w [] H s (λ_ _=>False) e s'):False:=by
 obtain ⟨e,H',C,dx,fs,T,_,_,_,_,_,_,_,_,_,q⟩:=h;exact q
variable {K:W.Frag}{fd:FuncData}{ps:List Str}
def Cn (h:Binds K fd ps []):∀ j:Nat,∃ ds,Binds K fd ps ds/\Vals (([]:List V).drop j) ds:=λj=>⟨[],h,by simp;exact .nil⟩
def yZ {ds:List Value}{T:Addr}{o:Obj}{items:Array Value}{c n:Nat}(hd:fd.defaults=.ref T)(ho:K.lookup T=some o)(hs:o.data=.seq items c)(hn:n+ds.length=ps.length)
  (h:∀ us:List Value,us.length=n->∃ k:Option (Array Value)->Sem (List (Str×Value)),bindArgs fd ⟨us,[]⟩=seqItems? fd.defaults >>= k/\k (some items)=pure (ps.zip (us++ds))):Binds K fd ps ds:=λs us X hl=>by
 obtain ⟨k,h1,h2⟩:=h us (by rw[length_append] at hl;omega);exact W.binds_K X hd ho hs h1 h2
def ku:∀ {vs:List V}{us:List Value}(j:Nat),Vals vs us->Vals (vs.drop j) (us.drop j)
 |_,_,0,h=>h
 |_,_,j+1,.nil=>by simp;exact .nil
 |_::_,_::_,j+1,.cons _ h=>by simpa using ku j h
def pH {α β:Type} [BEq α] [LawfulBEq α] {x:α}{y:β}:∀ {l:List (α×β)},l.lookup x=some y->(x,y) ∈ l
 | [],h=>by simp at h
 |(a,b)::l,h=>by
  rw[lookup_cons] at h;cases e:x ==a with
  |true=>
   rw[e] at h;have:=beq_iff_eq.mp e;subst this
   injection h with h
   subst h;exact mem_cons_self
  |false=>
   rw[e] at h;exact mem_cons_of_mem _ (pH h)
def jb {α β:Type} [BEq α] [LawfulBEq α] {P:α->β->Prop}{l:List (α×β)}(h:∀ p ∈ l,P p.1 p.2):∀ x y,l.lookup x=some y->P x y:=λx y e=>h (x,y) (pH e)
def gm {α β γ:Type} [BEq α] [LawfulBEq α] [BEq β] [LawfulBEq β] {P:α->β->γ->Prop}{l:List ((α×β)×γ)}(h:∀ p ∈ l,P p.1.1 p.1.2 p.2):∀ x y z,l.lookup (x,y)=some z->P x y z:=λx y z e=>h ((x,y),z) (pH e)
def gX {α:Type} [BEq α] [LawfulBEq α] {P:α->Prop}{l:List α}(h:∀ p ∈ l,P p):∀ x,l.contains x=true->P x:=λx e=>h x (by simpa using e)
def yy {α β:Type} [BEq α] [LawfulBEq α] [BEq β] [LawfulBEq β] {P:α->β->Prop}{l:List (α×β)}(h:∀ p ∈ l,P p.1 p.2):∀ x y,l.contains (x,y)=true->P x y:=λx y e=>h (x,y) (by simpa using e)
abbrev r9 (P:Nat->ai->Prop):Nat->List ai->Prop
 |_,[]=>True
 |n,d::r=>P n d/\r9 P (n+1) r
def Bm {P:Nat->ai->Prop}:∀ {l:List ai}{n:Nat},r9 P n l->∀ f d,l[f]? =some d->P (n+f) d
 | [],_,_,f,d,e=>by simp at e
 |a::l,n,h,0,d,e=>by
  have:a=d:=by simpa using e
  subst this;exact h.1
 |a::l,n,h,f+1,d,e=>by
  have:=Bm h.2 f d (by simpa using e)
  rwa [Nat.add_assoc,Nat.add_comm 1 f] at this
def qh {P:Nat->ai->Prop}{l:List ai}(h:r9 P 0 l):∀ f d,l[f]? =some d->P f d:=λf d e=>by
 have:=Bm h f d e
 rwa [Nat.zero_add] at this
def Ct {w:World}{mg:JT}{base:Heap}{T:Tab}{R:Rt}(tab:A4 K mg T R)(hK:R.K=K)(fs:∀ f d,T.fns[f]? =some d->tV K T (R.fad f) d) (k fl:Nat) (d:ai) (hd:T.fns[fl]? =some d)
  {oc:Value}{od:Option Addr}{osl:Array (Option Value)}(lk:K.lookup (R.fad fl)=some ⟨oc,od,.func fd,osl⟩) (h:∀ vs H Q E,hR K 63 vs H Q E->cH T R k fl vs H Q E):cU P w K mg base (w4 P w) (2*k) (R.fad fl) fd d.ps (hR K 63):=
 ((vn tab hK fs k fl d hd).own _ _ _ _ lk).imp h
end L3
namespace L3
open PySem L2
abbrev kc:HO->HO
 | .lst _=>.lst []
 | .dK _=>.dK []
 | .dT _=>.dT []
 | .ins C dx _=>.ins C dx []
 | .exc C _ _ _=>.exc C none [] false
 |o=>o
abbrev kd:HO->Option String
 | .lst _=>some "list"
 | .tup _=>some "tuple"
 | .dK _=>some "dict"
 |_=>none
def qT (o:HO):kd (kc o)=kd o:=by cases o<;>rfl
abbrev iG (H H':Hp):Prop:=∀ a o,H a=some o->∃ o',H' a=some o'/\kc o'=kc o
def iG.tup {H H':Hp}(g:iG H H'){t:Addr}{xs:List V}(h:H t=some (.tup xs)):H' t=some (.tup xs):=by
 obtain ⟨o',h1,h2⟩:=g t _ h;have key:∀ u:HO,kc u=.tup xs->u=.tup xs:=λu=>by cases u<;>intro e<;>first|exact e|cases e
 rw[key o' h2] at h1;exact h1
variable {H:Hp}{t:String}
def iG.ty {H':Hp}(g:iG H H'){v:V}(h:tyName v H=some t):tyName v H'=some t:=by
 cases v<;>try exact h
 rename_i a;have h':(match H a with|some (.lst _)=>some "list"|some (.tup _)=>some "tuple"|some (.dK _)=>some "dict"|_=>none)=some t:=h;show (match H' a with|some (.lst _)=>some "list"|some (.tup _)=>some "tuple"|some (.dK _)=>some "dict"|_=>none)=some t;cases e:H a with
 |none=>rw[e] at h';cases h'
 |some o=>
  rw[e] at h';obtain ⟨o',h1,h2⟩:=g a _ e;rw[h1];have key:kd o'=kd o:=by rw[<-qT o',<-qT o,h2]
  have k1:∀ u:HO,(match some u with|some (HO.lst _)=>some "list"|some (.tup _)=>some "tuple"|some (.dK _)=>some "dict"|_=>none)=kd u:=λu=>by cases u<;>rfl
  rw[k1] at h'⊢;rw[key];exact h'
variable {a:Addr}{xs:List V}
def EM (e:H a=some (.lst xs)):tyName (.ref a) H=some "list":=by
 show (match H a with|some (.lst _)=>some "list"|some (.tup _)=>some "tuple"|some (.dK _)=>some "dict"|_=>none)=_;rw[e]
def Hr (e:H a=some (.tup xs)):tyName (.ref a) H=some "tuple":=by
 show (match H a with|some (.lst _)=>some "list"|some (.tup _)=>some "tuple"|some (.dK _)=>some "dict"|_=>none)=_;rw[e]
def iG.upd {o o':HO}(h:H a=some o)(e:kc o'=kc o):iG H (L2.upd H a o'):=λb u hb=>by
 by_cases z:b=a
 ·subst z;rw[h] at hb;cases hb;exact ⟨o',aq,e⟩
 ·exact ⟨u,(af z).trans hb,rfl⟩
def iG.new {o':HO}(h:H a=none):iG H (L2.upd H a o'):=λb u hb=>⟨u,(af λz=>by rw[z,h] at hb;cases hb).trans hb,rfl⟩
structure aw where
 p:Hp->(Addr->Prop)->Prop
 st:∀ H H' D,p H D->(∀ a,D a->H' a=H a)->iG H H'->p H' D
 up:∀ H D D',p H D->(∀ a,D a->D' a)->p H D'
abbrev pt (a:Addr)(o:HO):aw:=⟨λH D=>D a/\H a=some o,λH H' D h k _=>⟨h.1,(k a h.1).trans h.2⟩,λH D D' h k=>⟨k a h.1,h.2⟩⟩
abbrev tu (t:Addr)(xs:List V):aw:=⟨λH _=>H t=some (.tup xs),λH H' D h _ k=>k.tup h,λH D D' h _=>h⟩
abbrev tys (xs:List V):aw:=⟨λH _=>∀ x ∈ xs,∃ t,tyName x H=some t,λH H' D h _ k x hx=>let ⟨t,e⟩:=h x hx;⟨t,k.ty e⟩,λH D D' h _=>h⟩
abbrev pu (φ:Prop):aw:=⟨λ_ _=>φ,λ_ _ _ h _ _=>h,λ_ _ _ h _=>h⟩
variable {α:Type}
abbrev ex (f:α->aw):aw:=⟨λH D=>∃ x,(f x).p H D,λH H' D ⟨x,h⟩ k t=>⟨x,(f x).st H H' D h k t⟩,λH D D' ⟨x,h⟩ k=>⟨x,(f x).up H D D' h k⟩⟩
abbrev mM (A B:aw):aw:=⟨λH D=>∃ D1 D2:Addr->Prop,(∀ a,D1 a->D a)/\(∀ a,D2 a->D a)/\(∀ a,D1 a->D2 a->False)/\A.p H D1/\B.p H D2,
 λH H' D ⟨D1,D2,s1,s2,dj,h1,h2⟩ k t=>⟨D1,D2,s1,s2,dj,A.st H H' D1 h1 (λa z=>k a (s1 a z)) t,B.st H H' D2 h2 (λa z=>k a (s2 a z)) t⟩,
 λH D D' ⟨D1,D2,s1,s2,dj,h1,h2⟩ k=>⟨D1,D2,λa z=>k a (s1 a z),λa z=>k a (s2 a z),dj,h1,h2⟩⟩
abbrev aZ:List aw->Hp->(Addr->Prop)->Prop
 | [],_,_=>True
 |A::O,H,D=>∃ D1 D2:Addr->Prop,(∀ a,D1 a->D a)/\(∀ a,D2 a->D a)/\(∀ a,D1 a->D2 a->False)/\A.p H D1/\aZ O H D2
abbrev Sep (O:List aw)(H:Hp):Prop:=∃ D:Addr->Prop,(∀ a,D a->H a≠none)/\aZ O H D
inductive ag (A:aw):List aw->List aw->Prop where
 |here {O:List aw}:ag A (A::O) O
 |there {B:aw}{O Γ':List aw}(h:ag A O Γ'):ag A (B::O) (B::Γ')
section
variable {A B:aw}{O Γ':List aw}{H H':Hp}{a b p t:Addr}{o o':HO}{xs:List V}{φ:Prop}
def aZ.st:∀ {O:List aw}{H H':Hp}{D:Addr->Prop},aZ O H D->(∀ a,D a->H' a=H a)->iG H H'->aZ O H' D
 | [],_,_,_,_,_,_=>True.intro
 |A::O,H,H',D,⟨D1,D2,s1,s2,dj,h1,h2⟩,k,t=>⟨D1,D2,s1,s2,dj,A.st H H' D1 h1 (λa z=>k a (s1 a z)) t,aZ.st h2 (λa z=>k a (s2 a z)) t⟩
def aZ.up:∀ {O:List aw}{H:Hp}{D D':Addr->Prop},aZ O H D->(∀ a,D a->D' a)->aZ O H D'
 | [],_,_,_,_,_=>True.intro
 |A::O,H,D,D',⟨D1,D2,s1,s2,dj,h1,h2⟩,k=>⟨D1,D2,λa z=>k a (s1 a z),λa z=>k a (s2 a z),dj,h1,h2⟩
def Sep.nil:Sep [] H:=⟨λ_=>False,λ_ z=>z.elim,True.intro⟩
def aZ.pull:∀ {O Γ':List aw}{D:Addr->Prop},ag A O Γ'->aZ O H D->aZ (A::Γ') H D:=by
 intro O Γ' D h
 induction h generalizing D with
 |here=>exact λz=>z
 |there h ih=>
  rintro ⟨D1,D2,s1,s2,dj,h1,h2⟩;obtain ⟨E1,E2,t1,t2,ej,k1,k2⟩:=ih h2;refine ⟨E1,λa=>D1 a\/E2 a,λa z=>s2 a (t1 a z),λa z=>z.elim (s1 a) λz=>s2 a (t2 a z),λa z1 z2=>?_,k1,D1,E2,λa z=>.inl z,λa z=>.inr z,λa z1 z2=>dj a z1 (t2 a z2),h1,k2⟩;rcases z2 with z2|z2
  ·exact dj a z2 (t1 a z1)
  ·exact ej a z1 z2
def Sep.pull (h:ag A O Γ')(s:Sep O H):Sep (A::Γ') H:=let ⟨D,k,z⟩:=s;⟨D,k,aZ.pull h z⟩
def aZ.push:∀ {O Γ':List aw}{D:Addr->Prop},ag A O Γ'->aZ (A::Γ') H D->aZ O H D:=by
 intro O Γ' D h
 induction h generalizing D with
 |here=>exact λz=>z
 |there h ih=>
  rintro ⟨D1,D2,s1,s2,dj,h1,E1,E2,t1,t2,ej,k1,k2⟩;refine ⟨E1,λa=>D1 a\/E2 a,λa z=>s2 a (t1 a z),λa z=>z.elim (s1 a) λz=>s2 a (t2 a z),λa z1 z2=>?_,k1,ih ⟨D1,E2,λa z=>.inl z,λa z=>.inr z,λa z1 z2=>dj a z1 (t2 a z2),h1,k2⟩⟩;rcases z2 with z2|z2
  ·exact dj a z2 (t1 a z1)
  ·exact ej a z1 z2
def Sep.push (h:ag A O Γ')(s:Sep (A::Γ') H):Sep O H:=let ⟨D,k,z⟩:=s;⟨D,k,aZ.push h z⟩
def Sep.drop (s:Sep (A::O) H):Sep O H:=let ⟨D,k,D1,D2,s1,s2,dj,h1,h2⟩:=s;⟨D2,λa z=>k a (s2 a z),h2⟩
def Sep.at (s:Sep (pt a o::O) H):H a=some o:=let ⟨D,k,D1,D2,s1,s2,dj,h1,h2⟩:=s;h1.2
def Sep.atT (s:Sep (tu t xs::O) H):H t=some (.tup xs):=let ⟨D,k,D1,D2,s1,s2,dj,h1,h2⟩:=s;h1
def Sep.pure (s:Sep (pu φ::O) H):φ:=let ⟨D,k,D1,D2,s1,s2,dj,h1,h2⟩:=s;h1
def Sep.vh (h:φ)(s:Sep O H):Sep (pu φ::O) H:=let ⟨D,k,h2⟩:=s;⟨D,k,λ_=>False,D,λ_ z=>z.elim,λ_ z=>z,λ_ z _=>z,h,h2⟩
def Sep.G7 (h:H t=some (.tup xs))(s:Sep O H):Sep (tu t xs::O) H:=let ⟨D,k,h2⟩:=s;⟨D,k,λ_=>False,D,λ_ z=>z.elim,λ_ z=>z,λ_ z _=>z,h,h2⟩
def Sep.ne (s:Sep (pt a o::pt b o'::O) H):a≠b:=by
 obtain ⟨D,k,D1,D2,s1,s2,dj,h1,E1,E2,t1,t2,ej,k1,k2⟩:=s;rintro rfl;exact dj a h1.1 (t1 a k1.1)
def Sep.set (s:Sep (pt a o::O) H)(n:kc o'=kc o):Sep (pt a o'::O) (upd H a o'):=by
 obtain ⟨D,k,D1,D2,s1,s2,dj,h1,h2⟩:=s;refine ⟨D,λb z=>?_,D1,D2,s1,s2,dj,⟨h1.1,aq⟩,aZ.st h2 (λb z=>af λe=>dj a h1.1 (e▸z)) (iG.upd h1.2 n)⟩
 by_cases e:b=a
 ·rw[e,aq];exact λz=>by cases z
 ·rw[af e];exact k b z
def Sep.new (s:Sep O H)(h:H p=none):Sep (pt p o::O) (upd H p o):=by
 obtain ⟨D,k,z⟩:=s;have ne:∀ b,D b->b≠p:=λb hb e=>k b hb (e▸h)
 refine ⟨λb=>b=p\/D b,λb hb=>?_,λb=>b=p,D,λb e=>.inl e,λb e=>.inr e,λb e z=>ne b z e,⟨rfl,aq⟩,aZ.st z (λb hb=>af (ne b hb)) (iG.new h)⟩;rcases hb with rfl|hb
 ·rw[aq];exact λz=>by cases z
 ·rw[af (ne b hb)];exact k b hb
def Sep.iA (s:Sep O H)(h:H p=none):Sep (tu p xs::O) (upd H p (.tup xs)):=Sep.G7 aq (Sep.drop (s.new (o:=.tup xs) h))
def Sep.toT (s:Sep (pt t (.tup xs)::O) H):Sep (tu t xs::O) H:=Sep.G7 s.at s.drop
def Sep.star:Sep (mM A B::O) H ↔ Sep (A::B::O) H:=by
 constructor
 ·rintro ⟨D,k,D1,D2,s1,s2,dj,⟨E1,E2,t1,t2,ej,k1,k2⟩,h2⟩;refine ⟨D,k,E1,λa=>E2 a\/D2 a,λa z=>s1 a (t1 a z),λa z=>z.elim (λz=>s1 a (t2 a z)) (s2 a),λa z1 z2=>?_,k1,E2,D2,λa z=>.inl z,λa z=>.inr z,λa z1 z2=>dj a (t2 a z1) z2,k2,h2⟩;rcases z2 with z2|z2
  ·exact ej a z1 z2
  ·exact dj a (t1 a z1) z2
 ·rintro ⟨D,k,D1,D2,s1,s2,dj,h1,E1,E2,t1,t2,ej,k1,k2⟩;refine ⟨D,k,λa=>D1 a\/E1 a,E2,λa z=>z.elim (s1 a) λz=>s2 a (t1 a z),λa z=>s2 a (t2 a z),λa z1 z2=>?_,⟨D1,E1,λa z=>.inl z,λa z=>.inr z,λa z1 z2=>dj a z1 (t1 a z2),h1,k1⟩,k2⟩;rcases z1 with z1|z1
  ·exact dj a z1 (t2 a z2)
  ·exact ej a z1 z2
def Sep.EH {f:α->aw}:Sep (ex f::O) H ↔ ∃ x,Sep (f x::O) H:=by
 constructor
 ·rintro ⟨D,k,D1,D2,s1,s2,dj,⟨x,h1⟩,h2⟩;exact ⟨x,D,k,D1,D2,s1,s2,dj,h1,h2⟩
 ·rintro ⟨x,D,k,D1,D2,s1,s2,dj,h1,h2⟩;exact ⟨D,k,D1,D2,s1,s2,dj,⟨x,h1⟩,h2⟩
def Sep.Fj (s:Sep (tys xs::O) H):∀ x ∈ xs,∃ t,tyName x H=some t:=let ⟨D,k,D1,D2,s1,s2,dj,h1,h2⟩:=s;h1
def Sep.free (h:∀ D,A.p H D) (s:Sep O H):Sep (A::O) H:=let ⟨D,k,h2⟩:=s;⟨D,k,λ_=>False,D,λ_ z=>z.elim,λ_ z=>z,λ_ z _=>z,h _,h2⟩
def Sep.Gb (h:∀ x ∈ xs,∃ t,tyName x H=some t) (s:Sep O H):Sep (tys xs::O) H:=s.free λ_=>h
def Sep.get (s:Sep O H)(h:ag (pt a o) O Γ'):H a=some o:=(s.pull h).at
def Sep.fq (s:Sep O H)(h:ag (tu t xs) O Γ'):H t=some (.tup xs):=(s.pull h).atT
inductive bw (A B:aw):List aw->List aw->Prop where
 |here {O:List aw}:bw A B (A::O) (B::O)
 |there {C:aw}{O Γ':List aw}(h:bw A B O Γ'):bw A B (C::O) (C::Γ')
def bw.bK (h:bw A B O Γ'):∃ Δ,ag A O Δ/\ag B Γ' Δ:=by
 induction h with
 |here=>exact ⟨_,.here,.here⟩
 |there h ih=>
  obtain ⟨Δ,h1,h2⟩:=ih;exact ⟨_,.there h1,.there h2⟩
def Sep.put (s:Sep O H)(h:bw (pt a o) (pt a o') O Γ')(n:kc o'=kc o):Sep Γ' (upd H a o'):=by
 obtain ⟨Δ,h1,h2⟩:=h.bK;exact ((s.pull h1).set n).push h2
inductive Sub:List aw->List aw->Prop where
 |refl {O:List aw}:Sub O O
 |nil {O:List aw}:Sub [] O
 |cons {A:aw}{O Γ' Δ:List aw}(h:ag A O Δ) (r:Sub Γ' Δ):Sub (A::Γ') O
 |drop {A:aw}{O Γ':List aw}(r:Sub Γ' O):Sub Γ' (A::O)
def aZ.sub:∀ {O Γ':List aw}{D:Addr->Prop},Sub Γ' O->aZ O H D->aZ Γ' H D:=by
 intro O Γ' D h
 induction h generalizing D with
 |refl=>exact λz=>z
 |nil=>exact λ_=>True.intro
 |cons h r ih=>
  intro z;obtain ⟨D1,D2,s1,s2,dj,h1,h2⟩:=aZ.pull h z;exact ⟨D1,D2,s1,s2,dj,h1,ih h2⟩
 |drop r ih=>
  rintro ⟨D1,D2,s1,s2,dj,h1,h2⟩;exact (ih h2).up s2
def Sep.sub (h:Sub Γ' O)(s:Sep O H):Sep Γ' H:=let ⟨D,k,z⟩:=s;⟨D,k,aZ.sub h z⟩
end
@[irreducible] noncomputable def aa (T:Tab) (R:Rt) (k f:Nat):Sp:=cH T R k f
def mZ:aa=cH:=by
 funext T R k f
 unfold aa
 rfl
variable {Q:VK}
def wc {T:Tab}{R:Rt}{k f:Nat}{d:ai}{vs:List V}{E:XK}(hk:0<k)(hd:T.fns[f]? =some d)(hl:vs.length=d.ps.length)
  (h:wB d.body ⟨T,R,aa T R (k-1),true⟩ { nx:=λ_ H'=>Q .non H',rt:=Q } (λ_=>E) (start d.N vs) H):aa T R k f vs H Q E:=by
 rw[mZ] at h⊢;cases k with
 |zero=>exact absurd hk (by decide)
 |succ k=>
  show (match T.fns[f]? with|some d=>_|none=>False);rw[hd];exact ⟨hl,h⟩
variable {c:Bool}
def gC {A B:Prop}(h1:c=true->A)(h2:c=false->B):gy c A B:=by
 unfold gy;cases c
 ·exact h2 rfl
 ·exact h1 rfl
def bt {A B:Prop}(h:c=true)(h1:A):gy c A B:=by subst h;unfold gy;exact h1
def bb {A B:Prop}(h:c=false)(h1:B):gy c A B:=by subst h;unfold gy;exact h1
def CB {A B:Prop}(h:gy c B A):gy (!c) A B:=by
 unfold gy at h⊢;cases c
 ·exact h
 ·exact h
def cC {p:Prop} [Decidable p] {A B:Prop}(h1:p->A)(h2:¬ p->B):gy (decide p) A B:=gC (λh=>h1 (of_decide_eq_true h)) λh=>h2 (of_decide_eq_false h)
def bM {i j:Int}{A B:Prop}(h1:i=j->A)(h2:i≠j->B):gy (jT (.int i) (.int j)) A B:=by
 show gy (i ==j) A B;exact gC (λh=>h1 (by simpa using h)) λh=>h2 (by simpa using h)
variable {dx:Addr}{n:Nat}{fs:List (Str×V)}{es:List V}{R:It->Hp->Prop}{fr:Bool}
section
variable {K:W.Frag}{G:Gx}{O Γ':List aw}{H:Hp}{Q:VK}{a p:Addr}{o:HO}{xs ys:List V}{v w:V}{i:Int}{f:Str}
def al (s:Sep O H)(h:∀ p H',Sep (pt p o::O) H'->Q (.ref p) H'):∀ p,H p=none->Q (.ref p) (upd H p o):=λp hp=>h p _ (s.new hp)
def bP {C x:Addr}(s:Sep O H)(h1:H x=none)(h2:H dx=none)(h3:dx≠x):Sep (pt x (.ins C dx [])::pt dx (.own x)::O) (upd (upd H dx (.own x)) x (.ins C dx [])):=(s.new h2).new (by rw[af h3.symm];exact h1)
def dM {dx:Option Addr}{E:XK}(s:Sep O H)(r:bw (pt a (.exc (G.R.cad n) dx fs true)) (pt a (.exc (G.R.cad n) dx fs false)) O Γ')(ho:G.T.xc.contains n=true)(h:∀ H',Sep Γ' H'->E a H'):
  ∃ b i dx fs,V.ref a=.ref b/\H b=some (.exc (G.R.cad i) dx fs true)/\G.T.xc.contains i=true/\E b (upd H b (.exc (G.R.cad i) dx fs false)):=by
 obtain ⟨Δ,h1,h2⟩:=r.bK;exact ⟨a,n,dx,fs,rfl,s.get h1,ho,h _ (s.put r rfl)⟩
def Jy (s:Sep O H)(h:∀ p H',Sep (tu p xs::O) H'->Q (.ref p) H'):∀ p,H p=none->Q (.ref p) (upd H p (.tup xs)):=λp hp=>h p _ (s.iA hp)
def aj (s:Sep O H)(hl:es.length<=10000)(h:∀ p H',Sep (pt p (.lst es)::O) H'->Q (.ref p) H'):yt es H Q:=by unfold yt;exact ⟨hl,al s h⟩
def az (s:Sep O H)(hl:es.length<=10000)(h:∀ p H',Sep (pt p (.tup es)::O) H'->Q (.ref p) H'):iA es H Q:=by unfold iA;exact ⟨hl,al s h⟩
def oj {xs:List α}{j:Nat}{x:α}(h:xs[j]? =some x):mL xs (0+(j:Int))=some x:=by rw[Int.zero_add];exact L2.cZ h
def iO (e:H a=some (.lst xs))(hv:mL xs i=some v)(q:Q v H):yi K (.ref a) (.int i) H Q:=by unfold yi;exact .inl ⟨xs,i,v,rfl,.inl (bg.of e),hv,q⟩
def gh (e:H a=some (.tup xs))(hv:mL xs i=some v)(q:Q v H):yi K (.ref a) (.int i) H Q:=by unfold yi;exact .inl ⟨xs,i,v,rfl,.inr (bc.of e),hv,q⟩
def vQ {R:Hp->Prop}{j:Nat}(s:Sep O H)(r:bw (pt a (.lst xs)) (pt a (.lst ys)) O Γ')(hj:vM xs.length i=some j)(hx:xs.set j v=ys)(h:∀ H',Sep Γ' H'->R H'):mr (.ref a) (.int i) v H R:=by
 obtain ⟨Δ,h1,h2⟩:=r.bK;subst hx;unfold mr;exact .inl ⟨xs,i,j,rfl,s.get h1,hj,h _ (s.put r rfl)⟩
def F4 (e:H a=some (.lst xs))(h0:0<=i)(hv:xs[i.toNat]? =some v)(q:Q v H):vo K (.ref a) (.int i) H Q:=by unfold vo;exact ⟨xs,v,bg.of e,h0,hv,q⟩
def bN (e:H a=some (.ins (G.R.cad n) dx fs))(ho:G.T.oc.contains n=true)(hn:G.T.na.contains (n,f)=true)(hl:fs.lookup f=some v)(q:Q v H):nZ G f (.ref a) H Q:=by unfold nZ;exact ⟨a,n,fs,v,rfl,.inl ⟨ho,dx,e⟩,hn,hl,q⟩
def EZ (e:H a=some (.exc (G.R.cad n) (some dx) fs fr))(ho:G.T.xc.contains n=true)(hn:G.T.na.contains (n,f)=true)(hl:fs.lookup f=some v)(q:Q v H):nZ G f (.ref a) H Q:=by unfold nZ;exact ⟨a,n,fs,v,rfl,.inr ⟨ho,dx,fr,e⟩,hn,hl,q⟩
def Iz {fs':List (Str×V)}{R:Hp->Prop}(s:Sep O H)(r:bw (pt a (.ins (G.R.cad n) dx fs)) (pt a (.ins (G.R.cad n) dx fs')) O Γ')(ho:G.T.oc.contains n=true)(hn:G.T.na.contains (n,f)=true)(hl:fs.length<1000)(hf:cu f v fs=fs')(h:∀ H',Sep Γ' H'->R H'):yN G f (.ref a) v H R:=by
 obtain ⟨Δ,h1,h2⟩:=r.bK;subst hf;unfold yN;exact ⟨a,n,rfl,hn,.inl ⟨dx,fs,ho,s.get h1,hl,h _ (s.put r rfl)⟩⟩
def Fo {d:Addr}{fs':List (Str×V)}{R:Hp->Prop}(s:Sep O H)(r:bw (pt a (.exc (G.R.cad n) (some d) fs fr)) (pt a (.exc (G.R.cad n) (some d) fs' fr)) O Γ')(ho:G.T.xc.contains n=true)(hn:G.T.na.contains (n,f)=true)(hl:fs.length<1000)(hf:cu f v fs=fs')(h:∀ H',Sep Γ' H'->R H'):yN G f (.ref a) v H R:=by
 obtain ⟨Δ,h1,h2⟩:=r.bK;subst hf;unfold yN;exact ⟨a,n,rfl,hn,.inr (.inl ⟨d,fs,fr,ho,s.get h1,hl,h _ (s.put r rfl)⟩)⟩
def rM {R:Hp->Prop}(s:Sep (pt a (.exc (G.R.cad n) none [] fr)::O) H)(ho:G.T.xc.contains n=true)(hn:G.T.na.contains (n,f)=true)(h:∀ d H',Sep (pt a (.exc (G.R.cad n) (some d) [(f,v)] fr)::pt d (.own a)::O) H'->R H'):yN G f (.ref a) v H R:=by
 unfold yN;refine ⟨a,n,rfl,hn,.inr (.inr ⟨fr,ho,s.at,λd hd=>h d _ ?_⟩)⟩;exact ((s.new (o:=.own a) hd).pull (.there .here)).set rfl
def f9 {n:String}{b:Bool}(ht:tyName v H=some t)(hb:G.T.subB.lookup (t,n)=some b)(q:Q (.bl b) H):jW G (.ty n) v H Q:=by unfold jW;exact .inl ⟨t,b,ht,hb,q⟩
def FP {j:Nat}{b:Bool}(e:H a=some (.ins (G.R.cad j) dx fs))(ho:G.T.oc.contains j=true)(hb:G.T.sub.lookup (j,n)=some b)(q:Q (.bl b) H):jW G (.own n) (.ref a) H Q:=by unfold jW;exact .inr ⟨a,j,b,rfl,.inl ⟨ho,dx,fs,e⟩,hb,q⟩
def bU (e:H a=some (.lst xs))(q:Q (.int xs.length) H):nX G .len [.ref a] H Q:=by unfold nX;exact ⟨_,xs.length,rfl,.inl ⟨xs,bg.of e,rfl⟩,q⟩
def vq {j:Int}(hc:G.cm=true)(q:Q (.int (min i j)) H):nX G .min [.int i,.int j] H Q:=by
 unfold nX;refine ⟨hc,.inl ⟨i,j,rfl,?_⟩⟩;have e:(if j<i then j else i)=min i j:=by split<;>omega
 rw[e];exact q
def w6 {j:Int}(hc:G.cm=true)(q:Q (.int (max i j)) H):nX G .max [.int i,.int j] H Q:=by
 unfold nX;refine ⟨hc,i,j,rfl,?_⟩;have e:(if j>i then j else i)=max i j:=by split<;>omega
 rw[e];exact q
def vD (h0:0<=i)(h1:i<n):vM n i=some i.toNat:=by
 unfold vM;rw[if_pos h0,if_pos h1]
def iY (s:Sep O H)(e:H a=some (.lst xs))(h:∀ p H',Sep (pt p (.lst xs)::O) H'->Q (.ref p) H'):nX G .list [.ref a] H Q:=by unfold nX;exact ⟨_,xs,rfl,.inl (bg.of e),al s h⟩
def DZ (s:Sep O H)(e:H a=some (.lst xs))(h:∀ p H',Sep (tu p xs::O) H'->Q (.ref p) H'):nX G .tuple [.ref a] H Q:=by unfold nX;exact ⟨_,xs,rfl,.inl ⟨bg.of e,Jy s h⟩⟩
def cV (s:Sep O H){b:Addr}(e1:H a=some (.lst xs))(e2:H b=some (.lst ys))(hl:xs.length+ys.length<=100000)(h:∀ p H',Sep (pt p (.lst (xs++ys))::O) H'->Q (.ref p) H'):yJ K a b H Q:=by unfold yJ;exact .inl ⟨xs,ys,e1,e2,hl,al s h⟩
def oz (s:Sep O H)(e:H a=some (.lst xs))(h1: -1000<=i)(h2:i<=1000)(h3:xs.length<=1000)(h:∀ p H',Sep (pt p (.lst (List.replicate i.toNat xs).flatten)::O) H'->Q (.ref p) H'):A1 K a i H Q:=by unfold A1;exact .inl ⟨xs,e,h1,h2,h3,al s h⟩
def Bv {y:V}(s:Sep O H)(r:bw (pt a (.lst xs)) (pt a (.lst (xs++[y]))) O Γ')(hl:xs.length<=10000)(h:∀ H',Sep Γ' H'->Q .non H'):FH .append a xs [y] H Q:=by unfold FH;exact ⟨_,rfl,hl,h _ (s.put r rfl)⟩
def Hz {lo hi:Option Int}(s:Sep O H)(e:bg K H a xs)(h:∀ p H',Sep (pt p (.lst (gZ xs lo hi))::O) H'->Q (.ref p) H'):yn K (.ref a) lo hi H Q:=by unfold yn;exact .inl ⟨xs,e,al s h⟩
def DT (e:H a=some (.lst xs))(h:R (EF K a) H):pR K a H R:=by unfold pR;exact .inl ⟨⟨xs,bg.of e⟩,h⟩
def Cj (e:H a=some (.lst xs))(h:R (Gk a) H):zH a H R:=by unfold zH;exact ⟨⟨xs,e⟩,h⟩
def Ij (e:bc K H a xs)(h:R (E4 K a) H):zg K a H R:=by unfold zg;exact ⟨⟨xs,e⟩,h⟩
def Fz {lo hi:Option Int}(s:Sep O H)(e:H a=some (.lst xs))(h:∀ p H',Sep (pt p (.lst (gZ xs lo hi))::O) H'->Q (.ref p) H'):yn K (.ref a) lo hi H Q:=by unfold yn;exact .inl ⟨xs,bg.of e,al s h⟩
end
variable {x:V}
section
variable {K:W.Frag}{H:Hp}{Q:VK}
def om (f:aJ x=true):jT x x=true:=by
 cases x<;>simp[aJ] at f<;>simp[jT]
def mz {y:V}(fx:aJ x=true)(fy:aJ y=true)(q:Q (.bl (jT x y)) H):d8 K false x y H Q:=by unfold d8;exact ⟨0,_,.flat fx fy,by decide,.inl fx,q⟩
def yX {y:V}(fx:aJ x=true)(fy:aJ y=true)(q:Q (.bl (!jT x y)) H):d8 K true x y H Q:=by unfold d8;exact ⟨0,_,.flat fx fy,by decide,.inl fx,q⟩
def jC {b:Addr}(h:eE K H n (.ref a) (.ref b) c)(hn:n<=100)(ne:a≠b)(q:Q (.bl (!c)) H):d8 K true (.ref a) (.ref b) H Q:=by unfold d8;exact ⟨n,c,h,hn,.inr (.inl λz=>ne (V.ref.inj z)),q⟩
def ne_self (h:pG K H a)(q:Q (.bl false) H):d8 K true (.ref a) (.ref a) H Q:=by unfold d8;exact ⟨1,true,.same a,by decide,.inr (.inr (.inr ⟨rfl,a,rfl,h⟩)),q⟩
def aO (h:tyName x H=some t):eE K H (n+1) x x true:=by
 have key:aJ x=true->eE K H (n+1) x x true:=λf=>by
  have:=eE.flat (K:=K) (H:=H) (n:=n+1) f f
  rwa [om f] at this
 cases x<;>first|exact key rfl|exact .same _|(cases h)
def all_true (n:Nat):(List.range n).all (λ_=>true)=true:=by simp
def mR {b:Addr}(h1:H a=some (.lst xs))(h2:H b=some (.lst xs))(h:∀ x ∈ xs,∃ t,tyName x H=some t):eE K H (n+2) (.ref a) (.ref b) true:=by
 have:=eE.ll (K:=K) (n:=n) (e:=λ_=>true) (bg.of h1) (bg.of h2) rfl λj x y e1 e2=>by
  rw[e1] at e2;cases e2;obtain ⟨t,ht⟩:=h x (mem_of_getElem? e1);exact aO ht
 rwa [all_true] at this
def gU {b:Addr}{ys:List V}(h1:H a=some (.tup xs))(h2:H b=some (.tup ys))(hl:xs.length=ys.length)(h:∀ (j:Nat) x y,xs[j]? =some x->ys[j]? =some y->eE K H (n+1) x y true):eE K H (n+2) (.ref a) (.ref b) true:=by
 have:=eE.tt (K:=K) (n:=n) (e:=λ_=>true) (bc.of h1) (bc.of h2) h;rw[all_true,hl] at this;simpa using this
end
variable {K:W.Frag}{rest:St}
section
variable {D:Ends}{F:(St->Hp->Prop)->V->St->Hp->Prop}{U:St}{H:Hp}
def md {lo:Int}(I:Nat->St->Hp->Prop)(h0:I 0 U H)(hs:∀ j U H,j<n->I j U H->F (I (j+1)) (.int (lo+j)) U H) (hd:∀ U H,I n U H->D.nx U H):fZ (Eg lo n) D F U H:=by
 unfold fZ;refine ⟨λi m U H=>m=n-i/\i<=n/\I i U H,⟨n,by simp,Nat.zero_le _,h0⟩,λi m U H ⟨e,hi,h⟩=>?_⟩
 by_cases hlt:i<n
 ·refine .inr ⟨hlt,I (i+1),λσ' H' h'=>⟨n-(i+1),by omega,rfl,hlt,h'⟩,λx H' y=>?_⟩;obtain ⟨rfl,rfl⟩:=y;exact hs i U H' hlt h
 ·have:i=n:=by omega
  subst this;exact .inl ⟨Nat.le_refl _,hd U H h⟩
def rq (I:Nat->St->Hp->Prop)(h0:I 0 U H)(hl:∀ j U H,I j U H->bg K H a xs)
  (hs:∀ j x U H,xs[j]? =some x->I j U H->F (I (j+1)) x U H) (hd:∀ U H,I xs.length U H->D.nx U H):fZ (EF K a) D F U H:=by
 unfold fZ;refine ⟨λi m U H=>m=xs.length-i/\i<=xs.length/\I i U H,⟨xs.length,by simp,Nat.zero_le _,h0⟩,λi m U H ⟨e,hi',h⟩=>?_⟩
 by_cases hlt:i<xs.length
 ·refine .inr ⟨⟨xs,xs[i],hl i U H h,getElem?_eq_getElem hlt⟩,I (i+1),λσ' H' h'=>⟨xs.length-(i+1),by omega,rfl,hlt,h'⟩,λx H' y=>?_⟩;obtain ⟨rfl,hy⟩:=y;exact hs i x U H' (hy xs (hl i U H' h)) h
 ·have:i=xs.length:=by omega
  subst this;exact .inl ⟨⟨xs,hl _ U H h,Nat.le_refl _⟩,hd U H h⟩
def mi (I:Nat->St->Hp->Prop)(h0:I 0 U H)(hl:∀ j U H,I j U H->H a=some (.lst xs)) (hs:∀ j x T U H,xs[j]? =some x->I j U H->H T=none->F (I (j+1)) (.ref T) U (upd H T (.tup [.int j,x])))
  (hd:∀ U H,I xs.length U H->D.nx U H):fZ (Gk a) D F U H:=by
 unfold fZ;refine ⟨λi m U H=>m=xs.length-i/\i<=xs.length/\I i U H,⟨xs.length,by simp,Nat.zero_le _,h0⟩,λi m U H ⟨e,hi',h⟩=>?_⟩
 by_cases hlt:i<xs.length
 ·refine .inr ⟨⟨xs,xs[i],hl i U H h,getElem?_eq_getElem hlt⟩,I (i+1),λσ' H' h'=>⟨xs.length-(i+1),by omega,rfl,hlt,h'⟩,λx H' y=>?_⟩;obtain ⟨T,z,hT,rfl,rfl,hy⟩:=y;exact hs i z T U H (hy xs (hl i U H h)) h hT
 ·have:i=xs.length:=by omega
  subst this;exact .inl ⟨⟨xs,hl _ U H h,Nat.le_refl _⟩,hd U H h⟩
def zk (I:Nat->St->Hp->Prop)(h0:I 0 U H)(hl:∀ j U H,I j U H->bc K H a xs) (hs:∀ j x T U H,xs[j]? =some x->I j U H->H T=none->F (I (j+1)) (.ref T) U (upd H T (.tup [.int j,x])))
  (hd:∀ U H,I xs.length U H->D.nx U H):fZ (E4 K a) D F U H:=by
 unfold fZ;refine ⟨λi m U H=>m=xs.length-i/\i<=xs.length/\I i U H,⟨xs.length,by simp,Nat.zero_le _,h0⟩,λi m U H ⟨e,hi',h⟩=>?_⟩
 by_cases hlt:i<xs.length
 ·refine .inr ⟨⟨xs,xs[i],hl i U H h,getElem?_eq_getElem hlt⟩,I (i+1),λσ' H' h'=>⟨xs.length-(i+1),by omega,rfl,hlt,h'⟩,λx H' y=>?_⟩;obtain ⟨T,z,hT,rfl,rfl,hy⟩:=y;exact hs i z T U H (hy xs (hl i U H h)) h hT
 ·have:i=xs.length:=by omega
  subst this;exact .inl ⟨⟨xs,hl _ U H h,Nat.le_refl _⟩,hd U H h⟩
def xk {hi:Int}(I:Nat->St->Hp->Prop)(h0:I 0 U H)(hs:∀ j U H,j<n->I j U H->F (I (j+1)) (.int (hi-j)) U H) (hd:∀ U H,I n U H->D.nx U H):fZ (GD hi n) D F U H:=by
 unfold fZ;refine ⟨λi m U H=>m=n-i/\i<=n/\I i U H,⟨n,by simp,Nat.zero_le _,h0⟩,λi m U H ⟨e,hi,h⟩=>?_⟩
 by_cases hlt:i<n
 ·refine .inr ⟨hlt,I (i+1),λσ' H' h'=>⟨n-(i+1),by omega,rfl,hlt,h'⟩,λx H' y=>?_⟩;obtain ⟨rfl,rfl⟩:=y;exact hs i U H' hlt h
 ·have:i=n:=by omega
  subst this;exact .inl ⟨Nat.le_refl _,hd U H h⟩
@[irreducible] noncomputable def A6 (I:Addr->List V->Hp->Prop) (D:Addr) (ys:List V) (rest:St) (x:Option V):VK:=λv H3=>∃ zs,H3 D=some (.lst zs)/\zs.length<sizeLine/\∃ ys2 x2,x::rest=x2::rest/\ys2.length=ys.length+1/\I D ys2 (upd H3 D (.lst (zs++[v])))
def A6.mk {I:Addr->List V->Hp->Prop}{D:Addr}{ys:List V}{x:Option V}{v:V}{H3:Hp}(h1:H3 D=some (.lst ys))(hl:ys.length<=999)(h2:I D (ys++[v]) (upd H3 D (.lst (ys++[v])))):A6 I D ys rest x v H3:=
 by unfold A6;exact ⟨ys,h1,cN nofun,ys++[v],x,rfl,by simp,h2⟩
def Es {te:TE}(hn:n<=1000)(I:Addr->List V->Hp->Prop)(h0:∀ D,H D=none->I D [] (upd H D (.lst [])))
  (hs:∀ D ys H',ys.length<n->I D ys H'->te (some (.int (0+(ys.length:Nat)))::rest) H' (A6 I D ys rest (some (.int (0+(ys.length:Nat))))))
  (hd:∀ D ys H',ys.length=n->I D ys H'->Q (.ref D) H'):AM te (Eg 0 n) (none::rest) H Q:=by
 unfold AM;intro D hD;refine ⟨λi m σ' H'=>m=n-i/\i<=n/\∃ ys x0,σ'=x0::rest/\ys.length=i/\I D ys H',⟨n,by simp,Nat.zero_le _,[],none,rfl,rfl,h0 D hD⟩,λi m σ' H' ⟨e,hi,ys,x0,e1,e2,h⟩=>?_⟩;subst e1 e2
 by_cases hlt:ys.length<n
 ·refine .inr ⟨hlt,λσ2 H2=>∃ ys2 x2,σ2=x2::rest/\ys2.length=ys.length+1/\I D ys2 H2,λσ2 H2 ⟨ys2,x2,f1,f2,f3⟩=>⟨n-(ys.length+1),by omega,rfl,hlt,ys2,x2,f1,f2,f3⟩,λx H'' y=>?_⟩;obtain ⟨e1,e2⟩:=y;subst e1 e2;have z:=hs D ys H'' hlt h;unfold A6 at z;exact z
 ·have:ys.length=n:=by omega
  exact .inl ⟨Nat.le_of_eq this.symm,hd D ys H' this h⟩
def jJ (q:Q (.bl (decide (x=.non))) H):yj false x .non H Q:=by unfold yj;exact q
def iS (q:Q (.bl (!decide (x=.non))) H):yj true x .non H Q:=by unfold yj;exact q
def ET (e:bc K H a xs)(fx:aJ x=true)(fs:xs.all aJ=true)(q:Q (.bl (EJ x xs)) H):Fw K false x (.ref a) H Q:=by unfold Fw;exact .inl ⟨xs,.inr e,fx,fs,q⟩
end
variable {kvs:List (Key×V)}
section
variable {K:W.Frag}{G:Gx}{O Γ':List aw}{H:Hp}{Q:VK}{a b:Addr}{xs ys:List V}{v:V}
def IB {tp1 tp2:Bool}(h1:Sq K tp1 H a xs)(h2:Sq K tp2 H b ys)(h:R (G3 K tp1 a tp2 b) H):zR K (.ref a) (.ref b) H R:=by unfold zR;exact ⟨tp1,a,tp2,b,rfl,rfl,⟨xs,h1⟩,⟨ys,h2⟩,h⟩
def zl {D:Ends}{F:(St->Hp->Prop)->V->St->Hp->Prop}{U:St}{tp1 tp2:Bool}(I:Nat->St->Hp->Prop)(hn:xs.length=ys.length)(h0:I 0 U H)(hl:∀ j U H,I j U H->Sq K tp1 H a xs/\Sq K tp2 H b ys)
  (hs:∀ j x y T U H,xs[j]? =some x->ys[j]? =some y->I j U H->H T=none->F (I (j+1)) (.ref T) U (upd H T (.tup [x,y]))) (hd:∀ U H,I xs.length U H->D.nx U H):fZ (G3 K tp1 a tp2 b) D F U H:=by
 unfold fZ;refine ⟨λi m U H=>m=xs.length-i/\i<=xs.length/\I i U H,⟨xs.length,by simp,Nat.zero_le _,h0⟩,λi m U H ⟨e,hi',h⟩=>?_⟩
 by_cases hlt:i<xs.length
 ·obtain ⟨g1,g2⟩:=hl i U H h;refine .inr ⟨⟨xs,ys,xs[i],ys[i]'(hn▸hlt),g1,g2,getElem?_eq_getElem hlt,getElem?_eq_getElem (hn▸hlt)⟩,I (i+1),λσ' H' h'=>⟨xs.length-(i+1),by omega,rfl,hlt,h'⟩,λx H' y=>?_⟩;obtain ⟨T,z,z',hT,rfl,rfl,hy,hy'⟩:=y;exact hs i z z' T U H (hy xs g1) (hy' ys g2) h hT
 ·have:i=xs.length:=by omega
  subst this;obtain ⟨g1,g2⟩:=hl _ U H h;exact .inl ⟨⟨xs,ys,g1,g2,.inl (Nat.le_refl _)⟩,hd U H h⟩
def Fy {tp1 tp2:Bool}{ks:List Key}(s:Sep O H)(h1:Sq K tp1 H a (ks.map kV))(h2:Sq K tp2 H b ys)(hn:ks.Nodup)(hl:ks.length=ys.length)(hz:ks.length<=1000)(h:∀ p H',Sep (pt p (.dK (ks.zip ys))::O) H'->Q (.ref p) H'):Fd K (.ref a) (.ref b) H Q:=by unfold Fd;exact ⟨tp1,a,tp2,b,ks,ys,rfl,rfl,h1,h2,hn,hl,hz,al s h⟩
def Fs {k:Key}(e:H a=some (.dK kvs))(hv:gQ kvs k=some v)(q:Q v H):yi K (.ref a) (kV k) H Q:=by unfold yi;exact .inr ⟨v,.inl ⟨kvs,k,.inl e,rfl,hv.symm⟩,q⟩
def GY {kvs':List (Key×V)}{k:Key}{R:Hp->Prop}(s:Sep O H)(r:bw (pt a (.dK kvs)) (pt a (.dK kvs')) O Γ')(hl:kvs.length<=10000)(hx:putK kvs k v=kvs')(h:∀ H',Sep Γ' H'->R H'):mr (.ref a) (kV k) v H R:=by
 obtain ⟨Δ,h1,h2⟩:=r.bK;subst hx;unfold mr;exact .inr ⟨_,.inl ⟨kvs,k,s.get h1,rfl,Nat.lt_of_le_of_lt hl (by decide),rfl⟩,h _ (s.put r rfl)⟩
def zc (s:Sep O H)(e:H a=some (.dK kvs))(h:∀ p H',Sep (pt p (.dK kvs)::O) H'->Q (.ref p) H'):nX G .dict [.ref a] H Q:=by unfold nX;exact ⟨_,kvs,rfl,e,al s h⟩
def D5 {te:TE}(hn:xs.length<=1000)(I:Addr->List V->Hp->Prop)(hl:∀ D ys H,I D ys H->bc K H a xs) (h0:∀ D,H D=none->I D [] (upd H D (.lst [])))
  (hs:∀ D ys x H',xs[ys.length]? =some x->I D ys H'->te (some x::rest) H' (A6 I D ys rest (some x)))
  (hd:∀ D ys H',ys.length=xs.length->I D ys H'->Q (.ref D) H'):AM te (FX K a) (none::rest) H Q:=by
 unfold AM;intro D hD;refine ⟨λi m σ' H'=>m=xs.length-i/\i<=xs.length/\∃ ys x0,σ'=x0::rest/\ys.length=i/\I D ys H',⟨xs.length,by simp,Nat.zero_le _,[],none,rfl,rfl,h0 D hD⟩,λi m σ' H' ⟨e,hi,ys,x0,e1,e2,h⟩=>?_⟩;subst e1 e2
 by_cases hlt:ys.length<xs.length
 ·refine .inr ⟨⟨xs,xs[ys.length],hl D ys H' h,getElem?_eq_getElem hlt⟩,λσ2 H2=>∃ ys2 x2,σ2=x2::rest/\ys2.length=ys.length+1/\I D ys2 H2,λσ2 H2 ⟨ys2,x2,f1,f2,f3⟩=>⟨xs.length-(ys.length+1),by omega,rfl,hlt,ys2,x2,f1,f2,f3⟩,λx H'' y=>?_⟩;obtain ⟨e1,hy⟩:=y;subst e1;have z:=hs D ys x H'' (hy xs (hl D ys H'' h)) h;unfold A6 at z;exact z
 ·have:ys.length=xs.length:=by omega
  exact .inl ⟨⟨xs,hl D ys H' h,Nat.le_of_eq this.symm⟩,hd D ys H' this h⟩
def Gu (e:bc K H a xs)(h:R (FX K a) H):pR K a H R:=by unfold pR;exact .inr ⟨⟨xs,e⟩,h⟩
def tZ {C:Addr}(s:Sep O H)(h:∀ x dx H',Sep (pt x (.ins C dx [])::pt dx (.own x)::O) H'->Q (.ref x) H'):u0 C H Q:=by unfold u0;exact λx dx h1 h2 h3=>h x dx _ (bP s h1 h2 h3)
def HP {lo hi:Option Int}(s:Sep O H)(e:H a=some (.tup xs))(hw:¬ (HT.bz xs.length 0 lo=0/\HT.bz xs.length xs.length hi=xs.length))(h:∀ p H',Sep (pt p (.tup (gZ xs lo hi))::O) H'->Q (.ref p) H'):yn K (.ref a) lo hi H Q:=by unfold yn;exact .inr ⟨a,xs,rfl,bc.of e,hw,al s h⟩
end
end L3
namespace L3
open PySem PySem.Spec PySem.W L2
variable {ps:List Str}
def vL:∀ {us:List Value}{n:Str},us.length=ps.length->n ∈ ps->((ps.zip us).lookup n).isNone=false:=by
 induction ps with
 |nil=>intro us n _ h;cases h
 |cons p ps ih=>
  intro us n hl h;cases us with
  |nil=>cases hl
  |cons u us=>
   rw[zip_cons_cons,lookup_cons];cases e:n ==p with
   |true=>rfl
   |false=>
    rcases mem_cons.mp h with rfl|h
    ·rw[beq_self_eq_true] at e;cases e
    ·exact ih (Nat.succ.inj hl) h
def qg:∀ {ps:List Str}{us:List Value},ps.Nodup->us.length=ps.length->∀ {L:List (Str×Value)},(∀ n ∈ ps,L.lookup n=(ps.zip us).lookup n)->ps.filterMap (λn=>(L.lookup n).map (n,·))=ps.zip us
 | [],us,_,_,L,_=>rfl
 |p::ps,[],_,hl,L,_=>by cases hl
 |p::ps,u::us,nd,hl,L,hL=>by
  have h0:L.lookup p=some u:=by rw[hL p mem_cons_self,zip_cons_cons,lookup_cons,beq_self_eq_true]
  rw[filterMap_cons,h0,zip_cons_cons];show (p,u)::_=_;rw[qg (nodup_cons.mp nd).2 (Nat.succ.inj hl) (L:=L)];intro n hn;rw[hL n (mem_cons_of_mem _ hn),zip_cons_cons,lookup_cons];have:(n ==p)=false:=by
   cases e:n ==p with
   |false=>rfl
   |true=>
    have:=beq_iff_eq.mp e;subst this;exact absurd hn (nodup_cons.mp nd).1
  rw[this]
variable {fd:FuncData}
def nK (nd:ps.Nodup)(h1:fd.params.posonlyargs=[])(h2:fd.params.args.map (·.arg)=ps)(h3:fd.params.kwonlyargs=[])(h4:fd.params.vararg=none)(h5:fd.params.kwarg=none)(h6:fd.defaults=.none)(us:List Value)(hl:us.length=ps.length):
  bindArgs fd ⟨us,[]⟩=pure (ps.zip us):=by
 obtain ⟨name,qual,⟨po,as,va,ko,kd,ka,df⟩,body,scope,glo,cn,dV,kV,doc,pm,an,cdv,ct,bu⟩:=fd;dsimp only at h1 h2 h3 h4 h5 h6;subst h1 h2 h3 h4 h5 h6;generalize hps:as.map (·.arg)=ps at nd hl⊢;have e1:seqItems? (Value.none)=(pure none:Sem (Option (Array Value))):=rfl;have e2:∀ f:Str->Bool,(∀ n ∈ ps,f n=false)->ps.filter f=[]:=λf h=>List.filter_eq_nil_iff.mpr λa ha=>by rw[h a ha];decide
 have e3:¬ (us.length>ps.length):=by omega
 have e4:=e2 (λn=>((ps.zip us).lookup n).isNone) λn hn=>vL hl hn
 have e5:=qg nd hl (L:=ps.zip us) λ_ _=>rfl
 unfold bindArgs;dsimp only[List.map_nil,nil_append,append_nil];rw[hps];simp[e1,e3,e4,e5]
abbrev gD (S:List (Str×Value))(x:Str×Value):List (Str×Value):=if (S.lookup x.1).isNone=true then S++[x] else S
def Bu:∀ {L:List (Str×Value)}{S:List (Str×Value)},(∀ x ∈ L,(S.lookup x.1).isNone=false)->L.foldl gD S=S
 | [],_,_=>rfl
 |x::L,S,h=>by
  have h0:gD S x=S:=by
   unfold gD;rw[if_neg (by rw[h x mem_cons_self];decide)]
  rw[foldl_cons,h0];exact Bu λy hy=>h y (mem_cons_of_mem _ hy)
def Bz:∀ {L:List (Str×Value)}{S:List (Str×Value)},(L.map (·.1)).Nodup->(∀ x ∈ L,S.lookup x.1=none)->L.foldl gD S=S++L
 | [],S,_,_=>by rw[append_nil];rfl
 |x::L,S,nd,h=>by
  have h0:gD S x=S++[x]:=by
   unfold gD;rw[if_pos (by rw[h x mem_cons_self];rfl)]
  rw[map_cons] at nd;rw[foldl_cons,h0,Bz (nodup_cons.mp nd).2]
  ·rw[append_assoc];rfl
  ·intro y hy;have hne:(y.1 ==x.1)=false:=by
    cases e:y.1 ==x.1 with
    |false=>rfl
    |true=>
     have e:=beq_iff_eq.mp e;exact absurd (List.mem_map_of_mem (f:=(·.1)) hy) (e▸(nodup_cons.mp nd).1)
   obtain ⟨a,b⟩:=x;rw[List.lookup_append,h y (mem_cons_of_mem _ hy),lookup_cons,hne]
   rfl
def Bj {n:Str}:∀ {L:List (Str×Value)},(∀ x ∈ L,x.1≠n)->L.lookup n=none
 | [],_=>rfl
 |(a,b)::L,h=>by
  have:(n ==a)=false:=by
   cases e:n ==a with
   |false=>rfl
   |true=>exact absurd (beq_iff_eq.mp e).symm (h (a,b) mem_cons_self)
  rw[lookup_cons,this];exact Bj λx hx=>h x (mem_cons_of_mem _ hx)
variable {A:List Str}{B:List Value}
def mw {x:Str×Value}(h:x ∈ A.zip B):x.1 ∈ A:=by
 obtain ⟨a,b⟩:=x;exact (of_mem_zip h).1
def zip_map (h:A.length<=B.length):(A.zip B).map (·.1)=A:=List.map_fst_zip h
def mj {B:List Str}{us:List Value}(h:A.length=us.length):(A++B).zip us=A.zip us:=by
 have:=zip_append (l₁:=A) (l₂:=us) (r₁:=B) (r₂:=[]) h;rw[append_nil,List.zip_nil_right,append_nil] at this;exact this
def y8 {B:List Str}{us D1 D2:List Value}(nd:(A++B).Nodup)(h1:A.length=us.length)(h2:B.length=D2.length)(h3:D1.length<=A.length):
  (((A++B).drop (A.length-D1.length)).zip (D1++D2)).foldl gD ((A++B).zip us)=(A++B).zip (us++D2):=by
 have a:=Bu (L:=(A.drop (A.length-D1.length)).zip D1) (S:=(A++B).zip us) λx hx=>by
  rw[mj h1];exact vL h1.symm (List.mem_of_mem_drop (mw hx))
 have b:=Bz (L:=B.zip D2) (S:=(A++B).zip us) (by rw[zip_map nofun];exact (List.nodup_append.mp nd).2.1) λx hx=>by
  refine Bj λy hy e=>?_
  rw[mj h1] at hy;exact (List.nodup_append.mp nd).2.2 y.1 (mw hy) x.1 (mw hx) e
 rw[List.drop_append_of_le_length nofun,zip_append (by rw[length_drop];omega),List.foldl_append,a,b,mj h1,zip_append h1]
def wm {us ds:List Value}(nd:ps.Nodup)(h1:us.length<=ps.length)(h2:ds.length<=ps.length)(h3:ps.length<=us.length+ds.length):
  ((ps.drop (ps.length-ds.length)).zip ds).foldl gD (ps.zip us)=ps.zip (us++ds.drop (us.length+ds.length-ps.length)):=by
 have nd2:(ps.take us.length++ps.drop us.length).Nodup:=by rw[take_append_drop];exact nd
 have:=y8 (A:=ps.take us.length) (B:=ps.drop us.length) (us:=us) (D1:=ds.take (us.length+ds.length-ps.length)) (D2:=ds.drop (us.length+ds.length-ps.length)) nd2 (by rw[length_take];omega) (by rw[length_drop,length_drop];omega) (by rw[length_take,length_take];omega);rw[take_append_drop,take_append_drop,length_take,length_take] at this;rw[show min us.length ps.length-min (us.length+ds.length-ps.length) ds.length=ps.length-ds.length by omega] at this;exact this
def pd:∀ {L:List (Str×Value)}{S:List (Str×Value)},(forIn L S λx r=>(match x with|(name,d)=>if (r.lookup name).isNone=true then pure (ForInStep.yield (r++[(name,d)])) else pure (ForInStep.yield r):Sem (ForInStep (List (Str×Value)))))=pure (L.foldl gD S)
 | [],S=>by simp
 |(a,b)::L,S=>by
  rw[forIn_cons,foldl_cons,<-pd];unfold gD
  by_cases e:(S.lookup a).isNone=true
  ·simp only[e,if_true,pure_bind]
  ·simp only[e,if_false,pure_bind,Bool.false_eq_true]
def xB {T:Addr}{items:Array Value}(nd:ps.Nodup)(h1:fd.params.posonlyargs=[])(h2:fd.params.args.map (·.arg)=ps)(h3:fd.params.kwonlyargs=[])(h4:fd.params.vararg=none)(h5:fd.params.kwarg=none)(h6:fd.defaults=.ref T)(us:List Value)(l1:us.length<=ps.length)(l2:items.toList.length<=ps.length)(l3:ps.length<=us.length+items.toList.length):
  ∃ k:Option (Array Value)->Sem (List (Str×Value)),bindArgs fd ⟨us,[]⟩=seqItems? fd.defaults >>= k/\k (some items)=pure (ps.zip (us++items.toList.drop (us.length+items.toList.length-ps.length))):=by
 obtain ⟨name,qual,⟨po,as,va,ko,kd,ka,df⟩,body,scope,glo,cn,dV,kV,doc,pm,an,cdv,ct,bu⟩:=fd;dsimp only at h1 h2 h3 h4 h5 h6;subst h1 h2 h3 h4 h5 h6;generalize hps:as.map (·.arg)=ps at nd l1 l2 l3⊢;have e2:∀ f:Str->Bool,(∀ n ∈ ps.take (ps.length-items.toList.length),f n=false)->(ps.take (ps.length-items.toList.length)).filter f=[]:=λf h=>List.filter_eq_nil_iff.mpr λa ha=>by rw[h a ha];decide
 have e3:¬ (us.length>ps.length):=by omega
 have ez:ps.zip us=(ps.take us.length).zip us:=by
  have:=mj (A:=ps.take us.length) (B:=ps.drop us.length) (us:=us) (by rw[length_take];omega);rw[take_append_drop] at this;exact this
 have e4:=e2 (λn=>((ps.zip us).lookup n).isNone) λn hn=>by
  rw[ez];refine vL (by rw[length_take];omega) ?_;have:ps.take (ps.length-items.toList.length)=(ps.take us.length).take (ps.length-items.toList.length):=by rw[List.take_take,Nat.min_eq_left nofun]
  rw[this] at hn;exact List.mem_of_mem_take hn
 have e6:=wm (us:=us) (ds:=items.toList) nd l1 l2 l3;have e5:=qg (us:=us++items.toList.drop (us.length+items.toList.length-ps.length)) nd (by rw[length_append,length_drop];omega) λ_ _=>rfl
 have e7:items.toList.length-ps.length=0:=by omega
 unfold bindArgs;dsimp only[List.map_nil,nil_append,append_nil];rw[hps];refine ⟨_,rfl,?_⟩;simp only[Option.getD_some,List.map_nil,nil_append,e7,drop_zero,e4,e3,List.isEmpty_nil,Bool.not_true,decide_false,Bool.false_and,Bool.false_eq_true,if_false,forIn_nil,append_nil];rw[pd,e6,pure_bind,pure_bind];simp only[e5,List.isEmpty_nil,Bool.not_true,Bool.false_eq_true,if_false]
abbrev BD (x:Option (Option Value))(a:Addr):Bool:=match x with
 |some (some (.ref b))=>b ==a
 |_=>false
variable {x:Option (Option Value)}
def fm {a:Addr}(h:BD x a=true):x=some (some (.ref a)):=by
 unfold BD at h
 split at h
 ·rw[beq_iff_eq.mp h]
 ·cases h
abbrev uC (x:Option (Option Value))(a:String):Bool:=match x with
 |some (some (.builtin b))=>b ==a
 |_=>false
variable {a:String}
def cf (h:uC x a=true):x=some (some (.builtin a)):=by
 unfold uC at h
 split at h
 ·rw[beq_iff_eq.mp h]
 ·cases h
abbrev HM (x:Option Value)(a:String):Bool:=match x with
 |some (.type b)=>b ==a
 |_=>false
def Ck {x:Option Value}(h:HM x a=true):x=some (.type a):=by
 unfold HM at h
 split at h
 ·rw[beq_iff_eq.mp h]
 ·cases h
abbrev xF (x:Option (Option Value)):Bool:=match x with
 |some none=>true
 |_=>false
def lG (h:xF x=true):x=some none:=by
 unfold xF at h
 split at h
 ·rfl
 ·cases h
abbrev AF (x:Option Bool)(b:Bool):Bool:=match x with
 |some c=>c ==b
 |none=>false
def dP {x:Option Bool}{b:Bool}(h:AF x b=true):x=some b:=by
 unfold AF at h
 split at h
 ·rw[beq_iff_eq.mp h]
 ·cases h
abbrev IC (v:V)(x:Option (Option Value)):Bool:=match v,x with
 | .int i,some (some (.int j _))=>i ==j
 | .str s,some (some (.str s' _))=>s ==s'
 | .ref a,y=>BD y a
 |_,_=>false
def Cq {v:V}(h:IC v x=true):∃ u,x=some (some u)/\RelV v u:=by
 unfold IC at h
 split at h
 ·rw[<-beq_iff_eq.mp h];exact ⟨_,rfl,_,rfl⟩
 ·rw[<-beq_iff_eq.mp h];exact ⟨_,rfl,_,rfl⟩
 ·rw[fm h];exact ⟨_,rfl,rfl⟩
 ·cases h
section
variable (K:Frag) (C:Addr)
abbrev AD:Bool:=plainGet K C Str.empty&&(hasDictIn K C&&(plainOver K C&&uC (findIn K (.ref C) "__setattr__") "object.__setattr__"))
def rS {K:Frag}{C:Addr}(h:AD K C=true):Ao K C:=by
 unfold AD at h;simp only[Bool.and_eq_true] at h;exact ⟨h.1,h.2.1,h.2.2.1,cf h.2.2.2⟩
abbrev zp:Bool:=uC (findIn K (.ref C) "__class__") "object.__class__"&&(uC (specialIn K (.builtin "object.__class__") "__get__") "getset_descriptor.__get__"&&AF (takesIn K (.builtin "object.__class__")) true)
abbrev oO:Bool:=HM (typeIn K (.ref C)) "type"&&((clsIn K C).any (λcd=>c7 cd.mro)&&(hasDictIn K C&&(uC (findIn K (.ref C) "__getattribute__") "BaseException.__getattribute__"&&(xF (findIn K (.ref C) "__getattr__")&&uC (findIn K (.ref C) "__setattr__") "object.__setattr__"))))
def jF {K:Frag}{C:Addr}(h:oO K C=true):cw K C:=by
 unfold oO at h;simp only[Bool.and_eq_true] at h;exact ⟨Ck h.1,h.2.1,h.2.2.1,cf h.2.2.2.1,lG h.2.2.2.2.1,cf h.2.2.2.2.2⟩
end
abbrev all2 {α:Type}(l:List α)(p:α->Bool):Bool:=match l with
 | []=>true
 |a::r=>p a&&all2 r p
def ar {α:Type}{p:α->Bool}:∀ {l:List α},all2 l p=true->∀ a ∈ l,p a=true
 | [],_,_,h=>by cases h
 |a::r,h,b,hb=>by
  unfold all2 at h;rw[Bool.and_eq_true] at h;rcases mem_cons.mp hb with rfl|hb
  ·exact h.1
  ·exact ar h.2 b hb
abbrev Er (K:Frag)(fs cs:List Addr)(gs:List (Str×V)):Rt:=⟨K,λi=>fs.getD i 0,λi=>cs.getD i 0,λx=>gs.lookup x⟩
section
variable (K:Frag) (T:Tab) (fs cs:List Addr) (gs:List (Str×V))
abbrev Dy:Bool:=
 (all2 T.gfn (λp=>BD (nsIn K mainGlobals p.1) (fs.getD p.2 0)&&(keepIn K (.ref (fs.getD p.2 0))&&(T.fns[p.2]?).isSome))&&
 (all2 T.gcl (λp=>BD (nsIn K mainGlobals p.1) (cs.getD p.2 0))&&
 (all2 T.gbl (λx=>xF (nsIn K mainGlobals x)&& !(x ==("__name__":Str)))&&
 (all2 T.gbi (λx=>match nsIn K mainGlobals x with
  |some (some (.ref B))=>uC (specialIn K (.ref B) "__getattribute__") "type.__getattribute__"&&(readsIn K B (.type "type")&&(match findCls K (.ref B) (.type "type") "__init__" with|some (.val (.builtin n))=>n =="ValueError.__init__"|_=>false))
  |_=>false)&&
 (all2 gs (λp=>IC p.2 (nsIn K mainGlobals p.1))&&
 (all2 T.na (λp=>xF (findIn K (.ref (cs.getD p.1 0)) p.2))&&
 (all2 T.me (λp=>AD K (cs.getD p.1.1 0)&&(BD (findIn K (.ref (cs.getD p.1.1 0)) p.1.2) (fs.getD p.2 0)&&(isFn K (.ref (fs.getD p.2 0))&&(keepIn K (.ref (fs.getD p.2 0))&&(T.fns[p.2]?).isSome)))))))))))&&
 (all2 T.ini0 (λc=>bL K (cs.getD c 0)&&(uC (findIn K (.ref (cs.getD c 0)) "__init__") "ValueError.__init__"&&(keepIn K (.ref (cs.getD c 0))&&oO K (cs.getD c 0))))&&
 (all2 T.inip (λc=>makesIn K (cs.getD c 0)&&(uC (findIn K (.ref (cs.getD c 0)) "__init__") "object.__init__"&&keepIn K (.ref (cs.getD c 0))))&&
 (all2 T.ini (λp=>(T.fns[p.2]?).isSome&&((if T.xc.contains p.1=true then bL K (cs.getD p.1 0) else makesIn K (cs.getD p.1 0))&&(BD (findIn K (.ref (cs.getD p.1 0)) "__init__") (fs.getD p.2 0)&&(isFn K (.ref (fs.getD p.2 0))&&keepIn K (.ref (cs.getD p.1 0))))))&&
 (all2 T.oc (λc=>AD K (cs.getD c 0)&&(zp K (cs.getD c 0)&&AF (mroIn K (cs.getD c 0) (.type "object")) true))&&
 (all2 T.xc (λc=>oO K (cs.getD c 0)&&zp K (cs.getD c 0))&&
 (all2 T.sub (λp=>AF (kitOne K (.ref (cs.getD p.1.1 0)) (.ref (cs.getD p.1.2 0))) p.2&&(!T.xc.contains p.1.1||(AF (mroIn K (cs.getD p.1.1 0) (.ref (cs.getD p.1.2 0))) p.2&&oO K (cs.getD p.1.2 0))))&&
 (all2 T.subT (λp=>AF (kitOne K (.ref (cs.getD p.1.1 0)) (.type p.1.2)) p.2)&&
 (all2 T.subB (λp=>AF (kitOne K (.type p.1.1) (.type p.1.2)) p.2)&&
 (all2 T.subO (λp=>AF (kitOne K (.type p.1.1) (.ref (cs.getD p.1.2 0))) p.2)&&
  all2 T.cin (λp=>uC (specialIn K (.ref (cs.getD p.1 0)) "__getattribute__") "type.__getattribute__"&&(readsIn K (cs.getD p.1 0) (.type "type")&&((match findCls K (.ref (cs.getD p.1 0)) (.type "type") "__init__" with|some (.val (.ref f))=>f ==fs.getD p.2 0|_=>false)&&(keepIn K (.ref (fs.getD p.2 0))&&(T.fns[p.2]?).isSome)))))))))))))
end
def iX {α:Type}{x:Option α}(h:x.isSome=true):∃ d,x=some d:=Option.isSome_iff_exists.mp h
variable {K:Frag}{T:Tab}{fs:List Addr}{gs:List (Str×V)}{mg:JT}
def AB {cs:List Addr}{h:Heap}(X:K.In h)(G:h.Ns mainGlobals mg)(z:Dy K T fs cs gs=true):A4 K mg T (Er K fs cs gs):=by
 unfold Dy at z;simp only[Bool.and_eq_true] at z;obtain ⟨⟨z1,z2,z3,z4,z5,z6,z7⟩,z8,z9,z10,z11,z12,z13,z14,z15,z16,z17⟩:=z;exact {
  gfn:=jb λp hp=>by
   have:=ar z1 p hp;simp only[Bool.and_eq_true] at this;exact ⟨mg_of X G (fm this.1),this.2.1,iX this.2.2⟩
  gcl:=jb λp hp=>mg_of X G (fm (ar z2 p hp))
  gbl:=gX λx hx=>by
   have:=ar z3 x hx;simp only[Bool.and_eq_true] at this;exact ⟨mg_none_of X G (lG this.1),by simpa using this.2⟩
  gbi:=gX λx hx=>by
   have:=ar z4 x hx
   split at this
   ·rename_i B e;simp only[Bool.and_eq_true] at this;refine ⟨B,mg_of X G e,cf this.1,this.2.1,?_⟩;have t:=this.2.2
    split at t
    ·rename_i n e2;rw[e2,beq_iff_eq.mp t]
    ·cases t
   ·cases this
  gl:=jb λp hp=>by
   obtain ⟨u,e,r⟩:=Cq (ar z5 p hp);exact ⟨u,mg_of X G e,r⟩
  na:=yy λp hp=>lG (ar z6 p hp)
  me:=gm λp hp=>by
   have:=ar z7 p hp;simp only[Bool.and_eq_true] at this;exact ⟨rS this.1,⟨fm this.2.1,this.2.2.1,this.2.2.2.1⟩,iX this.2.2.2.2⟩
  ini0:=gX λc hc=>by
   have:=ar z8 c hc;simp only[Bool.and_eq_true] at this;exact ⟨this.1,cf this.2.1,this.2.2.1,jF this.2.2.2⟩
  inip:=gX λc hc=>by
   have:=ar z9 c hc;simp only[Bool.and_eq_true] at this;exact ⟨this.1,cf this.2.1,this.2.2⟩
  ini:=jb λp hp=>by
   have:=ar z10 p hp;simp only[Bool.and_eq_true] at this;refine ⟨iX this.1,?_⟩;have t:=this.2
   by_cases e:T.xc.contains p.1=true
   ·rw[if_pos e] at t⊢;exact ⟨t.1,fm t.2.1,t.2.2.1,t.2.2.2⟩
   ·rw[if_neg e] at t⊢;exact ⟨t.1,fm t.2.1,t.2.2.1,t.2.2.2⟩
  oc:=gX λc hc=>by
   have:=ar z11 c hc;simp only[zp,Bool.and_eq_true] at this;exact ⟨rS this.1,cf this.2.1.1,cf this.2.1.2.1,dP this.2.1.2.2,dP this.2.2⟩
  xc:=gX λc hc=>by
   have:=ar z12 c hc;simp only[zp,Bool.and_eq_true] at this;exact ⟨jF this.1,cf this.2.1,cf this.2.2.1,dP this.2.2.2⟩
  sub:=gm λp hp=>by
   have:=ar z13 p hp;simp only[Bool.and_eq_true] at this;refine ⟨dP this.1,λe=>?_⟩;have t:=this.2;rw[e,Bool.not_true,Bool.false_or,Bool.and_eq_true] at t;exact ⟨dP t.1,jF t.2⟩
  subT:=gm λp hp=>dP (ar z14 p hp)
  subB:=gm λp hp=>dP (ar z15 p hp)
  subO:=gm λp hp=>dP (ar z16 p hp)
  cin:=jb λp hp=>by
   have:=ar z17 p hp;simp only[Bool.and_eq_true] at this;refine ⟨⟨cf this.1,this.2.1,?_,this.2.2.2.1⟩,iX this.2.2.2.2⟩;have t:=this.2.2.1
   split at t
   ·rename_i f e2;rw[beq_iff_eq.mp t] at e2;exact e2
   ·cases t }
abbrev Hj:List Str->Bool
 | []=>true
 |a::r=>!r.contains a&&Hj r
def xu:∀ {l:List Str},Hj l=true->l.Nodup
 | [],_=>List.nodup_nil
 |a::r,h=>by
  unfold Hj at h;rw[Bool.and_eq_true] at h;exact nodup_cons.mpr ⟨by simpa using h.1,xu h.2⟩
abbrev IM (N P:List Str)(sc:Scope):Bool:=decide (sc.kind=.function)&&(!sc.isCoroutine&&(!sc.isGenerator&&(Hj N&&(N.take P.length ==P&&(all2 P (λx=>match sc.names.lookup x with|some .local=>true|some .cell=>true|_=>false)&&all2 sc.names (λy=>match y.2 with| .free=>false|_=>true))))))
def qx {N P:List Str}{sc:Scope}(h:IM N P sc=true):i4 N P sc:=by
 unfold IM at h;simp only[Bool.and_eq_true,decide_eq_true_eq] at h;refine ⟨h.1,by simpa using h.2.1,by simpa using h.2.2.1,xu h.2.2.2.1,beq_iff_eq.mp h.2.2.2.2.1,λx hx=>?_,λy hy e=>?_⟩
 ·have:=ar h.2.2.2.2.2.1 x hx
  split at this
  ·rename_i e;exact .inl e
  ·rename_i e;exact .inr e
  ·cases this
 ·have:=ar h.2.2.2.2.2.2 y hy;rw[e] at this;cases this
abbrev IG:V->Value->Bool
 | .non,.none=>true
 | .bl b,.bool c=>b ==c
 | .int i,.int j _=>i ==j
 | .str s,.str s' _=>s ==s'
 |_,_=>false
def C0 {v:V}{u:Value}(h:IG v u=true):RelV v u:=by
 unfold IG at h
 split at h
 ·rfl
 ·rw[beq_iff_eq.mp h];rfl
 ·rw[beq_iff_eq.mp h];exact ⟨_,rfl⟩
 ·rw[beq_iff_eq.mp h];exact ⟨_,rfl⟩
 ·cases h
abbrev xq:List V->List Value->Bool
 | [],[]=>true
 |v::vs,u::us=>IG v u&&xq vs us
 |_,_=>false
def lM:∀ {vs:List V}{us:List Value},xq vs us=true->Vals vs us
 | [],[],_=>.nil
 |v::vs,u::us,h=>by
  unfold xq at h;rw[Bool.and_eq_true] at h;exact .cons (C0 h.1) (lM h.2)
 | [],_::_,h=>by cases h
 |_::_,[],h=>by cases h
abbrev HZ (K:Frag)(fd:FuncData)(d:ai):Bool:=match fd.defaults with
 | .none=>d.dfl.isEmpty
 | .ref T=>!d.dfl.isEmpty&&(match K.lookup T with
  |some o=>(match o.data with| .seq items _=>xq d.dfl items.toList&&decide (items.toList.length<=d.ps.length)|_=>false)
  |none=>false)
 |_=>false
abbrev BZ (K:Frag)(T:Tab)(f:Addr)(d:ai):Bool:=match K.lookup f with
 |some ⟨_,_,.func fd,_⟩=>(match fd.body with
  | .stmts body=>decide (fd.globals=mainGlobals)&&(fd.closure.isEmpty&&(decide (fd.builtins=builtinsNs)&&(codeIn K fd.code fd.qualname&&(IM d.N d.ps fd.scope&&(mB ⟨T,fd.scope,d.N⟩ d.body body&&
   (fd.params.posonlyargs.isEmpty&&(fd.params.args.map (·.arg) ==d.ps&&(fd.params.kwonlyargs.isEmpty&&(fd.params.vararg.isNone&&(fd.params.kwarg.isNone&&HZ K fd d))))))))))
  |_=>false)
 |_=>false
variable {d:ai}
def Dw {f:Addr}(h:BZ K T f d=true):tV K T f d:=by
 unfold BZ at h
 split at h
 ·rename_i oc od fd sl e;obtain ⟨name,qual,params,body,scope,glo,cn,dV,kV,doc,pm,an,cdv,ct,bu⟩:=fd;dsimp only at h
  split at h
  ·rename_i body;simp only[Bool.and_eq_true,decide_eq_true_eq,isEmpty_iff,Option.isNone_iff_eq_none] at h;obtain ⟨h1,h2,h3,h4,h5,h6,h7,h8,h9,h10,h11,h12⟩:=h;subst h1 h2 h3;have S:=qx h5;have nd:d.ps.Nodup:=by
    rw[<-S.pre];exact S.nd.sublist (take_sublist _ _)
   refine ⟨⟨name,qual,params,body,scope,dV,kV,doc,pm,cdv,ct,oc,od,an,sl,e,h4,S,h6,?_⟩⟩;unfold HZ at h12;dsimp only at h12
   split at h12
   ·rw[isEmpty_iff.mp h12];exact Cn (.all λus hl=>nK nd h7 (beq_iff_eq.mp h8) h9 h10 h11 rfl us hl)
   ·rename_i T0;rw[Bool.and_eq_true] at h12;have h12:=h12.2
    split at h12
    ·rename_i o ho
     split at h12
     ·rename_i items c hs;rw[Bool.and_eq_true,decide_eq_true_eq] at h12;intro j;refine ⟨items.toList.drop j,?_,ku j (lM h12.1)⟩;refine yZ (n:=d.ps.length-(items.toList.drop j).length) rfl ho hs (by rw[length_drop];omega) λus hl=>?_
      rw[length_drop] at hl;obtain ⟨k,k1,k2⟩:=xB (fd:=fnOf name qual params body scope (.ref T0) kV doc pm an cdv ct) (items:=items) nd h7 (beq_iff_eq.mp h8) h9 h10 h11 rfl us nofun h12.2 nofun;refine ⟨k,k1,?_⟩;rw[k2]
      by_cases e:j<=items.toList.length
      ·rw[show us.length+items.toList.length-d.ps.length=j by omega]
      ·rw[show us.length+items.toList.length-d.ps.length=items.toList.length by omega,List.drop_length,List.drop_eq_nil_of_le (by omega:items.toList.length<=j)]
     ·cases h12
    ·cases h12
   ·cases h12
  ·cases h
 ·cases h
abbrev mG (K:Frag)(T:Tab)(fs:List Addr):Nat->List ai->Bool
 |_,[]=>true
 |n,d::r=>BZ K T (fs.getD n 0) d&&mG K T fs (n+1) r
def qP {K:Frag}{T:Tab}{fs:List Addr}:∀ {l:List ai}{n:Nat},mG K T fs n l=true->r9 (λf d=>tV K T (fs.getD f 0) d) n l
 | [],_,_=>True.intro
 |d::r,n,h=>by
  unfold mG at h;rw[Bool.and_eq_true] at h;exact ⟨Dw h.1,qP h.2⟩
def zm (h:mG K T fs 0 T.fns=true):∀ f d,T.fns[f]? =some d->tV K T (fs.getD f 0) d:=qh (P:=λf d=>tV K T (fs.getD f 0) d) (qP h)
def qQ {K:Frag}{T:Tab}{fs:List Addr}:∀ {l:List ai}{n f:Nat}{d:ai},mG K T fs n l=true->l[f]? =some d->BZ K T (fs.getD (n+f) 0) d=true
 | [],_,_,_,_,e=>by simp at e
 |a::r,n,0,d,h,e=>by
  unfold mG at h;rw[Bool.and_eq_true] at h;have:a=d:=by simpa using e
  subst this;exact h.1
 |a::r,n,f+1,d,h,e=>by
  unfold mG at h;rw[Bool.and_eq_true] at h;have:=qQ h.2 (f:=f) (d:=d) (by simpa using e)
  rwa [Nat.add_assoc,Nat.add_comm 1 f] at this
def Aa {fl:Nat}(z:mG K T fs 0 T.fns=true)(hd:T.fns[fl]? =some d)(hp:d.ps=[("_law_script":Str)]) (hf:d.dfl=[]):
  ∃ oc od fd sl,K.lookup (fs.getD fl 0)=some ⟨oc,od,.func fd,sl⟩/\∀ (s:Shared) (v:Value),BindsTo s fd ⟨[v],[]⟩ [("_law_script",v)]:=by
 have h:=qQ z hd;rw[Nat.zero_add] at h;unfold BZ at h
 split at h
 ·rename_i oc od fd sl e;refine ⟨oc,od,fd,sl,e,λs v=>?_⟩
  split at h
  ·rename_i body hb;simp only[Bool.and_eq_true,decide_eq_true_eq,isEmpty_iff,Option.isNone_iff_eq_none] at h;obtain ⟨h1,h2,h3,h4,h5,h6,h7,h8,h9,h10,h11,h12⟩:=h;have nd:d.ps.Nodup:=by
    rw[<-(qx h5).pre];exact (qx h5).nd.sublist (take_sublist _ _)
   unfold HZ at h12;rw[hf] at h12;have e6:fd.defaults=.none:=by
    split at h12
    ·rename_i e;exact e
    ·rw[Bool.and_eq_true] at h12;cases h12.1
    ·cases h12
   have:=nK nd h7 (beq_iff_eq.mp h8) h9 h10 h11 e6 [v] (by rw[hp];rfl);rw[hp] at this;exact .of_eq this
  ·cases h
 ·cases h
def AR {P:Program}{w:World}{h:Heap}{fa:Addr}{cs:List Addr}{fl k:Nat}(X:K.In h)(G:h.Ns mainGlobals mg)(hfa:mg "law"=some (.ref fa))
  (z1:Dy K T fs cs gs=true) (z2:mG K T fs 0 T.fns=true) (z3:BD (nsIn K mainGlobals "law") (fs.getD fl 0)=true) (hd:T.fns[fl]? =some d) (hp:d.ps=[("_law_script":Str)]) (hf:d.dfl=[])
  (ht:∀ vs H Q E,hR K 63 vs H Q E->aa T (Er K fs cs gs) k fl vs H Q E):
  ∃ fd:FuncData,(∀ (s:Shared) (v:Value),BindsTo s fd ⟨[v],[]⟩ [("_law_script",v)])/\∀ base:Heap,K.In base->base.Ns mainGlobals mg->cU P w K mg base (w4 P w) (2*k) fa fd ["_law_script"] (hR K 63):=by
 have e0:fs.getD fl 0=fa:=by
  have e:=hfa.symm.trans (mg_of X G (fm z3))
  injection e with e
  injection e with e
  exact e.symm
 have fn:=zm z2;have tk:=AB X G z1;have N:=fn fl d hd;have hN:=Aa z2 hd;obtain ⟨oc,od,fd,sl,e,hb⟩:=hN hp hf;refine ⟨fd,hb,λbase hb hg=>?_⟩;have F:=Ct (P:=P) (w:=w) (base:=base) (R:=Er K fs cs gs) tk rfl fn k fl d hd (fd:=fd) (lk:=e) (mZ▸ht);rw[hp] at F;rw[<-e0];exact F
abbrev Jf (K:Frag)(a:Addr)(vs:List V):Bool:=match K.lookup a with
 |some ⟨.type t,_,.seq items _,_⟩=>t =="tuple"&&(decide (items.size<=1000)&&xq vs items.toList)
 |_=>false
def CC {a:Addr}{vs:List V}(h:Jf K a vs=true)(H:Hp):bc K H a vs:=by
 unfold Jf at h
 split at h
 ·rename_i t od items n sl e;simp only[Bool.and_eq_true,decide_eq_true_eq] at h;refine .inr ⟨_,items,n,e,?_,rfl,?_,lM h.2.2⟩
  ·show Value.type t=_;rw[beq_iff_eq.mp h.1]
  ·exact Nat.le_of_lt (cN h.2.1)
 ·cases h
end L3
namespace L3
open PySem L2
noncomputable abbrev fB.c (e:Ex)(r:fB):fB:=.cons e r
noncomputable abbrev fB.n:fB:=.nil
noncomputable abbrev mh.c (e:Sx)(r:mh):mh:=.cons e r
noncomputable abbrev mh.n:mh:=.nil
noncomputable abbrev yf.c (a b:Nat)(e:mh)(r:yf):yf:=.cons a b e r
noncomputable abbrev yf.n:yf:=.nil
noncomputable abbrev Ex.i (x:Int):Ex:=.int x
noncomputable abbrev Ex.s (x:Str):Ex:=.str x
noncomputable abbrev Ex.k (x:Nat)(e:fB):Ex:=.call x e
noncomputable abbrev Ex.m (a:Ex)(x:Str)(e:fB):Ex:=.meth a x e
noncomputable abbrev Ex.f (c:Tx)(a b:Ex):Ex:=.ife c a b
noncomputable abbrev Ex.q (o:CmpOp)(a b:Ex):Ex:=.cmp o a b
noncomputable abbrev Tx.q (o:CmpOp)(a b:Ex):Tx:=.cmp o a b
noncomputable abbrev Sx.a (x:Nat)(e:Ex):Sx:=.asg x e
noncomputable abbrev Sx.r (e:Ex):Sx:=.ret e
noncomputable abbrev Sx.f (c:Tx)(a b:mh):Sx:=.ife c a b
noncomputable abbrev Sx.e (e:Ex):Sx:=.expr e
end L3
set_option Elab.async false
set_option maxHeartbeats 8000000
open PySem PySem.Spec L2 L3
namespace My
open PySem L2 L3
set_option hygiene false
local macro_rules|`(#[])=>`(.n)|`(#[$x:term])=>`(.c $x .n)|`(#[$x:term,$xs:term,*])=>`(.c $x #[$xs,*])
set_option hygiene true
abbrev b9:ai:=⟨["self","at"],["self","at"],[],#[.e (.bini #[.v 0,.s "no list of 1 to 60 contents"]),.fld (.v 0) "at" (.v 1)]⟩
abbrev dA:ai:=⟨["self","deed","cell"],["self","deed","cell"],[],#[.e (.bini #[.v 0,.s "a cell that is not there, or may not be looked at or put"]),.fld (.v 0) "deed" (.v 1),.fld (.v 0) "cell" (.v 2)]⟩
abbrev cP:ai:=⟨["self","box","number"],["self","box","number"],[],#[.e (.bini #[.v 0,.s "a box can't hold this"]),.fld (.v 0) "box" (.v 1),.fld (.v 0) "number" (.v 2)]⟩
abbrev gW:ai:=⟨["self","box"],["self","box"],[],#[.e (.bini #[.v 0,.s "no box of that name"]),.fld (.v 0) "box" (.v 1)]⟩
abbrev fP:ai:=⟨["self","word"],["self","word"],[],#[.e (.bini #[.v 0,.s "a deed can't be made of this"]),.fld (.v 0) "word" (.v 1)]⟩
abbrev fO:ai:=⟨["self","at"],["self","at"],[],#[.e (.bini #[.v 0,.s "no list of 1 to 24 deeds"]),.fld (.v 0) "at" (.v 1)]⟩
abbrev fu:ai:=⟨["self","at"],["self","at"],[],#[.e (.bini #[.v 0,.s "no place to stand at"]),.fld (.v 0) "at" (.v 1)]⟩
abbrev bR:ai:=⟨["self","at"],["self","at"],[],#[.e (.bini #[.v 0,.s "a deed that looks at a cell for its way"]),.fld (.v 0) "at" (.v 1)]⟩
abbrev jP:ai:=⟨["thing"],["thing"],[],#[.r (.and (.isi (.v 0) (.ty "int")) (.not (.isi (.v 0) (.ty "bool"))))]⟩
abbrev f6:ai:=⟨["thing"],["thing"],[],#[.r (.and (.k 8 #[.v 0]) (.cmp2 .LtE .LtE (.i 0) (.v 0) (.gl "BOUND")))]⟩
abbrev jd:ai:=⟨["thing"],["thing"],[],#[.r (.and (.isi (.v 0) (.ty "str")) (.q .In (.v 0) (.gl "NAMES")))]⟩
abbrev g8:ai:=⟨["thing"],["thing"],[],#[.r (.and (.k 8 #[.v 0]) (.cmp2 .LtE .LtE (.neg (.gl "BOUND")) (.v 0) (.gl "BOUND")))]⟩
abbrev xI:ai:=⟨["box","thing"],["box","thing"],[],#[.f (.or (.q .Eq (.v 0) (.s "here")) (.q .Eq (.v 0) (.s "there"))) #[.r (.k 11 #[.v 1])] .n,.f (.q .Eq (.v 0) (.s "way")) #[.r (.and (.k 8 #[.v 1]) (.or (.q .Eq (.v 1) (.i 1)) (.q .Eq (.v 1) (.neg (.i 1)))))] .n,.f (.q .Eq (.v 0) (.s "met")) #[.r (.and (.k 8 #[.v 1]) (.or (.q .Eq (.v 1) (.i 0)) (.q .Eq (.v 1) (.i 1))))] .n,.r (.k 9 #[.v 1])]⟩
abbrev cY:ai:=⟨["self","here","there","left","way","sign","met"],["self","here","there","left","way","sign","met","handed","box","number"],[.int 0,.int 0,.int 0,.int 1,.int 0,.int 0],#[.a 7 (.tup #[.v 1,.v 2,.v 3,.v 4,.v 5,.v 6]),.for (.tp [8,9]) (.zip (.gl "NAMES") (.v 7)) #[.f (.not (.val (.k 12 #[.v 8,.v 9]))) #[.rais (.make 3 #[.v 8,.v 9])] .n],.fld (.v 0) "numbers" (.dzip (.gl "NAMES") (.v 7))]⟩
abbrev e9:ai:=⟨["self","box"],["self","box"],[],#[.f (.not (.val (.k 10 #[.v 1]))) #[.rais (.make 4 #[.v 1])] .n,.r (.ix (.fld (.v 0) "numbers") (.v 1))]⟩
abbrev dv:ai:=⟨["self","box","number"],["self","box","number"],[],#[.f (.not (.val (.k 10 #[.v 1]))) #[.rais (.make 4 #[.v 1])] .n,.f (.not (.val (.k 12 #[.v 1,.v 2]))) #[.rais (.make 3 #[.v 1,.v 2])] .n,.sub (.fld (.v 0) "numbers") (.v 1) (.v 2)]⟩
abbrev fX:ai:=⟨["self"],["self"],[],#[.r (.bf .tuple #[.lc (.ix (.fld (.v 1) "numbers") (.v 0)) [0] (.seq (.gl "NAMES"))])]⟩
abbrev ef:ai:=⟨["self"],["self","other"],[],#[.a 1 (.make 9 .n),.fld (.v 1) "numbers" (.bf .dict #[.fld (.v 0) "numbers"]),.r (.v 1)]⟩
abbrev iu:ai:=⟨["word","box"],["word","box"],[],#[.f (.not (.val (.k 10 #[.v 1]))) #[.rais (.make 5 #[.v 0])] .n]⟩
abbrev dU:ai:=⟨["word","number"],["word","number"],[],#[.f (.not (.val (.k 11 #[.v 1]))) #[.rais (.make 5 #[.v 0])] .n]⟩
abbrev dQ:ai:=⟨["self","box","number"],["self","box","number"],[],#[.e (.k 18 #[.s "set",.v 1]),.e (.k 19 #[.s "set",.v 2]),.fld (.v 0) "box" (.v 1),.fld (.v 0) "number" (.v 2)]⟩
abbrev jc:ai:=⟨["self","boxes","store"],["self","boxes","store"],[],#[.e (.m (.v 1) "give" #[.fld (.v 0) "box",.fld (.v 0) "number"]),.r (.i 1)]⟩
abbrev oM:ai:=⟨["self"],["self"],[],#[.r (.lst #[.s "set",.fld (.v 0) "box",.bf .str #[.fld (.v 0) "number"]])]⟩
abbrev eg:ai:=⟨["self","box","number"],["self","box","number"],[],#[.e (.k 18 #[.s "add",.v 1]),.e (.k 19 #[.s "add",.v 2]),.fld (.v 0) "box" (.v 1),.fld (.v 0) "number" (.v 2)]⟩
abbrev jr:ai:=⟨["self","boxes","store"],["self","boxes","store"],[],#[.e (.m (.v 1) "give" #[.fld (.v 0) "box",.bin .Add (.m (.v 1) "holds" #[.fld (.v 0) "box"]) (.fld (.v 0) "number")]),.r (.i 1)]⟩
abbrev og:ai:=⟨["self"],["self"],[],#[.r (.lst #[.s "add",.fld (.v 0) "box",.bf .str #[.fld (.v 0) "number"]])]⟩
abbrev dC:ai:=⟨["self","box","other"],["self","box","other"],[],#[.e (.k 18 #[.s "take",.v 1]),.e (.k 18 #[.s "take",.v 2]),.fld (.v 0) "box" (.v 1),.fld (.v 0) "other" (.v 2)]⟩
abbrev ie:ai:=⟨["self","boxes","store"],["self","boxes","store"],[],#[.e (.m (.v 1) "give" #[.fld (.v 0) "box",.m (.v 1) "holds" #[.fld (.v 0) "other"]]),.r (.i 1)]⟩
abbrev la:ai:=⟨["self"],["self"],[],#[.r (.lst #[.s "take",.fld (.v 0) "box",.fld (.v 0) "other"])]⟩
abbrev iH:ai:=⟨["self","box"],["self","box"],[],#[.e (.k 18 #[.s "read",.v 1]),.fld (.v 0) "box" (.v 1)]⟩
abbrev nc:ai:=⟨["self","boxes","store"],["self","boxes","store"],[],#[.e (.m (.v 1) "give" #[.fld (.v 0) "box",.m (.v 2) "look" #[.m (.v 1) "holds" #[.s "here"]]]),.r (.i 1)]⟩
abbrev lx:ai:=⟨["self"],["self"],[],#[.r (.lst #[.s "read",.fld (.v 0) "box"])]⟩
abbrev cX:ai:=⟨["self","box"],["self","box"],[],#[.e (.k 18 #[.s "write",.v 1]),.fld (.v 0) "box" (.v 1)]⟩
abbrev fT:ai:=⟨["self","boxes","store"],["self","boxes","store","number"],[],#[.a 3 (.m (.v 1) "holds" #[.fld (.v 0) "box"]),.f (.not (.val (.k 9 #[.v 3]))) #[.rais (.make 3 #[.fld (.v 0) "box",.v 3])] .n,.e (.m (.v 2) "put" #[.m (.v 1) "holds" #[.s "there"],.v 3]),.r (.i 1)]⟩
abbrev j4:ai:=⟨["self"],["self"],[],#[.r (.lst #[.s "write",.fld (.v 0) "box"])]⟩
abbrev mn:ai:=⟨["boxes","box","by"],["boxes","box","by"],[],#[.e (.m (.v 0) "give" #[.v 1,.bin .Add (.m (.v 0) "holds" #[.v 1]) (.v 2)])]⟩
abbrev dG:ai:=⟨["boxes","box"],["boxes","box"],[],#[.e (.k 35 #[.v 0,.v 1,.m (.v 0) "holds" #[.s "way"]])]⟩
abbrev ic:ai:=⟨["boxes","by"],["boxes","by"],[],#[.e (.k 35 #[.v 0,.s "left",.neg (.v 1)]),.r (.f (.q .Eq (.m (.v 0) "holds" #[.s "left"]) (.i 0)) (.i 1) (.i 0))]⟩
abbrev kX:ai:=⟨["store","cell"],["store","cell"],[],#[.f (.not (.val (.m (.v 0) "may" #[.s "put",.v 1]))) #[.rais (.make 2 #[.s "put",.v 1])] .n]⟩
abbrev v7:ai:=⟨["store","source","target"],["store","source","target","content"],[],#[.a 3 (.m (.v 0) "look" #[.v 1]),.e (.m (.v 0) "put" #[.v 2,.v 3])]⟩
abbrev ja:ai:=⟨["store","one","other"],["store","one","other","first","second"],[],#[.a 3 (.m (.v 0) "look" #[.v 1]),.a 4 (.m (.v 0) "look" #[.v 2]),.e (.k 38 #[.v 0,.v 1]),.e (.k 38 #[.v 0,.v 2]),.e (.m (.v 0) "put" #[.v 1,.v 4]),.e (.m (.v 0) "put" #[.v 2,.v 3])]⟩
abbrev g7:ai:=⟨["self","boxes","store"],["self","boxes","store"],[],#[.f (.q .Eq (.m (.v 1) "holds" #[.s "left"]) (.i 0)) #[.r (.i 1)] .n,.e (.k 39 #[.v 2,.m (.v 1) "holds" #[.s "here"],.m (.v 1) "holds" #[.s "there"]]),.e (.k 36 #[.v 1,.s "here"]),.e (.k 36 #[.v 1,.s "there"]),.r (.k 37 #[.v 1,.i 1])]⟩
abbrev lW:ai:=⟨["self"],["self"],[],#[.r (.lst #[.s "copy"])]⟩
abbrev iy:ai:=⟨["self","boxes","store"],["self","boxes","store"],[],#[.f (.q .Eq (.m (.v 1) "holds" #[.s "left"]) (.i 0)) #[.r (.i 1)] .n,.e (.m (.v 2) "put" #[.m (.v 1) "holds" #[.s "there"],.m (.v 1) "holds" #[.s "sign"]]),.e (.k 36 #[.v 1,.s "there"]),.r (.k 37 #[.v 1,.i 1])]⟩
abbrev lS:ai:=⟨["self"],["self"],[],#[.r (.lst #[.s "fill"])]⟩
abbrev nh:ai:=⟨["self","boxes","store"],["self","boxes","store"],[],#[.f (.q .Eq (.m (.v 1) "holds" #[.s "left"]) (.i 0)) #[.e (.m (.v 1) "give" #[.s "met",.i 0]),.r (.i 1)] .n,.f (.q .Eq (.m (.v 2) "look" #[.m (.v 1) "holds" #[.s "here"]]) (.m (.v 1) "holds" #[.s "sign"])) #[.e (.m (.v 1) "give" #[.s "met",.i 1]),.r (.i 1)] .n,.e (.m (.v 1) "give" #[.s "met",.i 0]),.e (.k 36 #[.v 1,.s "here"]),.r (.k 37 #[.v 1,.i 1])]⟩
abbrev mF:ai:=⟨["self"],["self"],[],#[.r (.lst #[.s "seek"])]⟩
abbrev mv:ai:=⟨["self","boxes","store"],["self","boxes","store","content"],[],#[.f (.q .Eq (.m (.v 1) "holds" #[.s "left"]) (.i 0)) #[.e (.m (.v 1) "give" #[.s "met",.i 1]),.r (.i 1)] .n,.a 3 (.m (.v 2) "look" #[.m (.v 1) "holds" #[.s "here"]]),.f (.q .NotEq (.v 3) (.m (.v 2) "look" #[.m (.v 1) "holds" #[.s "there"]])) #[.e (.m (.v 1) "give" #[.s "met",.i 0]),.r (.i 1)] .n,.e (.m (.v 1) "give" #[.s "met",.i 1]),.e (.k 36 #[.v 1,.s "here"]),.e (.k 36 #[.v 1,.s "there"]),.r (.k 37 #[.v 1,.i 1])]⟩
abbrev j3:ai:=⟨["self"],["self"],[],#[.r (.lst #[.s "match"])]⟩
abbrev fH:ai:=⟨["self","boxes","store"],["self","boxes","store","left","here","there"],[],#[.a 3 (.m (.v 1) "holds" #[.s "left"]),.f (.q .Eq (.v 3) (.i 0)) #[.r (.i 1)] .n,.a 4 (.m (.v 1) "holds" #[.s "here"]),.a 5 (.m (.v 1) "holds" #[.s "there"]),.f (.q .LtE (.v 5) (.v 4)) #[.e (.k 39 #[.v 2,.v 4,.v 5]),.e (.k 35 #[.v 1,.s "here",.i 1]),.e (.k 35 #[.v 1,.s "there",.i 1])] #[.e (.k 39 #[.v 2,.bin .Sub (.bin .Add (.v 4) (.v 3)) (.i 1),.bin .Sub (.bin .Add (.v 5) (.v 3)) (.i 1)])],.r (.k 37 #[.v 1,.i 1])]⟩
abbrev kg:ai:=⟨["self"],["self"],[],#[.r (.lst #[.s "shift"])]⟩
abbrev hV:ai:=⟨["self","boxes","store"],["self","boxes","store","left","here"],[],#[.a 3 (.m (.v 1) "holds" #[.s "left"]),.f (.q .Eq (.v 3) (.i 0)) #[.r (.i 1)] .n,.f (.q .Eq (.v 3) (.i 1)) #[.r (.k 37 #[.v 1,.i 1])] .n,.a 4 (.m (.v 1) "holds" #[.s "here"]),.e (.k 40 #[.v 2,.v 4,.bin .Sub (.bin .Add (.v 4) (.v 3)) (.i 1)]),.e (.k 35 #[.v 1,.s "here",.i 1]),.r (.k 37 #[.v 1,.i 2])]⟩
abbrev lz:ai:=⟨["self"],["self"],[],#[.r (.lst #[.s "turn"])]⟩
abbrev gb:ai:=⟨["rows"],["rows","at","thing"],[],#[.f (.or (.not (.val (.isi (.v 0) (.ty "list")))) (.not (.cmp2 .LtE .LtE (.i 1) (.bf .len #[.v 0]) (.gl "MOST_ROWS")))) #[.rais (.make 6 #[.neg (.i 1)])] .n,.for (.tp [1,2]) (.enm (.v 0)) #[.f (.not (.val (.isi (.v 2) (.own 10)))) #[.rais (.make 6 #[.v 1])] .n]]⟩
abbrev eP:ai:=⟨["at","many"],["at","many"],[],#[.f (.or (.not (.val (.k 8 #[.v 0]))) (.not (.cmp2 .LtE .LtE (.i 0) (.v 0) (.v 1)))) #[.rais (.make 7 #[.v 0])] .n]⟩
abbrev qM:ai:=⟨["deed","boxes","store"],["deed","boxes","store","stop","refusal"],[],#[.tryx #[.r (.tup #[.m (.v 0) "step" #[.v 1,.v 2],.non])] (.c 2 3 #[.r (.tup #[.non,.tup #[.fld (.v 3) "deed",.fld (.v 3) "cell"]])] (.c 3 4 #[.r (.tup #[.non,.tup #[.s "fit",.fld (.v 4) "box"]])] .n))]⟩
abbrev cg:ai:=⟨["self","rows","store","boxes","at"],["self","rows","store","boxes","at"],[.int 0],#[.e (.k 53 #[.v 1]),.e (.k 54 #[.v 4,.bf .len #[.v 1]]),.fld (.v 0) "deeds" (.bf .list #[.v 1]),.fld (.v 0) "store" (.m (.v 2) "copied" .n),.fld (.v 0) "boxes" (.m (.v 3) "copied" .n),.fld (.v 0) "at" (.v 4)]⟩
abbrev dw:ai:=⟨["self"],["self"],[],#[.r (.q .Eq (.fld (.v 0) "at") (.bf .len #[.fld (.v 0) "deeds"]))]⟩
abbrev cz:ai:=⟨["self","store"],["self","store","by"],[],#[.f (.val (.m (.v 0) "ended" .n)) #[.r (.s "end")] .n,.a 2 (.ix (.k 55 #[.ix (.fld (.v 0) "deeds") (.fld (.v 0) "at"),.fld (.v 0) "boxes",.v 1]) (.i 0)),.f (.q .Is (.v 2) .non) #[.r (.s "stop")] .n,.fld (.v 0) "at" (.bf .min #[.bin .Add (.fld (.v 0) "at") (.v 2),.bf .len #[.fld (.v 0) "deeds"]]),.r (.s "on")]⟩
abbrev jn:ai:=⟨["self"],["self"],[],#[.r (.m (.v 0) "step_on" #[.fld (.v 0) "store"])]⟩
abbrev ju:ai:=⟨["self"],["self"],[],#[.r (.lc (.m (.v 0) "words" .n) [] (.seq (.fld (.v 0) "deeds")))]⟩
abbrev gA:ai:=⟨["self"],["self"],[],#[.r (.make 22 #[.fld (.v 0) "deeds",.fld (.v 0) "store",.fld (.v 0) "boxes",.fld (.v 0) "at"])]⟩
abbrev fc:ai:=⟨["cells"],["cells","at","thing"],[],#[.f (.or (.not (.val (.isi (.v 0) (.ty "list")))) (.not (.cmp2 .LtE .LtE (.i 1) (.bf .len #[.v 0]) (.gl "MOST_CELLS")))) #[.rais (.make 1 #[.neg (.i 1)])] .n,.for (.tp [1,2]) (.enm (.v 0)) #[.f (.not (.val (.k 9 #[.v 2]))) #[.rais (.make 1 #[.v 1])] .n]]⟩
abbrev cQ:ai:=⟨["self","cells"],["self","cells"],[],#[.e (.k 62 #[.v 1]),.fld (.v 0) "contents" (.bf .list #[.v 1]),.fld (.v 0) "permits" (.bin .Mult (.lst #[.s "open"]) (.bf .len #[.v 1]))]⟩
abbrev mK:ai:=⟨["self"],["self"],[],#[.r (.bf .len #[.fld (.v 0) "contents"])]⟩
abbrev lO:ai:=⟨["self"],["self"],[],#[.r (.bf .list #[.fld (.v 0) "contents"])]⟩
abbrev nE:ai:=⟨["self","deed","cell"],["self","deed","cell"],[],#[.f (.not (.cmp2 .LtE .Lt (.i 0) (.v 2) (.m (.v 0) "size" .n))) #[.r (.bl false)] .n,.f (.q .Eq (.ix (.fld (.v 0) "permits") (.v 2)) (.s "look")) #[.r (.q .Eq (.v 1) (.s "look"))] .n,.r (.q .Eq (.ix (.fld (.v 0) "permits") (.v 2)) (.s "open"))]⟩
abbrev l7:ai:=⟨["self","cell"],["self","cell"],[],#[.f (.not (.val (.m (.v 0) "may" #[.s "look",.v 1]))) #[.rais (.make 2 #[.s "look",.v 1])] .n,.r (.ix (.fld (.v 0) "contents") (.v 1))]⟩
abbrev m9:ai:=⟨["self","cell","content"],["self","cell","content"],[],#[.f (.not (.val (.m (.v 0) "may" #[.s "put",.v 1]))) #[.rais (.make 2 #[.s "put",.v 1])] .n,.sub (.fld (.v 0) "contents") (.v 1) (.v 2)]⟩
abbrev dW:ai:=⟨["self"],["self","other"],[],#[.a 1 (.make 23 #[.lst #[.i 0]]),.fld (.v 1) "contents" (.bf .list #[.fld (.v 0) "contents"]),.fld (.v 1) "permits" (.bf .list #[.fld (.v 0) "permits"]),.r (.v 1)]⟩
abbrev bS:ai:=⟨["deed"],["deed"],[],#[.r (.isiT (.v 0) [18,19,14])]⟩
abbrev fe:ai:=⟨["rows"],["rows","at","deed"],[],#[.for (.tp [1,2]) (.enm (.v 0)) #[.f (.val (.k 70 #[.v 2])) #[.rais (.make 8 #[.v 1])] .n]]⟩
abbrev cp:ai:=⟨["self","size"],["self","size"],[],#[.fld (.v 0) "sources" (.lc (.tup #[.s "cell",.v 0]) [] (.rng1 (.v 1)))]⟩
abbrev eU:ai:=⟨["self","deed","cell"],["self","deed","cell"],[],#[.r (.cmp2 .LtE .Lt (.i 0) (.v 2) (.bf .len #[.fld (.v 0) "sources"]))]⟩
abbrev dS:ai:=⟨["self","cell"],["self","cell"],[],#[.f (.not (.val (.m (.v 0) "may" #[.s "look",.v 1]))) #[.rais (.make 2 #[.s "look",.v 1])] .n,.r (.ix (.fld (.v 0) "sources") (.v 1))]⟩
abbrev eZ:ai:=⟨["self","cell","thing"],["self","cell","thing"],[],#[.f (.not (.val (.m (.v 0) "may" #[.s "put",.v 1]))) #[.rais (.make 2 #[.s "put",.v 1])] .n,.sub (.fld (.v 0) "sources") (.v 1) (.f (.val (.isi (.v 2) (.ty "tuple"))) (.v 2) (.tup #[.s "number",.v 2]))]⟩
abbrev dN:ai:=⟨["self"],["self"],[],#[.r (.bf .list #[.fld (.v 0) "sources"])]⟩
abbrev kx:ai:=⟨["rows","boxes","size"],["rows","boxes","size","machine","origins","told"],[],#[.e (.k 53 #[.v 0]),.e (.k 71 #[.v 0]),.a 3 (.make 22 #[.v 0,.make 23 #[.lst #[.i 0]],.v 1]),.a 4 (.make 24 #[.v 2]),.a 5 (.lst #[.tup #[.m (.v 1) "told" .n,.m (.v 4) "told" .n]]),.whl (.q .Eq (.m (.v 3) "step_on" #[.v 4]) (.s "on")) #[.e (.lm .append (.v 5) #[.tup #[.m (.fld (.v 3) "boxes") "told" .n,.m (.v 4) "told" .n]])],.r (.v 5)]⟩
abbrev iq:ai:=⟨["told","bell"],["told","bell"],[],#[.r (.ix (.v 0) (.bf .min #[.v 1,.bin .Sub (.bf .len #[.v 0]) (.i 1)]))]⟩
abbrev gd:ai:=⟨["origin","cells"],["origin","cells"],[],#[.r (.f (.q .Eq (.ix (.v 0) (.i 0)) (.s "cell")) (.ix (.v 1) (.ix (.v 0) (.i 1))) (.ix (.v 0) (.i 1)))]⟩
abbrev ij:ai:=⟨["one","other"],["one","other","at","box"],[],#[.for (.tp [2,3]) (.enf (.gl "NAMES")) #[.f (.q .NotEq (.ix (.v 0) (.v 2)) (.ix (.v 1) (.v 2))) #[.r (.v 3)] .n],.r .non]⟩
abbrev fV:ai:=⟨["one","other","cells"],["one","other","cells","cell"],[],#[.for (.nm 3) (.rng1 (.bf .len #[.v 2])) #[.f (.q .NotEq (.k 79 #[.ix (.v 0) (.v 3),.v 2]) (.k 79 #[.ix (.v 1) (.v 3),.v 2])) #[.r (.v 3)] .n],.r .non]⟩
abbrev dD:ai:=⟨["size"],["size","stores","cell"],[],#[.a 1 (.lst #[.bin .Mult (.lst #[.i 0]) (.v 0)]),.for (.nm 2) (.rng3 (.bin .Sub (.v 0) (.i 1)) (.neg (.i 1)) (.neg (.i 1))) #[.e (.lm .append (.v 1) #[.bin .Add (.bin .Add (.bin .Mult (.lst #[.i 0]) (.v 2)) (.lst #[.i 1])) (.bin .Mult (.lst #[.i 0]) (.bin .Sub (.bin .Sub (.v 0) (.v 2)) (.i 1)))])],.r (.v 1)]⟩
abbrev eO:ai:=⟨["one","other"],["one","other"],[],#[.r (.ix (.lci (.v 0) (.q .IsNot (.k 81 #[.v 1,.v 2,.v 0]) .non) [0,1] (.seq (.k 82 #[.bf .len #[.v 0]]))) (.i 0))]⟩
abbrev nP:ai:=⟨["bell","one","other"],["bell","one","other","box","cells"],[],#[.a 3 (.k 80 #[.ix (.v 1) (.i 0),.ix (.v 2) (.i 0)]),.f (.q .IsNot (.v 3) .non) #[.r (.tup #[.s "parted",.v 0,.bin .Mult (.lst #[.i 0]) (.bf .len #[.ix (.v 1) (.i 1)]),.tup #[.s "box",.v 3]])] .n,.a 4 (.k 83 #[.ix (.v 1) (.i 1),.ix (.v 2) (.i 1)]),.r (.tup #[.s "parted",.v 0,.v 4,.tup #[.s "cell",.k 81 #[.ix (.v 1) (.i 1),.ix (.v 2) (.i 1),.v 4]]])]⟩
abbrev so:ai:=⟨["one","other","boxes","size"],["one","other","boxes","size","first","second","bell","left","right"],[],#[.a 4 (.k 77 #[.v 0,.v 2,.v 3]),.a 5 (.k 77 #[.v 1,.v 2,.v 3]),.for (.nm 6) (.rng1 (.bf .max #[.bf .len #[.v 4],.bf .len #[.v 5]])) #[.a 7 (.k 78 #[.v 4,.v 6]),.a 8 (.k 78 #[.v 5,.v 6]),.f (.q .NotEq (.v 7) (.v 8)) #[.r (.k 84 #[.v 6,.v 7,.v 8])] .n],.r (.tup #[.s "alike"])]⟩
abbrev kY:ai:=⟨["thing"],["thing"],[],#[.r (.and (.k 8 #[.v 0]) (.cmp2 .LtE .LtE (.i 0) (.v 0) (.gl "MOST_HOPPED")))]⟩
abbrev rD:ai:=⟨["thing"],["thing"],[],#[.r (.or (.q .Is (.v 0) .non) (.and (.k 8 #[.v 0]) (.or (.q .Eq (.v 0) (.i 0)) (.q .Eq (.v 0) (.i 1)))))]⟩
abbrev dY:ai:=⟨["self","many","on"],["self","many","on"],[.non],#[.f (.or (.not (.val (.k 86 #[.v 1]))) (.not (.val (.k 87 #[.v 2])))) #[.rais (.make 5 #[.s "hop"])] .n,.fld (.v 0) "many" (.v 1),.fld (.v 0) "on" (.v 2)]⟩
abbrev jE:ai:=⟨["self","boxes","store"],["self","boxes","store"],[],#[.f (.or (.q .Is (.fld (.v 0) "on") .non) (.q .Eq (.fld (.v 0) "on") (.m (.v 1) "holds" #[.s "met"]))) #[.r (.bin .Add (.i 1) (.fld (.v 0) "many"))] .n,.r (.i 1)]⟩
abbrev nv:ai:=⟨["self"],["self","told"],[],#[.a 1 (.lst #[.s "hop",.bf .str #[.fld (.v 0) "many"]]),.f (.q .IsNot (.fld (.v 0) "on") .non) #[.e (.lm .extend (.v 1) #[.lst #[.s "if",.bf .str #[.fld (.v 0) "on"]]])] .n,.r (.v 1)]⟩
abbrev g6:ai:=⟨["_law_script"],["_law_script","_law_cells_here","_law_fold","_law_cell"],[],#[.a 1 (.bf .list #[.sl (.v 0) .no (.yes (.i 63))]),.a 2 (.bf .len #[.v 1]),.for (.nm 3) (.seq (.v 1)) #[.a 2 (.bin .Mod (.bin .Add (.bin .Add (.bin .Mult (.v 2) (.i 48271)) (.bin .Mod (.v 3) (.i 2147483647))) (.i 1)) (.i 2147483629))],.r (.lst #[.v 1,.v 2,.i 0,.i 0,.i 0])]⟩
abbrev ig:ai:=⟨["_law_hand_here","_law_many"],["_law_hand_here","_law_many","_law_rest","_law_cell","_law_one","_law_two"],[],#[.augS (.v 0) (.i 4) .Add (.i 1),.a 2 (.ix (.v 0) (.i 3)),.a 3 (.ix (.v 0) (.i 1)),.f (.q .Gt (.v 2) (.i 0)) #[.sub (.v 0) (.i 3) (.bin .FloorDiv (.v 2) (.v 1)),.r (.bin .Mod (.v 2) (.v 1))] .n,.f (.q .Lt (.ix (.v 0) (.i 2)) (.bf .len #[.ix (.v 0) (.i 0)])) #[.a 3 (.ix (.ix (.v 0) (.i 0)) (.ix (.v 0) (.i 2))),.augS (.v 0) (.i 2) .Add (.i 1),.f (.q .GtE (.v 3) (.bin .Pow (.i 10) (.i 18))) #[.sub (.v 0) (.i 3) (.bin .FloorDiv (.v 3) (.v 1)),.r (.bin .Mod (.v 3) (.v 1))] .n] .n,.a 4 (.bin .Mod (.bin .Pow (.bin .Add (.bin .Mod (.v 3) (.i 998244353)) (.bin .Mult (.i 7919) (.ix (.v 0) (.i 4)))) (.i 5)) (.i 2147483647)),.a 5 (.bin .Mod (.bin .Pow (.bin .Add (.bin .Add (.v 4) (.bin .Mult (.i 104729) (.ix (.v 0) (.i 4)))) (.ix (.v 0) (.i 1))) (.i 3)) (.i 2147483629)),.r (.bin .Mod (.bin .FloorDiv (.v 5) (.i 7)) (.v 1))]⟩
abbrev jx:ai:=⟨["_law_here","_law_there","_law_left"],["_law_here","_law_there","_law_left"],[],#[.r (.lst #[.make 11 #[.s "here",.v 0],.make 11 #[.s "there",.v 1],.make 11 #[.s "left",.v 2]])]⟩
abbrev hW:ai:=⟨["_law_size","_law_places"],["_law_size","_law_places","_law_cells_here","_law_place"],[],#[.a 2 (.bin .Mult (.lst #[.i 0]) (.v 0)),.for (.nm 3) (.seq (.v 1)) #[.sub (.v 2) (.v 3) (.i 1)],.r (.v 2)]⟩
abbrev cD:ai:=⟨["_law_hand_here","_law_size"],["_law_hand_here","_law_size","_law_many","_law_here","_law_there","_law_due"],[],#[.a 2 (.k 92 #[.v 0,.v 1]),.a 3 (.k 92 #[.v 0,.bin .Add (.bin .Sub (.v 1) (.v 2)) (.i 1)]),.a 4 (.k 92 #[.v 0,.bin .Add (.bin .Sub (.v 1) (.v 2)) (.i 1)]),.a 5 (.tup #[.s "alike"]),.f (.and (.q .Gt (.v 4) (.v 3)) (.q .Gt (.v 2) (.i 0))) #[.a 5 (.tup #[.s "parted",.i 4,.bin .Mult (.lst #[.i 0]) (.v 1),.tup #[.s "box",.s "here"]])] .n,.r (.lst #[.bin .Add (.k 93 #[.v 3,.v 4,.v 2]) (.lst #[.mk0 16]),.bin .Add (.k 93 #[.v 3,.v 4,.v 2]) (.lst #[.mk0 20]),.v 5])]⟩
abbrev hZ:ai:=⟨["_law_hand_here"],["_law_hand_here","_law_some"],[],#[.a 1 (.lst #[.make 12 #[.s "sign",.i 0],.make 25 #[.i 0],.make 13 #[.s "met",.s "met"],.make 25 #[.i 0,.i 1],.make 11 #[.s "sign",.i 5],.make 25 #[.i 0,.non]]),.r (.lst #[.lst #[.ix (.v 1) (.k 92 #[.v 0,.i 6])],.lst #[.ix (.v 1) (.k 92 #[.v 0,.i 6])],.tup #[.s "alike"]])]⟩
abbrev ei:ai:=⟨["_law_hand_here","_law_size"],["_law_hand_here","_law_size","_law_at","_law_number","_law_ahead","_law_cells_here"],[],#[.a 2 (.k 92 #[.v 0,.v 1]),.a 3 (.ix (.lst #[.i 0,.i 1,.bin .Add (.i 1) (.k 92 #[.v 0,.i 1000])]) (.k 92 #[.v 0,.i 3])),.a 4 (.lst #[.make 11 #[.s "there",.v 2],.make 11 #[.s "sign",.v 3]]),.a 5 (.k 94 #[.v 1,.sl (.lst #[.v 2]) .no (.yes (.bf .int #[.q .Eq (.v 3) (.i 0)]))]),.r (.lst #[.bin .Add (.v 4) (.lst #[.make 15 #[.s "sign"]]),.bin .Add (.v 4) (.lst #[.make 25 #[.i 0]]),.tup #[.s "parted",.i 3,.v 5,.tup #[.s "cell",.v 2]]])]⟩
abbrev cM:ai:=⟨["_law_hand_here","_law_size"],["_law_hand_here","_law_size","_law_there","_law_ahead"],[],#[.a 2 (.bin .Add (.i 1) (.k 92 #[.v 0,.bin .Sub (.v 1) (.i 1)])),.a 3 (.k 93 #[.k 92 #[.v 0,.v 2],.v 2,.i 1]),.r (.lst #[.bin .Add (.v 3) (.lst #[.mk0 20]),.bin .Add (.v 3) (.lst #[.mk0 21]),.tup #[.s "parted",.i 4,.k 94 #[.v 1,.lst #[.v 2]],.tup #[.s "cell",.v 2]]])]⟩
abbrev eY:ai:=⟨["_law_hand_here","_law_size"],["_law_hand_here","_law_size","_law_many","_law_here","_law_ahead"],[],#[.a 2 (.bin .Add (.i 2) (.k 92 #[.v 0,.bin .Sub (.v 1) (.i 1)])),.a 3 (.k 92 #[.v 0,.bin .Add (.bin .Sub (.v 1) (.v 2)) (.i 1)]),.a 4 (.k 93 #[.v 3,.i 0,.v 2]),.r (.lst #[.bin .Add (.v 4) (.lst #[.mk0 21]),.bin .Add (.v 4) (.lst #[.make 25 #[.i 0]]),.tup #[.s "parted",.i 4,.bin .Mult (.lst #[.i 0]) (.v 1),.tup #[.s "box",.s "here"]]])]⟩
abbrev dE:ai:=⟨["_law_hand_here","_law_size"],["_law_hand_here","_law_size","_law_ahead"],[],#[.a 2 (.lst #[.make 11 #[.s "there",.bin .Add (.v 1) (.k 92 #[.v 0,.i 3])],.make 11 #[.s "left",.bin .Add (.i 1) (.k 92 #[.v 0,.i 3])]]),.r (.lst #[.bin .Add (.v 2) (.lst #[.mk0 17,.make 15 #[.s "sign"]]),.bin .Add (.v 2) (.lst #[.make 25 #[.k 92 #[.v 0,.i 3]]]),.tup #[.s "alike"]])]⟩
abbrev ik:ai:=⟨["_law_hand_here","_law_way","_law_size"],["_law_hand_here","_law_way","_law_size"],[],#[.f (.q .Eq (.v 1) (.i 0)) #[.r (.k 95 #[.v 0,.v 2])] .n,.f (.q .Eq (.v 1) (.i 1)) #[.r (.k 96 #[.v 0])] .n,.f (.q .Eq (.v 1) (.i 2)) #[.r (.k 97 #[.v 0,.v 2])] .n,.f (.q .Eq (.v 1) (.i 3)) #[.r (.k 98 #[.v 0,.v 2])] .n,.f (.q .Eq (.v 1) (.i 4)) #[.r (.k 99 #[.v 0,.v 2])] .n,.r (.k 100 #[.v 0,.v 2])]⟩
abbrev xG:ai:=⟨["_law_script"],["_law_script","_law_hand_here","_law_k","_law_way","_law_size","_law_one","_law_two","_law_due","_law_boxes"],[],#[.a 1 (.k 91 #[.v 0]),.for (.nm 2) (.rng1 (.i 4)) #[.a 3 (.k 92 #[.v 1,.i 6]),.a 4 (.bin .Add (.i 2) (.k 92 #[.v 1,.i 39])),.asgT [5,6,7] (.k 101 #[.v 1,.v 3,.v 4]),.a 8 (.make 9 #[.i 0,.i 0,.i 0,.i 1,.i 5,.k 92 #[.v 1,.i 2]]),.f (.or (.q .NotEq (.k 85 #[.v 5,.v 6,.v 8,.v 4]) (.v 7)) (.q .NotEq (.k 85 #[.v 6,.v 5,.v 8,.v 4]) (.v 7))) #[.r (.bl false)] .n,.f (.or (.q .NotEq (.k 85 #[.v 5,.bf .list #[.v 5],.v 8,.v 4]) (.tup #[.s "alike"])) (.q .NotEq (.sl (.m (.v 8) "told" .n) .no (.yes (.i 5))) (.tup #[.i 0,.i 0,.i 0,.i 1,.i 5]))) #[.r (.bl false)] .n],.r (.bl true)]⟩
@[reducible]def b6:Nat:=0
@[reducible]def dy:Nat:=1
@[reducible]def gH:Nat:=2
@[reducible]def uu:Nat:=3
@[reducible]def rL:Nat:=4
@[reducible]def qY:Nat:=5
@[reducible]def qa:Nat:=6
@[reducible]def eJ:Nat:=7
@[reducible]def qI:Nat:=8
@[reducible]def lA:Nat:=9
@[reducible]def nA:Nat:=10
@[reducible]def nS:Nat:=11
@[reducible]def CV:Nat:=12
@[reducible]def bE:Nat:=13
@[reducible]def av:Nat:=14
@[reducible]def aA:Nat:=15
@[reducible]def gu:Nat:=16
@[reducible]def dO:Nat:=17
@[reducible]def nz:Nat:=18
@[reducible]def i5:Nat:=19
@[reducible]def i9:Nat:=20
@[reducible]def qK:Nat:=21
@[reducible]def BQ:Nat:=22
@[reducible]def jl:Nat:=23
@[reducible]def pY:Nat:=24
@[reducible]def B6:Nat:=25
@[reducible]def iN:Nat:=26
@[reducible]def mY:Nat:=27
@[reducible]def y0:Nat:=28
@[reducible]def uD:Nat:=29
@[reducible]def BR:Nat:=30
@[reducible]def Ay:Nat:=31
@[reducible]def gO:Nat:=32
@[reducible]def lZ:Nat:=33
@[reducible]def yg:Nat:=34
@[reducible]def qt:Nat:=35
@[reducible]def ir:Nat:=36
@[reducible]def oh:Nat:=37
@[reducible]def t9:Nat:=38
@[reducible]def D9:Nat:=39
@[reducible]def pF:Nat:=40
@[reducible]def hJ:Nat:=41
@[reducible]def zw:Nat:=42
@[reducible]def iz:Nat:=43
@[reducible]def AK:Nat:=44
@[reducible]def BO:Nat:=45
@[reducible]def yO:Nat:=46
@[reducible]def yS:Nat:=47
@[reducible]def yl:Nat:=48
@[reducible]def fR:Nat:=49
@[reducible]def ym:Nat:=50
@[reducible]def g5:Nat:=51
@[reducible]def yF:Nat:=52
@[reducible]def ml:Nat:=53
@[reducible]def ke:Nat:=54
@[reducible]def Aj:Nat:=55
@[reducible]def fj:Nat:=56
@[reducible]def iD:Nat:=57
@[reducible]def fS:Nat:=58
@[reducible]def uR:Nat:=59
@[reducible]def vw:Nat:=60
@[reducible]def sR:Nat:=61
@[reducible]def j8:Nat:=62
@[reducible]def cW:Nat:=63
@[reducible]def yP:Nat:=64
@[reducible]def zW:Nat:=65
@[reducible]def B4:Nat:=66
@[reducible]def AA:Nat:=67
@[reducible]def B3:Nat:=68
@[reducible]def jI:Nat:=69
@[reducible]def eI:Nat:=70
@[reducible]def jY:Nat:=71
@[reducible]def ff:Nat:=72
@[reducible]def kf:Nat:=73
@[reducible]def i6:Nat:=74
@[reducible]def j9:Nat:=75
@[reducible]def je:Nat:=76
@[reducible]def tW:Nat:=77
@[reducible]def mU:Nat:=78
@[reducible]def mf:Nat:=79
@[reducible]def oy:Nat:=80
@[reducible]def mq:Nat:=81
@[reducible]def iL:Nat:=82
@[reducible]def jX:Nat:=83
@[reducible]def vW:Nat:=84
@[reducible]def AJ:Nat:=85
@[reducible]def sW:Nat:=86
@[reducible]def yW:Nat:=87
@[reducible]def jf:Nat:=88
@[reducible]def jN:Nat:=89
@[reducible]def BH:Nat:=90
@[reducible]def nR:Nat:=91
@[reducible]def mW:Nat:=92
@[reducible]def qr:Nat:=93
@[reducible]def nM:Nat:=94
@[reducible]def ki:Nat:=95
@[reducible]def pq:Nat:=96
@[reducible]def jw:Nat:=97
@[reducible]def gL:Nat:=98
@[reducible]def j0:Nat:=99
@[reducible]def jM:Nat:=100
@[reducible]def oq:Nat:=101
@[reducible]def BW:Nat:=102
@[reducible]def Bk:Nat:=0
@[reducible]def bY:Nat:=1
@[reducible]def aL:Nat:=2
@[reducible]def bV:Nat:=3
@[reducible]def Ha:Nat:=4
@[reducible]def GK:Nat:=5
@[reducible]def GN:Nat:=6
@[reducible]def EG:Nat:=7
@[reducible]def c9:Nat:=8
@[reducible]def bI:Nat:=9
@[reducible]def C7:Nat:=10
@[reducible]def Bi:Nat:=11
@[reducible]def Bc:Nat:=12
@[reducible]def vf:Nat:=13
@[reducible]def xX:Nat:=14
@[reducible]def sr:Nat:=15
@[reducible]def vp:Nat:=16
@[reducible]def wq:Nat:=17
@[reducible]def uX:Nat:=18
@[reducible]def sj:Nat:=19
@[reducible]def lp:Nat:=20
@[reducible]def qe:Nat:=21
@[reducible]def aP:Nat:=22
@[reducible]def aX:Nat:=23
@[reducible]def aQ:Nat:=24
@[reducible]def kM:Nat:=25
abbrev tab:Tab where
  fns:=(b9::dA::cP::gW::fP::fO::fu::bR::jP::f6::jd::g8::xI::cY::e9::dv::fX::ef::iu::dU::dQ::jc::oM::eg::jr::og::dC::ie::la::iH::nc::lx::cX::fT::j4::mn::dG::ic::kX::v7::ja::g7::lW::iy::lS::nh::mF::mv::j3::fH::kg::hV::lz::gb::eP::qM::cg::dw::cz::jn::ju::gA::fc::cQ::mK::lO::nE::l7::m9::dW::bS::fe::cp::eU::dS::eZ::dN::kx::iq::gd::ij::fV::dD::eO::nP::so::kY::rD::dY::jE::nv::g6::ig::jx::hW::cD::hZ::ei::cM::eY::dE::ik::xG::[])
  gfn:=(("is_whole",8)::("is_content",9)::("is_box",10)::("is_number",11)::("fits",12)::("check_box",18)::("check_number",19)::("more",35)::("go_by_way",36)::("less_left",37)::("ask_put",38)::("haul",39)::("exchange",40)::("check_rows",53)::("check_place",54)::("tried",55)::("check_cells",62)::("looks_for_its_way",70)::("check_blind",71)::("shadows",77)::("shadow_at",78)::("content_of",79)::("first_box",80)::("first_cell",81)::("stores_to_try",82)::("least_store",83)::("parted",84)::("alike",85)::("is_many",86)::("is_on",87)::("_law_hand",91)::("_law_draw",92)::("_law_set",93)::("_law_ones",94)::("_law_copied",95)::("_law_idle",96)::("_law_written",97)::("_law_two_cells",98)::("_law_turned",99)::("_law_stopped",100)::("_law_pair",101)::("law",102)::[])
  gcl:=[("HaulError",0),("NoStore",1),("Stop",2),("NoFit",3),("NoBox",4),("NoDeed",5),("NoRows",6),("NoPlace",7),("NotBlind",8),("Boxes",9),("Deed",10),("Set",11),("Add",12),("Take",13),("Read",14),("Write",15),("Copy",16),("Fill",17),("Seek",18),("Match",19),("Shift",20),("Turn",21),("Machine",22),("Store",23),("Origins",24),("Hop",25)]
  gbl:=["bool","dict","enumerate","int","isinstance","len","list","max","min","range","str","tuple","zip"]
  gbi:=["HaulError"]
  na:=[(1,"at"),(2,"cell"),(2,"deed"),(3,"box"),(3,"number"),(4,"box"),(5,"word"),(6,"at"),(7,"at"),(8,"at"),(9,"numbers"),(11,"box"),(11,"number"),(12,"box"),(12,"number"),(13,"box"),(13,"other"),(14,"box"),(15,"box"),(22,"at"),(22,"boxes"),(22,"deeds"),(22,"store"),(23,"contents"),(23,"permits"),(24,"sources"),(25,"many"),(25,"on")]
  me:=(((9,"copied"),17)::((9,"give"),15)::((9,"holds"),14)::((9,"told"),16)::((11,"step"),21)::((11,"words"),22)::((12,"step"),24)::((12,"words"),25)::((13,"step"),27)::((13,"words"),28)::((14,"step"),30)::((14,"words"),31)::((15,"step"),33)::((15,"words"),34)::((16,"step"),41)::((16,"words"),42)::((17,"step"),43)::((17,"words"),44)::((18,"step"),45)::((18,"words"),46)::((19,"step"),47)::((19,"words"),48)::((20,"step"),49)::((20,"words"),50)::((21,"step"),51)::((21,"words"),52)::((22,"copied"),61)::((22,"ended"),57)::((22,"rows"),60)::((22,"step"),59)::((22,"step_on"),58)::((23,"copied"),69)::((23,"look"),67)::((23,"may"),66)::((23,"put"),68)::((23,"size"),64)::((23,"told"),65)::((24,"look"),74)::((24,"may"),73)::((24,"put"),75)::((24,"told"),76)::((25,"step"),89)::((25,"words"),90)::[])
  ini:=[(1,0),(2,1),(3,2),(4,3),(5,4),(6,5),(7,6),(8,7),(9,13),(11,20),(12,23),(13,26),(14,29),(15,32),(22,56),(23,63),(24,72),(25,88)]
  ini0:=[]
  inip:=[16,17,20,21]
  oc:=[9,10,11,12,13,14,15,16,17,18,19,20,21,22,23,24,25]
  xc:=[0,1,2,3,4,5,6,7,8]
  sub:=(((0,3),false)::((0,2),false)::((1,3),false)::((1,2),false)::((2,3),false)::((2,2),true)::((3,3),true)::((3,2),false)::((4,3),false)::((4,2),false)::((5,3),false)::((5,2),false)::((6,3),false)::((6,2),false)::((7,3),false)::((7,2),false)::((8,3),false)::((8,2),false)::((9,10),false)::((9,19),false)::((9,14),false)::((9,18),false)::((10,10),true)::((10,19),false)::((10,14),false)::((10,18),false)::((11,10),true)::((11,19),false)::((11,14),false)::((11,18),false)::((12,10),true)::((12,19),false)::((12,14),false)::((12,18),false)::((13,10),true)::((13,19),false)::((13,14),false)::((13,18),false)::((14,10),true)::((14,19),false)::((14,14),true)::((14,18),false)::((15,10),true)::((15,19),false)::((15,14),false)::((15,18),false)::((16,10),true)::((16,19),false)::((16,14),false)::((16,18),false)::((17,10),true)::((17,19),false)::((17,14),false)::((17,18),false)::((18,10),true)::((18,19),false)::((18,14),false)::((18,18),true)::((19,10),true)::((19,19),true)::((19,14),false)::((19,18),false)::((20,10),true)::((20,19),false)::((20,14),false)::((20,18),false)::((21,10),true)::((21,19),false)::((21,14),false)::((21,18),false)::((22,10),false)::((22,19),false)::((22,14),false)::((22,18),false)::((23,10),false)::((23,19),false)::((23,14),false)::((23,18),false)::((24,10),false)::((24,19),false)::((24,14),false)::((24,18),false)::((25,10),true)::((25,19),false)::((25,14),false)::((25,18),false)::[])
  subT:=[]
  subB:=((("NoneType","bool"),false)::(("NoneType","int"),false)::(("NoneType","list"),false)::(("NoneType","str"),false)::(("NoneType","tuple"),false)::(("bool","bool"),true)::(("bool","int"),true)::(("bool","list"),false)::(("bool","str"),false)::(("bool","tuple"),false)::(("int","bool"),false)::(("int","int"),true)::(("int","list"),false)::(("int","str"),false)::(("int","tuple"),false)::(("str","bool"),false)::(("str","int"),false)::(("str","list"),false)::(("str","str"),true)::(("str","tuple"),false)::(("list","bool"),false)::(("list","int"),false)::(("list","list"),true)::(("list","str"),false)::(("list","tuple"),false)::(("tuple","bool"),false)::(("tuple","int"),false)::(("tuple","list"),false)::(("tuple","str"),false)::(("tuple","tuple"),true)::(("dict","bool"),false)::(("dict","int"),false)::(("dict","list"),false)::(("dict","str"),false)::(("dict","tuple"),false)::[])
  subO:=[]
/-- what the proofs ask of the addresses -/
structure Ro (K:W.Frag) (R:Rt):Prop where
  hK:R.K=K
  g_BOUND:R.gl "BOUND"=some (.int 1000000000)
  g_MOST_ROWS:R.gl "MOST_ROWS"=some (.int 24)
  g_MOST_CELLS:R.gl "MOST_CELLS"=some (.int 60)
  g_MOST_HOPPED:R.gl "MOST_HOPPED"=some (.int 24)
  g_NAMES:∃ a,R.gl "NAMES"=some (.ref a)/\∀ H,bc K H a [.str "here",.str "there",.str "left",.str "way",.str "sign",.str "met"]
end My
set_option Elab.async false
set_option maxHeartbeats 8000000
namespace My
open PySem L2 L3
variable {h a d dx l D:Addr}{m i n at_:Int}{ns cs' C:List Int}{v:V}{xs vs ds ys:List V}{α:Type}{ws:List Str}{G:Gx}{A:aw}{c:Bool}{P:Nat->Prop}{sp:Sp}{o:Option Int}{Δ':List aw}{N:Nat}{I:Nat->Addr->List V->Hp->Prop}{H3:Hp}{te:TE}{rest:St}
section
variable {K:W.Frag}{R:Rt}{k:Nat}{H:Hp}{Q:VK}{E:XK}{O Γ' Δ:List aw}
local macro_rules| `(tactic|walk_at "w")=>`(tactic|conv=>whnf)
local macro_rules| `(tactic|left)=>`(tactic|walk_at "w")
local macro_rules| `(tactic|symm)=>`(tactic|((with_reducible (repeat (first|exact ag.here|apply ag.there)));done))
local macro_rules| `(tactic|ac_rfl)=>`(tactic|((with_reducible (repeat (first|exact bw.here|apply bw.there)));done))
local macro_rules| `(tactic|ac_nf)=>`(tactic|first|(with_reducible exact Sub.refl)|(refine' Sub.cons ?h ?r;(case h=>symm);(case r=>ac_nf))|(with_reducible exact Sub.nil)|(with_reducible apply Sub.drop;(ac_nf)))
local macro_rules| `(tactic|walk_at "sp")=>`(tactic|(refine Sep.sub ?_ (by with_reducible assumption);(ac_nf)))
local macro_rules| `(tactic|grind)=>`(tactic|first|exact Sep.get (by with_reducible assumption) (by symm)|exact Sep.fq (by with_reducible assumption) (by symm))
local macro_rules| `(tactic|walk_at "ar")=>`(tactic|first|lia|omega|decide|exact Nat.le_of_ble_eq_true rfl|(unfold sJ;omega)|(unfold ze;omega)|(unfold ze;decide)|(unfold sJ;decide)|(simp only[length_map,length_set,length_replicate];omega))
local macro_rules| `(tactic|walk_at "ls")=>`(tactic|first|(conv=>lhs;simp only[List.set_cons_succ,List.set_cons_zero,Int.reduceToNat])|rfl)
local macro_rules| `(tactic|walk_at "pf")=>`(tactic|first|(conv=>lhs;simp (decide:=true) only [cu,if_true,if_false])|rfl)
local macro_rules| `(tactic|walk_at "st")=>`(tactic|first
  |(with_reducible refine And.intro rfl ?_)
  |(with_reducible refine bt rfl ?_)
  |(with_reducible refine bb rfl ?_)
  |(with_reducible refine CB ?_)
  |((with_reducible refine' iO ?e ?v ?_);(case e=>grind);(case v=>exact rfl))
  |((with_reducible refine' gh ?e ?v ?_);(case e=>grind);(case v=>exact rfl))
  |((with_reducible refine' F4 ?e ?i ?v ?_);(case e=>grind);(case i=>omega);(case v=>exact rfl))
  |(with_reducible refine vq rfl ?_)
  |(with_reducible refine w6 rfl ?_)
  |((with_reducible refine' bU ?e ?_);(case e=>grind))
  |((with_reducible refine' bf_lenT ?e ?_);(case e=>grind))
  |((with_reducible refine' vQ ?s ?r ?j ?x (λH hs=>?_));(case s=>with_reducible assumption);(case r=>ac_rfl);(case j=>exact rfl);(case x=>walk_at "ls"))
  |((with_reducible refine' aj ?s ?l (λp H hs=>?_));(case s=>with_reducible assumption);(case l=>exact Nat.le_of_ble_eq_true rfl))
  |((with_reducible refine' az ?s ?l (λp H hs=>?_));(case s=>with_reducible assumption);(case l=>exact Nat.le_of_ble_eq_true rfl))
  |((with_reducible refine' al_dct ?s (λp H hs=>?_));(case s=>with_reducible assumption))
  |((with_reducible refine' DT ?e ?_);(case e=>grind))
  |((with_reducible refine' Cj ?e ?_);(case e=>grind))
  |((with_reducible refine' cV ?s ?e ?f ?l (λp H hs=>?_));(case s=>with_reducible assumption);(case e=>grind);(case f=>grind);(case l=>walk_at "ar"))
  |((with_reducible refine' oz ?s ?e ?f ?g ?l (λp H hs=>?_));(case s=>with_reducible assumption);(case e=>grind);(case f=>walk_at "ar");(case g=>walk_at "ar");(case l=>walk_at "ar"))
  |((with_reducible refine' Iz ?s ?r ?o ?n ?l ?x (λH hs=>?_));(case s=>with_reducible assumption);(case r=>ac_rfl);(case o=>exact rfl);(case n=>exact rfl);(case l=>walk_at "ar");(case x=>walk_at "pf"))
  |((with_reducible refine' bN ?e ?o ?n ?l ?_);(case e=>grind);(case o=>exact rfl);(case n=>exact rfl);(case l=>exact rfl))
  |((with_reducible refine' EZ ?e ?o ?n ?l ?_);(case e=>grind);(case o=>exact rfl);(case n=>exact rfl);(case l=>exact rfl))
  |((with_reducible refine' isi_x ?e ?o ?b ?_);(case e=>grind);(case o=>exact rfl);(case b=>exact rfl))
  |((with_reducible refine' isi_xt ?e ?o ?b ?_);(case e=>grind);(case o=>exact rfl);(case b=>exact rfl))
  |((with_reducible refine' f9 ?t ?b ?_);(case t=>exact rfl);(case b=>exact rfl))
  |((with_reducible refine' mz ?a ?b ?_);(case a=>exact rfl);(case b=>exact rfl))
  |((with_reducible refine' yX ?a ?b ?_);(case a=>exact rfl);(case b=>exact rfl))
  |((with_reducible refine' iY ?s ?e (λp H hs=>?_));(case s=>with_reducible assumption);(case e=>grind))
  |((with_reducible refine' Fz ?s ?e (λp H hs=>?_));(case s=>with_reducible assumption);(case e=>grind))
  |(refine And.intro (by walk_at "ar") ?_))
local macro_rules| `(tactic|walk_at "go")=>`(tactic|(walk_at "w";repeat (walk_at "st";walk_at "w")))
local macro_rules| `(tactic|right)=>`(tactic|walk_at "go")
abbrev hand (h:Addr)(m:Int):aw:=ex λx:Addr×List Int×Int×Int×Int×Int=>mM (pt h (.lst [.ref x.1,.int x.2.2.1,.int x.2.2.2.1,.int x.2.2.2.2.1,.int x.2.2.2.2.2])) (mM (pt x.1 (.lst (x.2.1.map V.int)))
 (pu (x.2.1.length<=63/\0<=x.2.2.1/\x.2.2.1<2147483629/\0<=x.2.2.2.1/\0<=x.2.2.2.2.1/\0<=x.2.2.2.2.2/\x.2.2.2.2.2<=m)))
def wD (s:Sep (hand h m::O) H):∃ (c:Addr) (ns:List Int) (fo i r n:Int),Sep (pt h (.lst [.ref c,.int fo,.int i,.int r,.int n])::pt c (.lst (ns.map V.int))::O) H/\ns.length<=63/\0<=fo/\fo<2147483629/\0<=i/\0<=r/\0<=n/\n<=m:=by
 obtain ⟨⟨c,ns,fo,i,r,n⟩,s⟩:=Sep.EH.mp s;have s2:=Sep.star.mp ((Sep.star.mp s).pull (.there .here));have p:=(s2.pull (.there .here)).pure;exact ⟨c,ns,fo,i,r,n,((s2.pull (.there .here)).drop).pull (.there .here),p⟩
def gG {c:Addr}{fo r:Int}(s:Sep (pt h (.lst [.ref c,.int fo,.int i,.int r,.int n])::pt c (.lst (ns.map V.int))::O) H)(p:ns.length<=63/\0<=fo/\fo<2147483629/\0<=i/\0<=r/\0<=n/\n<=m):Sep (hand h m::O) H:=by
 refine Sep.EH.mpr ⟨⟨c,ns,fo,i,r,n⟩,Sep.star.mpr ?_⟩;exact (Sep.star.mpr (((s.pull (.there .here)).pull .here |> λs=>(Sep.vh p s).pull (.there .here)))).pull (.there .here)
def Ff:(10:Int) ^ Int.toNat 18=1000000000000000000:=by decide
def Dc (hk:1<=k)(s:Sep (hand h m::O) H)(hm:m<=1099511627776)(hn0:0<n)(hn1:n<1073741824)
  (q:∀ (r:Int) (H':Hp),0<=r->r<n->Sep (hand h (m+1)::O) H'->Q (.int r) H'):aa tab R k mW [.ref h,.int n] H Q E:=by
 obtain ⟨c,ns,fo,i,r,j,hs,h63,f0,f1,i0,r0,k0,k1⟩:=wD s;clear s;have nn:n≠0:=by omega
 refine wc (d:=ig) nofun rfl rfl ?_;right;refine cC (λhr=>?_) (λhr=>?_)
 ·right;rename_i H1 hs1 H2 hs2;exact q _ _ (Int.emod_nonneg _ nn) (Int.emod_lt_of_pos _ hn0) (gG hs2 ⟨h63,f0,f1,i0,Int.ediv_nonneg r0 nofun,by omega,by omega⟩)
 right;refine cC (λhc=>?_) (λhc=>?_)
 ·right;obtain ⟨z,hz⟩:∃ z,mL (ns.map V.int) i=some (.int z):=xg i0 (by rw[length_map] at hc;exact hc);refine iO (by grind) hz ?_;right;refine cC (λhz18=>?_) (λhz18=>?_)
  ·rw[Ff] at hz18;right;rename_i H1 hs1 H2 hs2 H3 hs3;exact q _ _ (Int.emod_nonneg _ nn) (Int.emod_lt_of_pos _ hn0) (gG hs3 ⟨h63,f0,f1,by omega,Int.ediv_nonneg nofun nofun,by omega,by omega⟩)
  ·right;rename_i H1 hs1 H2 hs2;exact q _ _ (Int.emod_nonneg _ nn) (Int.emod_lt_of_pos _ hn0) (gG hs2 ⟨h63,f0,f1,by omega,r0,by omega,by omega⟩)
 ·right;rename_i H1 hs1;exact q _ _ (Int.emod_nonneg _ nn) (Int.emod_lt_of_pos _ hn0) (gG hs1 ⟨h63,f0,f1,by omega,r0,by omega,by omega⟩)
def DM (hk:1<=k)(s:Sep O H)(hS:bg R.K H a (ns.map V.int))(h63:ns.length<=63)(q:∀ h H',Sep (hand h 0::O) H'->Q (.ref h) H'):aa tab R k nR [.ref a] H Q E:=by
 refine wc (d:=g6) nofun rfl rfl ?_;right;refine Hz s hS (λp H1 hs1=>?_);rw[F3 ns h63] at hs1;right;rename_i c H2 hs2;refine rq (xs:=ns.map V.int) (λj U H=>∃ (fo:Int) (v:Option V),U=[some (.ref a),some (.ref c),some (.int fo),v]/\0<=fo/\fo<2147483629/\Sep (pt c (.lst (ns.map V.int))::pt p (.lst (ns.map V.int))::O) H) ?_ ?_ ?_ ?_
 ·exact ⟨_,none,rfl,by rw[length_map];omega,by rw[length_map];omega,hs2⟩
 ·rintro j U H ⟨fo,v,rfl,h0,h2,hs⟩;exact bg.of hs.at
 ·rintro j x U H hx ⟨fo,v,rfl,h0,h2,hs⟩;obtain ⟨z,rfl⟩:=qp hx;right;exact ⟨_,_,rfl,by omega,by omega,hs⟩
 ·rintro U H ⟨fo,v,rfl,h0,h2,hs⟩;right;rename_i l H3 hs3;exact q l _ (gG ((hs3.pull (.there (.there .here))).drop) ⟨h63,h0,h2,by omega,by omega,by omega,by omega⟩)
def dq (s:Sep (hand h m::O) H)(e:m<=n):Sep (hand h n::O) H:=by
 obtain ⟨c,ns,fo,i,r,j,hs,h63,f0,f1,i0,r0,k0,k1⟩:=wD s;exact gG hs ⟨h63,f0,f1,i0,r0,k0,by omega⟩
inductive Kd (H:Hp):V->String->Prop where
 |non:Kd H .non "NoneType"
 |bl (b:Bool):Kd H (.bl b) "bool"
 |int (i:Int):Kd H (.int i) "int"
 |str (x:Str):Kd H (.str x) "str"
 |lst {a:Addr}{xs:List V}(e:H a=some (.lst xs)):Kd H (.ref a) "list"
 |tup {a:Addr}{xs:List V}(e:H a=some (.tup xs)):Kd H (.ref a) "tuple"
 |dct {a:Addr}{kvs:List (Key×V)}(e:H a=some (.dK kvs)):Kd H (.ref a) "dict"
def hU {t:String}(h:tyName v H=some t):Kd H v t:=by
 unfold tyName at h
 split at h
 ·cases h;exact .non
 ·cases h;exact .bl _
 ·cases h;exact .int _
 ·cases h;exact .str _
 ·split at h
  ·rename_i e;cases h;exact .lst e
  ·rename_i e;cases h;exact .tup e
  ·rename_i e;cases h;exact .dct e
  ·cases h
 ·cases h
abbrev Dh:V->Bool
 | .int _=>true
 |_=>false
abbrev gM:V->Bool
 | .int i=>decide (0<=i)&&decide (i<=1000000000)
 |_=>false
def aN {t:String}(hk:1<=k)(ht:tyName v H=some t)(q:Q (.bl (Dh v)) H):aa tab R k qI [v] H Q E:=by
 refine wc (d:=jP) nofun rfl rfl ?_;right;cases hU ht
 all_goals
  refine f9 ht rfl ?_;right
  first
   |exact q
   |(refine f9 ht rfl ?_;right;exact q)
def bT {t:String}(ro:Ro K R)(hk:2<=k)(ht:tyName v H=some t)(q:Q (.bl (gM v)) H):aa tab R k lA [v] H Q E:=by
 refine wc (d:=f6) nofun rfl rfl ?_;right;refine aN nofun ht ?_;cases hU ht
 case int i=>
  right;refine cC (λh0=>?_) (λh0=>?_)
  ·left;simp only[ro.g_BOUND];right;have e:gM (.int i)=decide (i<=1000000000):=by simp[gM,h0]
   rw[e] at q;exact q
  ·right;have e:gM (.int i)=false:=by simp[gM,h0]
   rw[e] at q;exact q
 all_goals
  right;exact q
abbrev bad (xs:List V):Option Int:=if xs.length<1\/60<xs.length then some (-1) else (xs.findIdx? λx=>!gM x).map λn=>(n:Int)
def Dx (h:¬ (1<=xs.length/\xs.length<=60)):bad xs=some (-1):=by
 unfold bad;rw[if_pos nofun]
def Du {j:Nat}{x:V}(h:1<=xs.length/\xs.length<=60)(hx:xs[j]? =some x)(hc:gM x=false)(hb:∀ i y,i<j->xs[i]? =some y->gM y=true):bad xs=some j:=by
 unfold bad;rw[if_neg nofun];have:xs.findIdx? (λx=>!gM x)=some j:=by
  rw[List.findIdx?_eq_some_iff_getElem];obtain ⟨hj,e⟩:=List.getElem?_eq_some_iff.mp hx;refine ⟨hj,by rw[e,hc];rfl,λi hi=>?_⟩;rw[hb i xs[i] hi (getElem?_eq_getElem _)]
  decide
 rw[this]
 rfl
def nF (h:1<=xs.length/\xs.length<=60)(hb:∀ (i:Nat) y,xs[i]? =some y->gM y=true):bad xs=none:=by
 unfold bad;rw[if_neg nofun];have:xs.findIdx? (λx=>!gM x)=none:=by
  rw[List.findIdx?_eq_none_iff];intro x hx;obtain ⟨i,hi⟩:=List.mem_iff_getElem?.mp hx;rw[hb i x hi]
  rfl
 rw[this]
 rfl
def Ar (h:bad xs=none):1<=xs.length/\xs.length<=60:=by
 unfold bad at h
 split at h
 ·cases h
 ·omega
def Au {x:V}{n:Nat}:(List.replicate (Int.toNat (n:Int)) [x]).flatten=List.replicate n x:=by
 rw[Int.toNat_natCast]
 induction n with
 |zero=>rfl
 |succ n ih=>rw[replicate_succ,flatten_cons,ih];rfl
abbrev jV (C:Addr)(fs:List (Str×V))(x:Addr)(fr:Bool):aw:=ex λd:Addr=>mM (pt x (.exc C (some d) fs fr)) (pt d (.own x))
def hE {C x:Addr}{fs:List (Str×V)}{fr:Bool}(s:Sep (pt x (.exc C (some d) fs fr)::pt d (.own x)::O) H):Sep (jV C fs x fr::O) H:=Sep.EH.mpr ⟨d,Sep.star.mpr s⟩
def Bh {C x:Addr}{fs:List (Str×V)}{fr:Bool}(s:Sep (jV C fs x fr::O) H):∃ d,Sep (pt x (.exc C (some d) fs fr)::pt d (.own x)::O) H:=let ⟨d,s⟩:=Sep.EH.mp s;⟨d,Sep.star.mp s⟩
def dX {x:Addr}(hk:1<=k)(s:Sep (pt x (.exc (R.cad bY) none [] true)::O) H)(q:∀ d H',Sep (pt x (.exc (R.cad bY) (some d) [("at",v)] true)::pt d (.own x)::O) H'->Q .non H'):aa tab R k b6 [.ref x,v] H Q E:=by
 refine wc (d:=b9) nofun rfl rfl ?_;right;refine ⟨_,bY,_,_,_,_,rfl,by grind,rfl,?_⟩;right;refine rM s rfl rfl (λd H hs=>?_);right;exact q d H hs
def A9 (ro:Ro K R)(hk:3<=k)(s:Sep (pt a (.lst xs)::tys xs::O) H)(q0:bad xs=none->∀ H',Sep (pt a (.lst xs)::tys xs::O) H'->Q .non H')
  (q1:∀ at',bad xs=some at'->∀ x H',Sep (jV (R.cad bY) [("at",.int at')] x false::pt a (.lst xs)::tys xs::O) H'->E x H'):aa tab R k j8 [.ref a] H Q E:=by
 refine wc (d:=fc) nofun rfl rfl ?_;right;refine f9 (t:="list") (EM s.at) rfl ?_;right
 by_cases hl:1<=xs.length/\xs.length<=60
 ·refine bt (decide_eq_true nofun) ?_;left;simp only[ro.g_MOST_CELLS];right;refine bt (c:=decide ((xs.length:Int)<=60)) (decide_eq_true nofun) ?_;right;refine mi (xs:=xs) (λj U H=>∃ y z,U=[some (.ref a),y,z]/\(∀ i w,i<j->xs[i]? =some w->gM w=true)/\Sep (pt a (.lst xs)::tys xs::O) H) ?_ ?_ ?_ ?_
  ·exact ⟨none,none,rfl,λi w h=>absurd h nofun,s⟩
  ·rintro j U H ⟨y,z,rfl,_,hs⟩;exact hs.at
  ·rintro j x T U H hx ⟨y,z,rfl,hb,hs⟩ hT;have hs1:=hs.iA (xs:=[.int j,x]) hT;left;refine ⟨T,_,rfl,.inl (bc.of hs1.atT),rfl,?_⟩;right;obtain ⟨t,ht⟩:=(hs1.pull (.there (.there .here))).Fj x (mem_of_getElem? hx);refine bT ro nofun ht ?_;right;refine gC (λhc=>?_) (λhc=>?_)
   ·right;refine ⟨_,_,rfl,λi w hi hw=>?_,hs1.drop⟩
    by_cases e:i=j
    ·subst e;rw[hx] at hw;cases hw;exact hc
    ·exact hb i w nofun hw
   ·right;intro p hp;refine dX nofun (hs1.drop.new hp) (λd H hs=>?_);right;refine dM hs (by ac_rfl) rfl (λH hs=>?_);exact q1 _ (Du hl hx hc hb) p H (hE hs)
  ·rintro U H ⟨y,z,rfl,hb,hs⟩;right;exact q0 (nF hl λi w hi=>hb i w (List.getElem?_eq_some_iff.mp hi).1 hi) _ hs
 ·have fin:∀ p,H p=none->aa tab R (k-1) b6 [.ref p,.int (-1)] (upd H p (.exc (R.cad bY) none [] true)) (λv H2=>v=.non/\∃ b i dx fs,V.ref p=.ref b/\H2 b=some (.exc (R.cad i) dx fs true)/\tab.xc.contains i=true/\E b (upd H2 b (.exc (R.cad i) dx fs false))) E:=by
   intro p hp;refine dX nofun (s.new hp) (λd H hs=>?_);refine ⟨rfl,?_⟩;refine dM (G:=⟨tab,R,aa tab R 0,true⟩) hs (by ac_rfl) rfl (λH hs=>?_);exact q1 _ (Dx hl) p H (hE hs)
  by_cases h1:1<=xs.length
  ·refine bt (decide_eq_true nofun) ?_;left;simp only[ro.g_MOST_CELLS];right;refine bb (c:=decide ((xs.length:Int)<=60)) (decide_eq_false nofun) ?_;right;exact fin
  ·refine bb (decide_eq_false nofun) ?_;right;exact fin
abbrev fk (C p:Addr)(cs ws:List V):aw:=ex λx:Addr×Addr×Addr=>mM (pt p (.ins C x.1 [("contents",.ref x.2.1),("permits",.ref x.2.2)])) (mM (pt x.1 (.own p)) (mM (pt x.2.1 (.lst cs)) (pt x.2.2 (.lst ws))))
def nD {C p:Addr}{cs ws:List V}(s:Sep (fk C p cs ws::O) H):∃ dx a b,Sep (pt p (.ins C dx [("contents",.ref a),("permits",.ref b)])::pt dx (.own p)::pt a (.lst cs)::pt b (.lst ws)::O) H:=by
 obtain ⟨⟨dx,a,b⟩,s⟩:=Sep.EH.mp s;refine ⟨dx,a,b,?_⟩;have s1:=Sep.star.mp s;have s2:=Sep.star.mp (s1.pull (.there .here));have s3:=Sep.star.mp (s2.pull (.there .here));exact ((s3.pull (.there (.there .here))).pull (.there (.there (.there .here))))
def jg {C p b:Addr}{cs ws:List V}(s:Sep (pt p (.ins C dx [("contents",.ref a),("permits",.ref b)])::pt dx (.own p)::pt a (.lst cs)::pt b (.lst ws)::O) H):Sep (fk C p cs ws::O) H:=by
 refine Sep.EH.mpr ⟨(dx,a,b),Sep.star.mpr ?_⟩;have s3:=Sep.star.mpr ((s.pull (.there (.there (.there .here)))).pull (.there (.there (.there .here))));have s2:=Sep.star.mpr (s3.pull (.there (.there .here)));exact s2.pull (.there .here)
def ma {p:Addr}(ro:Ro K R)(hk:4<=k)(s:Sep (pt p (.ins (R.cad aX) dx [])::pt dx (.own p)::pt a (.lst xs)::tys xs::O) H)
  (q0:bad xs=none->∀ H',Sep (fk (R.cad aX) p xs (List.replicate xs.length (.str "open"))::pt a (.lst xs)::tys xs::O) H'->Q .non H')
  (q1:∀ at',bad xs=some at'->∀ x H',Sep (jV (R.cad bY) [("at",.int at')] x false::pt a (.lst xs)::tys xs::O) H'->E x H'):aa tab R k cW [.ref p,.ref a] H Q E:=by
 refine wc (d:=cQ) nofun rfl rfl ?_;right;refine A9 (O:=pt p (.ins (R.cad aX) dx [])::pt dx (.own p)::O) ro nofun (s.sub (by ac_nf)) (λhb H hs=>?_) (λat' hb x H hs=>?_)
 ·have hl:=Ar hb;right;rename_i l H1 hs1 H2 hs2 m H3 hs3 w H4 hs4 H5 hs5;rw[Au] at hs5;exact q0 hb _ (jg (hs5.sub (by ac_nf)))
 ·exact q1 at' hb x H (hs.sub (by ac_nf))
def c6 {xs:List α}{x:α}(h0:0<=i)(hx:xs[i.toNat]? =some x):mL xs i=some x:=by
 have h:=L2.cZ hx
 rwa [Int.toNat_of_nonneg h0] at h
abbrev ah (ws:List Str)(d:Str)(i:Int):Bool:=decide (0<=i)&&(decide (i<ws.length)&&(match ws[i.toNat]? with
 |some w=>if w="look" then d =="look" else w =="open"
 |none=>false))
def ak {d:Str}(h:ah ws d i=true):0<=i/\i<ws.length:=by
 unfold ah at h;rw[Bool.and_eq_true,Bool.and_eq_true,decide_eq_true_eq,decide_eq_true_eq] at h;exact ⟨h.1,h.2.1⟩
def dZ {x:Addr}{w:V}(hk:1<=k)(s:Sep (pt x (.exc (R.cad aL) none [] true)::O) H)(q:∀ d H',Sep (pt x (.exc (R.cad aL) (some d) [("deed",v),("cell",w)] true)::pt d (.own x)::O) H'->Q .non H'):aa tab R k dy [.ref x,v,w] H Q E:=by
 refine wc (d:=dA) nofun rfl rfl ?_;right;refine ⟨_,aL,_,_,_,_,rfl,by grind,rfl,?_⟩;right;refine rM s rfl rfl (λd H hs=>?_);right;refine Fo hs (by ac_rfl) rfl rfl (Nat.le_of_ble_eq_true rfl) rfl (λH hs=>?_);right;exact q d H hs
local macro_rules| `(tactic|walk_at "dr")=>`(tactic|(refine' Dc ?k ?s ?m ?a ?b (λr H hr0 hr1 hs=>?_);(case s=>walk_at "sp");(case k=>exact nofun);(case m=>omega);(case a=>walk_at "ar");(case b=>walk_at "ar")))
local macro_rules| `(tactic|walk_at "gd")=>`(tactic|(walk_at "w";repeat (first|(walk_at "st";walk_at "w")|(walk_at "dr";walk_at "w"))))
abbrev xi (ns:List Int):Prop:=∀ i ∈ ns,0<=i/\i<=1000000000
abbrev bx (f:α->List aw):aw:=⟨λH D=>∃ x,aZ (f x) H D,λH H' D ⟨x,h⟩ k t=>⟨x,aZ.st h k t⟩,λH D D' ⟨x,h⟩ k=>⟨x,aZ.up h k⟩⟩
def gw:∀ {O Δ:List aw}{D:Addr->Prop},aZ (O++Δ) H D ↔ ∃ D1 D2:Addr->Prop,(∀ a,D1 a->D a)/\(∀ a,D2 a->D a)/\(∀ a,D1 a->D2 a->False)/\aZ O H D1/\aZ Δ H D2
 | [],Δ,D=>⟨λh=>⟨λ_=>False,D,λ_ z=>z.elim,λ_ z=>z,λ_ z _=>z,True.intro,h⟩,λ⟨_,_,_,s2,_,_,h⟩=>aZ.up h s2⟩
 |A::O,Δ,D=>by
  constructor
  ·rintro ⟨E1,E2,s1,s2,dj,hA,h⟩;obtain ⟨F1,F2,t1,t2,dk,h1,h2⟩:=gw.mp h;refine ⟨λa=>E1 a\/F1 a,F2,λa z=>z.elim (s1 a) λz=>s2 a (t1 a z),λa z=>s2 a (t2 a z),λa z w=>z.elim (λz=>dj a z (t2 a w)) λz=>dk a z w,?_,h2⟩;exact ⟨E1,F1,λa z=>.inl z,λa z=>.inr z,λa z w=>dj a z (t1 a w),hA,h1⟩
  ·rintro ⟨D1,D2,s1,s2,dj,⟨E1,E2,t1,t2,dk,hA,h1⟩,h2⟩;refine ⟨E1,λa=>E2 a\/D2 a,λa z=>s1 a (t1 a z),λa z=>z.elim (λz=>s1 a (t2 a z)) (s2 a),λa z w=>w.elim (dk a z) λw=>dj a (t1 a z) w,hA,?_⟩;exact gw.mpr ⟨E2,D2,λa z=>.inl z,λa z=>.inr z,λa z w=>dj a (t2 a z) w,h1,h2⟩
def gf {f:α->List aw}(s:Sep (bx f::O) H):∃ x,Sep (f x++O) H:=by
 obtain ⟨D,k,D1,D2,s1,s2,dj,⟨x,h1⟩,h2⟩:=s;exact ⟨x,D,k,gw.mpr ⟨D1,D2,s1,s2,dj,h1,h2⟩⟩
def fz {f:α->List aw}(x:α)(s:Sep (f x++O) H):Sep (bx f::O) H:=by
 obtain ⟨D,k,h⟩:=s;obtain ⟨D1,D2,s1,s2,dj,h1,h2⟩:=gw.mp h;exact ⟨D,k,D1,D2,s1,s2,dj,⟨x,h1⟩,h2⟩
abbrev kS:List Str:=["here","there","left","way","sign","met"]
abbrev yh:List Key:=[.inr "here",.inr "there",.inr "left",.inr "way",.inr "sign",.inr "met"]
abbrev gB:V->Bool
 | .int i=>decide (-1000000000<=i)&&decide (i<=1000000000)
 |_=>false
abbrev tm (a b:Int):V->Bool
 | .int i=>i ==a||i ==b
 |_=>false
abbrev dc:Nat->V->Bool
 |0,v=>gB v
 |1,v=>gB v
 |3,v=>tm 1 (-1) v
 |5,v=>tm 0 1 v
 |_,v=>gM v
def eh {t:String}(ro:Ro K R)(hk:2<=k)(ht:tyName v H=some t)(q:Q (.bl (gB v)) H):aa tab R k nS [v] H Q E:=by
 refine wc (d:=g8) nofun rfl rfl ?_;right;refine aN nofun ht ?_;cases hU ht
 case int i=>
  left;refine bt rfl ?_;left;simp only[ro.g_BOUND];right;refine cC (λh0=>?_) (λh0=>?_)
  ·left;simp only[ro.g_BOUND];right;have e:gB (.int i)=decide (i<=1000000000):=by simp[gB,h0]
   rw[e] at q;exact q
  ·right;have e:gB (.int i)=false:=by simp[gB,h0]
   rw[e] at q;exact q
 all_goals
  right;exact q
def jz {j:Nat}{x:Str}(h:kS[j]? =some x):(j=0/\x="here")\/(j=1/\x="there")\/(j=2/\x="left")\/(j=3/\x="way")\/(j=4/\x="sign")\/(j=5/\x="met"):=by
 rcases j with _|_|_|_|_|_|j
 ·cases h;exact .inl ⟨rfl,rfl⟩
 ·cases h;exact .inr (.inl ⟨rfl,rfl⟩)
 ·cases h;exact .inr (.inr (.inl ⟨rfl,rfl⟩))
 ·cases h;exact .inr (.inr (.inr (.inl ⟨rfl,rfl⟩)))
 ·cases h;exact .inr (.inr (.inr (.inr (.inl ⟨rfl,rfl⟩))))
 ·cases h;exact .inr (.inr (.inr (.inr (.inr ⟨rfl,rfl⟩))))
 ·exact absurd h (by simp[kS])
local macro_rules| `(tactic|walk_at "sc")=>`(tactic|first|(refine bt (by decide+kernel) ?_;walk_at "go")|(refine bb (by decide+kernel) ?_;walk_at "go"))
def pL {t:String}{j:Nat}{x:Str}(ro:Ro K R)(hk:3<=k)(hj:kS[j]? =some x)(ht:tyName v H=some t)(q:Q (.bl (dc j v)) H):aa tab R k CV [.str x,v] H Q E:=by
 refine wc (d:=xI) nofun rfl rfl ?_;rcases jz hj with ⟨rfl,rfl⟩|⟨rfl,rfl⟩|⟨rfl,rfl⟩|⟨rfl,rfl⟩|⟨rfl,rfl⟩|⟨rfl,rfl⟩
 all_goals right
 all_goals repeat walk_at "sc"
 ·exact eh ro nofun ht q
 ·exact eh ro nofun ht q
 ·exact bT ro nofun ht q
 ·refine aN nofun ht ?_;cases hU ht
  case int i=>
   right;refine bM (λh0=>?_) (λh0=>?_)
   ·right;have e:dc 3 (.int i)=true:=by simp[dc,tm,h0]
    rw[e] at q;exact q
   ·right;have e:dc 3 (.int i)=(i == -1):=by simp[dc,tm,h0]
    rw[e] at q;exact q
  all_goals
   right;exact q
 ·exact bT ro nofun ht q
 ·refine aN nofun ht ?_;cases hU ht
  case int i=>
   right;refine bM (λh0=>?_) (λh0=>?_)
   ·right;have e:dc 5 (.int i)=true:=by simp[dc,tm,h0]
    rw[e] at q;exact q
   ·right;have e:dc 5 (.int i)=(i ==1):=by simp[dc,tm,h0]
    rw[e] at q;exact q
  all_goals
   right;exact q
abbrev boxes (R:Rt)(b:Addr)(ns:List Int):aw:=bx λx:Addr×Addr=>[pt b (.ins (R.cad bI) x.1 [("numbers",.ref x.2)]),pt x.1 (.own b),pt x.2 (.dK (yh.zip (ns.map V.int))),pu (ns.length=6)]
def gc {b:Addr}(s:Sep (boxes R b ns::O) H):∃ dx d,ns.length=6/\Sep (pt b (.ins (R.cad bI) dx [("numbers",.ref d)])::pt dx (.own b)::pt d (.dK (yh.zip (ns.map V.int)))::O) H:=by
 obtain ⟨⟨dx,d⟩,s⟩:=gf s;have s:Sep (pt b (.ins (R.cad bI) dx [("numbers",.ref d)])::pt dx (.own b)::pt d (.dK (yh.zip (ns.map V.int)))::pu (ns.length=6)::O) H:=s;have p:=(s.pull (.there (.there (.there .here)))).pure;exact ⟨dx,d,p,(s.pull (.there (.there (.there .here)))).drop⟩
def fK {b:Addr}(hn:ns.length=6)(s:Sep (pt b (.ins (R.cad bI) dx [("numbers",.ref d)])::pt dx (.own b)::pt d (.dK (yh.zip (ns.map V.int)))::O) H):Sep (boxes R b ns::O) H:=
 fz (dx,d) (Sep.push (.there (.there (.there .here))) (Sep.vh hn s))
def six {ns:List α}(h:ns.length=6):∃ a b c d e f,ns=[a,b,c,d,e,f]:=by
 match ns,h with
 | [a,b,c,d,e,f],_=>exact ⟨a,b,c,d,e,f,rfl⟩
def qN {j:Nat}{x:Str}(hn:ns.length=6)(hj:kS[j]? =some x):∃ i,ns[j]? =some i/\gQ (yh.zip (ns.map V.int)) (.inr x)=some (.int i):=by
 obtain ⟨a,b,c,d,e,f,rfl⟩:=six hn;rcases jz hj with ⟨rfl,rfl⟩|⟨rfl,rfl⟩|⟨rfl,rfl⟩|⟨rfl,rfl⟩|⟨rfl,rfl⟩|⟨rfl,rfl⟩<;>exact ⟨_,rfl,rfl⟩
def zi {b:Addr}(ro:Ro K R)(hk:1<=k)(s:Sep (boxes R b ns::O) H)(q:∀ t H',Sep (tu t (ns.map V.int)::boxes R b ns::O) H'->Q (.ref t) H'):aa tab R k gu [.ref b] H Q E:=by
 obtain ⟨dx,d,hn,s⟩:=gc s;refine wc (d:=fX) nofun rfl rfl ?_;right;obtain ⟨a,hg,hS⟩:=ro.g_NAMES;simp only[hg];rw[<-ro.hK] at hS;right;refine Gu (hS H) ?_;refine D5 (xs:=kS.map V.str) (Nat.le_of_ble_eq_true rfl) (λD ys H=>ys=(ns.map V.int).take ys.length/\Sep (pt D (.lst ys)::pt b (.ins (R.cad bI) dx [("numbers",.ref d)])::pt dx (.own b)::pt d (.dK (yh.zip (ns.map V.int)))::O) H) ?_ ?_ ?_ ?_
 ·intro D ys H _;exact hS H
 ·intro D hD;exact ⟨rfl,s.new hD⟩
 ·rintro D ys x H' hx ⟨e,hs⟩;rw[getElem?_map] at hx;obtain ⟨z,hz,rfl⟩:=Option.map_eq_some_iff.mp hx;obtain ⟨i,h1,h2⟩:=qN hn hz;right;refine Fs (k:=.inr z) (by grind) h2 ?_;have hlt:=(List.getElem?_eq_some_iff.mp h1).1;refine A6.mk (by grind) nofun ⟨?_,?_⟩
  ·have e2:(ns.map V.int)[ys.length]? =some (.int i):=by rw[getElem?_map,h1];rfl
   rw[length_append,length_singleton,List.take_succ,e2]
   conv=>lhs;rw[e]
   rfl
  ·exact hs.set rfl
 ·rintro D ys H' hl ⟨e,hs⟩;have e2:ys=ns.map V.int:=by
   rw[e,hl];rw[List.take_of_length_le];simp[kS,hn]
  subst e2;right;refine DZ hs (by grind) (λp H hs=>?_);right;refine q p H ?_;refine Sep.pull (.there .here) (fK (dx:=dx) (d:=d) hn ?_);walk_at "sp"
def qU {x:Addr}(ro:Ro K R)(hk:4<=k)(hn:ns.length=6)(hf:∀ (j:Nat) i,ns[j]? =some i->dc j (.int i)=true) (s:Sep (pt x (.ins (R.cad bI) dx [])::pt dx (.own x)::O) H) (q:∀ H',Sep (boxes R x ns::O) H'->Q .non H'):
  aa tab R k bE (.ref x::ns.map V.int) H Q E:=by
 obtain ⟨a0,a1,a2,a3,a4,a5,rfl⟩:=six hn;refine wc (d:=cY) nofun rfl rfl ?_;right;rename_i p H1 hs1;obtain ⟨na,hg,hS⟩:=ro.g_NAMES;simp only[hg];rw[<-ro.hK] at hS;right;refine IB (tp1:=true) (tp2:=true) (xs:=kS.map V.str) (ys:=[V.int a0,V.int a1,V.int a2,V.int a3,V.int a4,V.int a5]) (hS _) (bc.of hs1.at) ?_;refine zl (xs:=kS.map V.str) (ys:=[V.int a0,V.int a1,V.int a2,V.int a3,V.int a4,V.int a5]) (λj U H=>∃ v w,U=[some (.ref x),some (.int a0),some (.int a1),some (.int a2),some (.int a3),some (.int a4),some (.int a5),some (.ref p),v,w]/\Sep (pt p (.tup [.int a0,.int a1,.int a2,.int a3,.int a4,.int a5])::pt x (.ins (R.cad bI) dx [])::pt dx (.own x)::O) H) rfl ?_ ?_ ?_ ?_
 ·exact ⟨none,none,rfl,hs1⟩
 ·rintro j U H ⟨v,w,rfl,hs⟩;exact ⟨hS _,bc.of hs.at⟩
 ·rintro j y z T U H hy hz ⟨v,w,rfl,hs⟩ hT;rw[getElem?_map] at hy;obtain ⟨nm,hnm,rfl⟩:=Option.map_eq_some_iff.mp hy;obtain ⟨i,hi,rfl⟩:∃ i,([a0,a1,a2,a3,a4,a5]:List Int)[j]? =some i/\z=.int i:=by
   have hz':(([a0,a1,a2,a3,a4,a5]:List Int).map V.int)[j]? =some z:=hz;rw[getElem?_map] at hz';obtain ⟨i,h1,h2⟩:=Option.map_eq_some_iff.mp hz';exact ⟨i,h1,h2.symm⟩
  have hs2:=hs.iA (xs:=[.str nm,.int i]) hT;left;refine ⟨T,_,rfl,.inl (bc.of hs2.atT),rfl,?_⟩;right;refine pL ro nofun hnm rfl ?_;rw[hf j i hi];right;exact ⟨_,_,rfl,hs2.drop⟩
 ·rintro U H ⟨v,w,rfl,hs⟩;right;simp only[hg];right;refine Fy (tp1:=true) (tp2:=true) (ks:=yh) (ys:=([a0,a1,a2,a3,a4,a5]:List Int).map V.int) hs (hS _) (bc.of hs.at) (by decide+kernel) rfl (Nat.le_of_ble_eq_true rfl) (λd H2 hs2=>?_);right;rename_i H3 hs3;refine q _ ?_;refine fK (dx:=dx) (d:=d) rfl ?_;walk_at "sp"
def vj {j:Nat}{x:Str}(ro:Ro K R)(hk:1<=k)(hj:kS[j]? =some x)(q:Q (.bl true) H):aa tab R k nA [.str x] H Q E:=by
 refine wc (d:=jd) nofun rfl rfl ?_;right;obtain ⟨a,hg,hs⟩:=ro.g_NAMES;simp only[hg];have hs':=hs H;rw[<-ro.hK] at hs';right;refine ET hs' rfl rfl ?_;rcases jz hj with ⟨rfl,rfl⟩|⟨rfl,rfl⟩|⟨rfl,rfl⟩|⟨rfl,rfl⟩|⟨rfl,rfl⟩|⟨rfl,rfl⟩<;>exact q
def dg {b:Addr}{j:Nat}{x:Str}(ro:Ro K R)(hk:2<=k)(s:Sep (boxes R b ns::O) H)(hj:kS[j]? =some x)(hi:ns[j]? =some i)(q:Q (.int i) H):aa tab R k av [.ref b,.str x] H Q E:=by
 obtain ⟨dx,d,hn,s⟩:=gc s;refine wc (d:=e9) nofun rfl rfl ?_;right;refine vj ro nofun hj ?_;right;obtain ⟨i',h1,h2⟩:=qN hn hj;rw[hi] at h1;cases h1;exact Fs (k:=.inr x) (by grind) h2 q
def tJ {b:Addr}(ro:Ro K R)(hk:5<=k)(s:Sep (boxes R b ns::O) H)(q:∀ c H',Sep (boxes R c ns::boxes R b ns::O) H'->Q (.ref c) H'):aa tab R k dO [.ref b] H Q E:=by
 refine wc (d:=ef) nofun rfl rfl ?_;right;intro x dx h1 h2 h3;refine qU (ns:=[0,0,0,1,0,0]) ro nofun rfl ?_ (bP s h1 h2 h3) (λH1 hs1=>?_)
 ·intro j i hi;rcases j with _|_|_|_|_|_|j<;>first|(cases hi;rfl)|exact absurd hi (by simp)
 refine ⟨rfl,?_⟩;obtain ⟨dx1,d1,hn1,hs2⟩:=gc hs1;obtain ⟨dx2,d2,hn2,hs3⟩:=gc (hs2.pull (.there (.there (.there .here))));right;refine zc hs3 (by grind) (λd3 H3 hs4=>?_);right;rename_i H4 hs5;refine q _ _ ?_;refine fK (dx:=dx1) (d:=d3) hn2 ?_;refine Sep.push (.there (.there (.there .here))) (fK (dx:=dx2) (d:=d2) hn2 ?_);walk_at "sp"
def fW {x:Addr}{w:V}(hk:1<=k)(s:Sep (pt x (.exc (R.cad bV) none [] true)::O) H)(q:∀ d H',Sep (pt x (.exc (R.cad bV) (some d) [("box",v),("number",w)] true)::pt d (.own x)::O) H'->Q .non H'):aa tab R k gH [.ref x,v,w] H Q E:=by
 refine wc (d:=cP) nofun rfl rfl ?_;right;refine ⟨_,bV,_,_,_,_,rfl,by grind,rfl,?_⟩;right;refine rM s rfl rfl (λd H hs=>?_);right;refine Fo hs (by ac_rfl) rfl rfl (Nat.le_of_ble_eq_true rfl) rfl (λH hs=>?_);right;exact q d H hs
abbrev ES:V->Bool
 | .str x=>EJ (.str x) (kS.map V.str)
 |_=>false
def lB {t:String}(ro:Ro K R)(hk:1<=k)(ht:tyName v H=some t)(q:Q (.bl (ES v)) H):aa tab R k nA [v] H Q E:=by
 refine wc (d:=jd) nofun rfl rfl ?_;right;obtain ⟨a,hg,hs⟩:=ro.g_NAMES;have hs':=hs H;rw[<-ro.hK] at hs';cases hU ht
 case str x=>
  refine f9 ht rfl ?_;left;refine bt rfl ?_;left;simp only[hg];right;exact ET hs' rfl rfl q
 all_goals
  refine f9 ht rfl ?_;right;exact q
def qD {j:Nat}{x:Str}(hj:kS[j]? =some x):ES (.str x)=true:=by
 rcases jz hj with ⟨rfl,rfl⟩|⟨rfl,rfl⟩|⟨rfl,rfl⟩|⟨rfl,rfl⟩|⟨rfl,rfl⟩|⟨rfl,rfl⟩<;>rfl
def Av {j:Nat}{x:Str}(hn:ns.length=6)(hj:kS[j]? =some x):putK (yh.zip (ns.map V.int)) (.inr x) (.int i)=yh.zip ((ns.set j i).map V.int):=by
 obtain ⟨a,b,c,d,e,f,rfl⟩:=six hn;rcases jz hj with ⟨rfl,rfl⟩|⟨rfl,rfl⟩|⟨rfl,rfl⟩|⟨rfl,rfl⟩|⟨rfl,rfl⟩|⟨rfl,rfl⟩<;>rfl
def Cd {b:Addr}{j:Nat}{x:Str}(ro:Ro K R)(hk:4<=k)(s:Sep (boxes R b ns::O) H)(hj:kS[j]? =some x)(hf:dc j (.int i)=true)(q:∀ H',Sep (boxes R b (ns.set j i)::O) H'->Q .non H'):aa tab R k aA [.ref b,.str x,.int i] H Q E:=by
 obtain ⟨dx,d,hn,s⟩:=gc s;refine wc (d:=dv) nofun rfl rfl ?_;right;refine lB (t:="str") ro nofun rfl ?_;rw[qD hj];right;refine pL ro nofun hj rfl ?_;rw[hf];right;refine GY (k:=.inr x) (kvs':=yh.zip ((ns.set j i).map V.int)) s (by ac_rfl) (by rw[length_zip,length_map,hn];decide) (Av hn hj) (λH1 hs1=>?_);right;exact q H1 (fK (by rw[length_set];exact hn) hs1)
def qb {b:Addr}{j:Nat}{x:Str}{t:String}(ro:Ro K R)(hk:4<=k)(s:Sep (boxes R b ns::O) H)(hj:kS[j]? =some x)(ht:tyName v H=some t)(hf:dc j v=false)(q:∀ e d H',Sep (pt e (.exc (R.cad bV) (some d) [("box",.str x),("number",v)] false)::pt d (.own e)::boxes R b ns::O) H'->E e H'):aa tab R k aA [.ref b,.str x,v] H Q E:=by
 refine wc (d:=dv) nofun rfl rfl ?_;right;refine lB (t:="str") ro nofun rfl ?_;rw[qD hj];right;refine pL ro nofun hj ht ?_;rw[hf];right;intro e he;refine fW nofun (s.new he) (λd H3 hs3=>⟨rfl,?_⟩);exact dM (G:=⟨tab,R,aa tab R (k-1),true⟩) hs3 .here rfl (λH4 hs4=>q e d H4 hs4)
abbrev Ob (R:Rt)(A:aw)(b:Addr)(i:Nat)(fl:List Str):Prop:=∀ H D,A.p H D->∃ dx fs,H b=some (.ins (R.cad i) dx fs)/\fs.map (·.1)=fl
def rN {m:Str}:∀ {fs:List (Str×V)},(fs.map (·.1)).all (λx=>!(m ==x))=true->fs.lookup m=none
 | [],_=>rfl
 |(x,v)::fs,h=>by
  simp only[map_cons,all_cons,Bool.and_eq_true] at h;have h1:(m ==x)=false:=by simpa using h.1
  rw[lookup_cons,h1];exact rN h.2
def ae {b:Addr}{i f:Nat}{fl:List Str}{m:Str}{X:Nat->Prop}(o:Ob G.R A b i fl)(s:Sep O H)(p:ag A O Δ)(hm:fl.all (λx=>!(m ==x))=true) (hf:G.T.me.lookup (i,m)=some f) (h:X f):
  ∃ p' i' dx fs f',V.ref b=.ref p'/\H p'=some (.ins (G.R.cad i') dx fs)/\fs.lookup m=none/\G.T.me.lookup (i',m)=some f'/\X f':=by
 obtain ⟨D,k,D1,D2,s1,s2,dj,h1,h2⟩:=s.pull p;obtain ⟨dx,fs,e1,e2⟩:=o H D1 h1;exact ⟨b,i,dx,fs,f,rfl,e1,rN (e2▸hm),hf,h⟩
structure Bx where
 h:Int
 t:Int
 l:Int
 w:Int
 s:Int
 m:Int
abbrev Bx.ls (x:Bx):List Int:=[x.h,x.t,x.l,x.w,x.s,x.m]
abbrev Bx.ok (x:Bx):Prop:=(-1000000000<=x.h/\x.h<=1000000000)/\(-1000000000<=x.t/\x.t<=1000000000)/\(0<=x.l/\x.l<=1000000000)/\(x.w=1\/x.w= -1)/\(0<=x.s/\x.s<=1000000000)/\(x.m=0\/x.m=1)
abbrev ay (R:Rt)(b:Addr)(x:Bx):aw:=bx λ_:Unit=>[boxes R b x.ls,pu x.ok]
variable {x:Bx}
def dB {b:Addr}(s:Sep (ay R b x::O) H):x.ok/\Sep (boxes R b x.ls::O) H:=by
 obtain ⟨_,s⟩:=gf s;have s:Sep (boxes R b x.ls::pu x.ok::O) H:=s;exact ⟨(s.pull (.there .here)).pure,(s.pull (.there .here)).drop⟩
def kD {b:Addr}(hx:x.ok)(s:Sep (boxes R b x.ls::O) H):Sep (ay R b x::O) H:=fz () (Sep.push (.there .here) (Sep.vh hx s))
def ky {b:Addr}(s:Sep O H)(p:ag (ay R b x) O Δ):x.ok:=(dB (s.pull p)).1
def aS {b:Addr}:Ob R (ay R b x) b bI ["numbers"]:=by
 rintro H D ⟨_,D1,D2,_,_,_,⟨⟨dx,d⟩,E1,E2,_,_,_,⟨_,h⟩,_⟩,_⟩;exact ⟨dx,_,h,rfl⟩
def Cg (h:x.ok):∀ (j:Nat) i,x.ls[j]? =some i->dc j (.int i)=true:=by
 obtain ⟨⟨h1,h2⟩,⟨h3,h4⟩,⟨h5,h6⟩,h7,⟨h8,h9⟩,h10⟩:=h;intro j i hi;rcases j with _|_|_|_|_|_|j
 ·cases hi;simp[dc,gB,h1,h2]
 ·cases hi;simp[dc,gB,h3,h4]
 ·cases hi;simp[dc,gM,h5,h6]
 ·cases hi;rcases h7 with e|e<;>rw[e]<;>rfl
 ·cases hi;simp[dc,gM,h8,h9]
 ·cases hi;rcases h10 with e|e<;>rw[e]<;>rfl
 ·exact absurd hi (by simp[Bx.ls])
def rA (h: -1000000000<=i/\i<=1000000000):gB (.int i)=true:=by simp[gB,h.1,h.2]
def rE (h:0<=i/\i<=1000000000):gM (.int i)=true:=by simp[gM,h.1,h.2]
section
variable {b:Addr}{h t l w s m i:Int}
def FR (ro:Ro K R)(hk:2<=k)(z:Sep O H)(p:ag (ay R b ⟨h,t,l,w,s,m⟩) O Δ)(q:Q (.int h) H):aa tab R k av [.ref b,.str "here"] H Q E:=dg (j:=0) ro hk (dB (z.pull p)).2 rfl rfl q
def F5 (ro:Ro K R)(hk:2<=k)(z:Sep O H)(p:ag (ay R b ⟨h,t,l,w,s,m⟩) O Δ)(q:Q (.int t) H):aa tab R k av [.ref b,.str "there"] H Q E:=dg (j:=1) ro hk (dB (z.pull p)).2 rfl rfl q
def CI (ro:Ro K R)(hk:2<=k)(z:Sep O H)(p:ag (ay R b ⟨h,t,l,w,s,m⟩) O Δ)(q:Q (.int l) H):aa tab R k av [.ref b,.str "left"] H Q E:=dg (j:=2) ro hk (dB (z.pull p)).2 rfl rfl q
def Dz (ro:Ro K R)(hk:2<=k)(z:Sep O H)(p:ag (ay R b ⟨h,t,l,w,s,m⟩) O Δ)(q:Q (.int w) H):aa tab R k av [.ref b,.str "way"] H Q E:=dg (j:=3) ro hk (dB (z.pull p)).2 rfl rfl q
def Iq (ro:Ro K R)(hk:2<=k)(z:Sep O H)(p:ag (ay R b ⟨h,t,l,w,s,m⟩) O Δ)(q:Q (.int s) H):aa tab R k av [.ref b,.str "sign"] H Q E:=dg (j:=4) ro hk (dB (z.pull p)).2 rfl rfl q
def FK (ro:Ro K R)(hk:2<=k)(z:Sep O H)(p:ag (ay R b ⟨h,t,l,w,s,m⟩) O Δ)(q:Q (.int m) H):aa tab R k av [.ref b,.str "met"] H Q E:=dg (j:=5) ro hk (dB (z.pull p)).2 rfl rfl q
def rC {y:Bx}{j:Nat}{nm:Str}(ro:Ro K R)(hk:4<=k)(z:Sep O H)(r:bw (ay R b x) (ay R b y) O Γ')(hj:kS[j]? =some nm)(hf:dc j (.int i)=true)(hx:x.ls.set j i=y.ls)(hy:x.ok->y.ok)(q:∀ H',Sep Γ' H'->Q .non H'):aa tab R k aA [.ref b,.str nm,.int i] H Q E:=by
 obtain ⟨Δ,h1,h2⟩:=r.bK;obtain ⟨hok,z2⟩:=dB (z.pull h1);refine Cd ro hk z2 hj hf (λH' z3=>q H' (Sep.push h2 (kD (hy hok) ?_)));rw[hx] at z3;exact z3
def Fp (ro:Ro K R)(hk:4<=k)(z:Sep O H)(r:bw (ay R b ⟨h,t,l,w,s,m⟩) (ay R b ⟨i,t,l,w,s,m⟩) O Γ')(hi: -1000000000<=i/\i<=1000000000)(q:∀ H',Sep Γ' H'->Q .non H'):aa tab R k aA [.ref b,.str "here",.int i] H Q E:=
 rC (j:=0) ro hk z r rfl (rA hi) rfl (λ⟨_,a⟩=>⟨hi,a⟩) q
def GL (ro:Ro K R)(hk:4<=k)(z:Sep O H)(r:bw (ay R b ⟨h,t,l,w,s,m⟩) (ay R b ⟨h,i,l,w,s,m⟩) O Γ')(hi: -1000000000<=i/\i<=1000000000)(q:∀ H',Sep Γ' H'->Q .non H'):aa tab R k aA [.ref b,.str "there",.int i] H Q E:=
 rC (j:=1) ro hk z r rfl (rA hi) rfl (λ⟨a1,_,a⟩=>⟨a1,hi,a⟩) q
def Fx (ro:Ro K R)(hk:4<=k)(z:Sep O H)(r:bw (ay R b ⟨h,t,l,w,s,m⟩) (ay R b ⟨h,t,i,w,s,m⟩) O Γ')(hi:0<=i/\i<=1000000000)(q:∀ H',Sep Γ' H'->Q .non H'):aa tab R k aA [.ref b,.str "left",.int i] H Q E:=
 rC (j:=2) ro hk z r rfl (rE hi) rfl (λ⟨a1,a2,_,a⟩=>⟨a1,a2,hi,a⟩) q
def mC (ro:Ro K R)(hk:1<=k)(z:Sep O H)(p:ag (ay R b x) O Δ)(q:∀ t H',Sep (tu t (x.ls.map V.int)::O) H'->Q (.ref t) H'):aa tab R k gu [.ref b] H Q E:=by
 obtain ⟨hok,z2⟩:=dB (z.pull p);exact zi ro hk z2 (λt H' z3=>q t H' (Sep.push (.there p) (kD hok (z3.pull (.there .here)))))
def yT (ro:Ro K R)(hk:4<=k)(hx:x.ok)(z:Sep (pt b (.ins (R.cad bI) dx [])::pt dx (.own b)::O) H)(q:∀ H',Sep (ay R b x::O) H'->Q .non H'):
  aa tab R k bE (.ref b::x.ls.map V.int) H Q E:=qU ro hk rfl (Cg hx) z (λH' z2=>q H' (kD hx z2))
def uO (ro:Ro K R)(hk:4<=k)(hx:(Bx.mk h t l w s m).ok)(z:Sep (pt b (.ins (R.cad bI) dx [])::pt dx (.own b)::O) H)(q:∀ H',Sep (ay R b ⟨h,t,l,w,s,m⟩::O) H'->Q .non H'):
  aa tab R k bE [.ref b,.int h,.int t,.int l,.int w,.int s,.int m] H Q E:=yT (x:=⟨h,t,l,w,s,m⟩) ro hk hx z q
end
abbrev gt (cs:List Int)(i:Int):Int:=(cs[i.toNat]?).getD 0
def Aq {cs:List Int}(h0:0<=i)(h1:i<cs.length):cs[i.toNat]? =some (gt cs i):=by
 unfold gt;rw[getElem?_eq_getElem nofun]
 rfl
def FF {cs:List Int}(h0:0<=i)(h1:i<cs.length):mL (cs.map V.int) i=some (.int (gt cs i)):=c6 h0 (by rw[getElem?_map,Aq h0 h1];rfl)
abbrev wF (cs:List Int)(ws:List Str):Prop:=cs.length=ws.length/\1<=cs.length/\cs.length<=60/\xi cs
abbrev yk (R:Rt)(a:Addr)(cs:List Int)(ws:List Str):aw:=bx λ_:Unit=>[fk (R.cad aX) a (cs.map V.int) (ws.map V.str),pu (wF cs ws)]
def w8 {cs:List Int}(s:Sep (yk R a cs ws::O) H):wF cs ws/\Sep (fk (R.cad aX) a (cs.map V.int) (ws.map V.str)::O) H:=by
 obtain ⟨_,s⟩:=gf s;have s:Sep (fk (R.cad aX) a (cs.map V.int) (ws.map V.str)::pu (wF cs ws)::O) H:=s;exact ⟨(s.pull (.there .here)).pure,(s.pull (.there .here)).drop⟩
def vA {cs:List Int}(hx:wF cs ws)(s:Sep (fk (R.cad aX) a (cs.map V.int) (ws.map V.str)::O) H):Sep (yk R a cs ws::O) H:=fz () (Sep.push (.there .here) (Sep.vh hx s))
def Cf {cs:List Int}(s:Sep O H)(p:ag (yk R a cs ws) O Δ):wF cs ws:=(w8 (s.pull p)).1
def vY {cs:List Int}:Ob R (yk R a cs ws) a aX ["contents","permits"]:=by
 rintro H D ⟨_,D1,D2,_,_,_,⟨⟨dx,c,d⟩,E1,E2,_,_,_,⟨_,h⟩,_⟩,_⟩;exact ⟨dx,_,h,rfl⟩
section
variable {a:Addr}{cs:List Int}{ws:List Str}{i v:Int}
end
def uw {cs:List Int}(h1:1<=cs.length)(h60:cs.length<=60)(hc:xi cs):bad (cs.map V.int)=none:=by
 refine nF (by rw[length_map];exact ⟨h1,h60⟩) λi y hy=>?_
 rw[getElem?_map] at hy;obtain ⟨z,hz,rfl⟩:=Option.map_eq_some_iff.mp hy;exact rE (hc z (mem_of_getElem? hz))
def xD {cs:List Int}(s:Sep O H):Sep (tys (cs.map V.int)::O) H:=Sep.Gb (λx hx=>by
 obtain ⟨z,_,rfl⟩:=List.mem_map.mp hx;exact ⟨"int",rfl⟩) s
def rf {p:Addr}{cs:List Int}(ro:Ro K R)(hk:4<=k)(h1:1<=cs.length)(h60:cs.length<=60)(hc:xi cs)(s:Sep (pt p (.ins (R.cad aX) dx [])::pt dx (.own p)::O) H)(h:ag (pt a (.lst (cs.map V.int))) O Δ)
  (q:∀ H',Sep (yk R p cs (List.replicate cs.length "open")::O) H'->Q .non H'):aa tab R k cW [.ref p,.ref a] H Q E:=by
 have s2:=xD (cs:=cs) (s.pull (.there (.there h)));refine ma (a:=a) (dx:=dx) (O:=Δ) ro hk (s2.sub ?_) (λ_ H' z=>q H' ?_) (λat' hb=>absurd hb (by rw[uw h1 h60 hc];exact λz=>nomatch z))
 ·ac_nf
 ·refine Sep.push (.there h) ?_;have e:List.replicate (cs.map V.int).length (V.str "open")=(List.replicate cs.length ("open":Str)).map V.str:=by rw[length_map,List.map_replicate]
  rw[e] at z;have z2:=vA (cs:=cs) ⟨by rw[length_replicate],h1,h60,hc⟩ z;exact z2.sub (by ac_nf)
def aF {T:Tab}{f:Nat}{vs':List V}(e:vs=vs')(h:aa T R k f vs' H Q E):aa T R k f vs H Q E:=e▸h
local macro_rules| `(tactic|walk_at "ag")=>`(tactic|first|refine aF (vs':=[_,_]) rfl ?_|refine aF (vs':=[_,_,_]) rfl ?_|refine aF (vs':=[_]) rfl ?_|refine aF (vs':=[_,_,_,_]) rfl ?_)
local macro_rules| `(tactic|walk_at "mt")=>`(tactic|first|((with_reducible refine' ae aS ?s ?p ?m ?f ?_);(case s=>with_reducible assumption);(case p=>symm);(case m=>exact rfl);(case f=>exact rfl))|((with_reducible refine' ae vY ?s ?p ?m ?f ?_);(case s=>with_reducible assumption);(case p=>symm);(case m=>exact rfl);(case f=>exact rfl)))
local macro_rules| `(tactic|walk_at "hq")=>`(tactic|((with_reducible (first|refine' FR ?r ?k ?s ?p ?_|refine' F5 ?r ?k ?s ?p ?_|refine' CI ?r ?k ?s ?p ?_|refine' Dz ?r ?k ?s ?p ?_|refine' Iq ?r ?k ?s ?p ?_|refine' FK ?r ?k ?s ?p ?_));(case r=>with_reducible assumption);(case k=>exact nofun);(case s=>with_reducible assumption);(case p=>symm)))
local macro_rules| `(tactic|walk_at "gq")=>`(tactic|((with_reducible (first|refine' Fp ?r ?k ?s ?p ?i (λH hs=>?_)|refine' GL ?r ?k ?s ?p ?i (λH hs=>?_)|refine' Fx ?r ?k ?s ?p ?i (λH hs=>?_)|refine' gi_m ?r ?k ?s ?p ?i (λH hs=>?_)));(case r=>with_reducible assumption);(case k=>exact nofun);(case s=>with_reducible assumption);(case p=>ac_rfl);(case i=>omega)))
local macro_rules| `(tactic|walk_at "ws")=>`(tactic|(walk_at "w";repeat (first|(walk_at "st";walk_at "w")|(walk_at "mt";walk_at "w")|(walk_at "ag";(walk_at "hq");walk_at "w")|(walk_at "ag";(walk_at "gq");walk_at "w"))))
local macro_rules| `(tactic|walk_at "sc")=>`(tactic|first|(refine bt (by decide+kernel) ?_;walk_at "go")|(refine bb (by decide+kernel) ?_;walk_at "go"))
inductive Out where
 |on (r:Int) (x:Bx) (cs:List Int)
 |no (d:Str) (c:Int)
section
variable {b a:Addr}{h t l w s m i j by':Int}{cs:List Int}{ws:List Str}
def Eb (ro:Ro K R)(hk:5<=k)(z:Sep O H)(r:bw (ay R b ⟨h,t,l,w,s,m⟩) (ay R b ⟨h+i,t,l,w,s,m⟩) O Γ')(hi: -1000000000<=h+i/\h+i<=1000000000)(q:∀ H',Sep Γ' H'->Q .non H'):aa tab R k qt [.ref b,.str "here",.int i] H Q E:=by
 obtain ⟨Δ,p1,p2⟩:=r.bK;refine wc (d:=mn) nofun rfl rfl ?_;left;refine ⟨rfl,?_⟩;left;refine ae aS z p1 rfl rfl ?_;left;refine ⟨rfl,?_⟩;left;refine ae aS z p1 rfl rfl ?_;left;refine FR ro nofun z p1 ?_;left;exact Fp ro nofun z r hi q
def GF (ro:Ro K R)(hk:5<=k)(z:Sep O H)(r:bw (ay R b ⟨h,t,l,w,s,m⟩) (ay R b ⟨h,t+i,l,w,s,m⟩) O Γ')(hi: -1000000000<=t+i/\t+i<=1000000000)(q:∀ H',Sep Γ' H'->Q .non H'):aa tab R k qt [.ref b,.str "there",.int i] H Q E:=by
 obtain ⟨Δ,p1,p2⟩:=r.bK;refine wc (d:=mn) nofun rfl rfl ?_;left;refine ⟨rfl,?_⟩;left;refine ae aS z p1 rfl rfl ?_;left;refine ⟨rfl,?_⟩;left;refine ae aS z p1 rfl rfl ?_;left;refine F5 ro nofun z p1 ?_;left;exact GL ro nofun z r hi q
def HH (ro:Ro K R)(hk:5<=k)(z:Sep O H)(r:bw (ay R b ⟨h,t,l,w,s,m⟩) (ay R b ⟨h,t,l+i,w,s,m⟩) O Γ')(hi:0<=l+i/\l+i<=1000000000)(q:∀ H',Sep Γ' H'->Q .non H'):aa tab R k qt [.ref b,.str "left",.int i] H Q E:=by
 obtain ⟨Δ,p1,p2⟩:=r.bK;refine wc (d:=mn) nofun rfl rfl ?_;left;refine ⟨rfl,?_⟩;left;refine ae aS z p1 rfl rfl ?_;left;refine ⟨rfl,?_⟩;left;refine ae aS z p1 rfl rfl ?_;left;refine CI ro nofun z p1 ?_;left;exact Fx ro nofun z r hi q
abbrev fin (l:Int):Int:=if l=0 then 1 else 0
def tP (ro:Ro K R)(hk:6<=k)(z:Sep O H)(r:bw (ay R b ⟨h,t,l,w,s,m⟩) (ay R b ⟨h,t,l+ -i,w,s,m⟩) O Γ')(hi:0<=l+ -i/\l+ -i<=1000000000)(q:∀ H',Sep Γ' H'->Q (.int (fin (l+ -i))) H'):aa tab R k oh [.ref b,.int i] H Q E:=by
 obtain ⟨Δ,p1,p2⟩:=r.bK;refine wc (d:=ic) nofun rfl rfl ?_;right;refine HH ro nofun z r hi (λH1 z1=>?_);right;refine ae aS z1 p2 rfl rfl ?_;left;refine CI ro nofun z1 p2 ?_;right;refine bM (λe=>?_) (λe=>?_)
 ·right;have q:=q H1 z1;rw[fin,if_pos e] at q;exact q
 ·right;have q:=q H1 z1;rw[fin,if_neg e] at q;exact q
abbrev hm (cs:List Int)(ws:List Str)(i j:Int)(f:List Int->Out):Out:=
 if ah ws "look" i=true then (if ah ws "put" j=true then f (cs.set j.toNat (gt cs i)) else .no "put" j) else .no "look" i
abbrev aT (x:Bx)(cs:List Int)(ws:List Str):Out:=
 if x.l=0 then .on 1 x cs else if x.t<=x.h then hm cs ws x.h x.t λcs'=>.on (fin (x.l+ -1)) ⟨x.h+1,x.t+1,x.l+ -1,x.w,x.s,x.m⟩ cs'
 else hm cs ws (x.h+x.l-1) (x.t+x.l-1) λcs'=>.on (fin (x.l+ -1)) ⟨x.h,x.t,x.l+ -1,x.w,x.s,x.m⟩ cs'
abbrev xm (cs:List Int)(ws:List Str)(i j:Int)(f:List Int->Out):Out:=
 if ah ws "look" i=true then (if ah ws "look" j=true then (if ah ws "put" i=true then (if ah ws "put" j=true then f ((cs.set i.toNat (gt cs j)).set j.toNat (gt cs i)) else .no "put" j) else .no "put" i) else .no "look" j) else .no "look" i
abbrev cB (x:Bx)(cs:List Int)(ws:List Str):Out:=
 if x.l=0 then .on 1 x cs else if x.l=1 then .on 1 ⟨x.h,x.t,0,x.w,x.s,x.m⟩ cs else xm cs ws x.h (x.h+x.l-1) λcs'=>.on (fin (x.l+ -2)) ⟨x.h+1,x.t,x.l+ -2,x.w,x.s,x.m⟩ cs'
end
section
variable {b a:Addr}{h t l w s m i j:Int}{cs:List Int}{ws:List Str}
def HY (ro:Ro K R)(hk:6<=k)(z:Sep O H)(r:bw (ay R b ⟨h,t,l,w,s,m⟩) (ay R b ⟨h+w,t,l,w,s,m⟩) O Γ')(hi: -1000000000<=h+w/\h+w<=1000000000)(q:∀ H',Sep Γ' H'->Q .non H'):aa tab R k ir [.ref b,.str "here"] H Q E:=by
 obtain ⟨Δ,p1,p2⟩:=r.bK;refine wc (d:=dG) nofun rfl rfl ?_;left;refine ⟨rfl,?_⟩;left;refine ⟨rfl,?_⟩;left;refine ae aS z p1 rfl rfl ?_;left;refine Dz ro nofun z p1 ?_;left;exact Eb ro nofun z r hi q
def EV (ro:Ro K R)(hk:6<=k)(z:Sep O H)(r:bw (ay R b ⟨h,t,l,w,s,m⟩) (ay R b ⟨h,t+w,l,w,s,m⟩) O Γ')(hi: -1000000000<=t+w/\t+w<=1000000000)(q:∀ H',Sep Γ' H'->Q .non H'):aa tab R k ir [.ref b,.str "there"] H Q E:=by
 obtain ⟨Δ,p1,p2⟩:=r.bK;refine wc (d:=dG) nofun rfl rfl ?_;left;refine ⟨rfl,?_⟩;left;refine ⟨rfl,?_⟩;left;refine ae aS z p1 rfl rfl ?_;left;refine Dz ro nofun z p1 ?_;left;exact GF ro nofun z r hi q
abbrev a9 (x:Bx)(cs:List Int)(ws:List Str):Out:=
 if x.l=0 then .on 1 x cs else hm cs ws x.h x.t λcs'=>.on (fin (x.l+ -1)) ⟨x.h+x.w,x.t+x.w,x.l+ -1,x.w,x.s,x.m⟩ cs'
abbrev cA (x:Bx)(cs:List Int)(ws:List Str):Out:=
 if x.l=0 then .on 1 x cs else if ah ws "put" x.t=true then .on (fin (x.l+ -1)) ⟨x.h,x.t+x.w,x.l+ -1,x.w,x.s,x.m⟩ (cs.set x.t.toNat x.s) else .no "put" x.t
abbrev rZ (x:Bx)(cs:List Int)(ws:List Str):Out:=
 if x.l=0 then .on 1 ⟨x.h,x.t,x.l,x.w,x.s,0⟩ cs else if ah ws "look" x.h=true then
  (if gt cs x.h=x.s then .on 1 ⟨x.h,x.t,x.l,x.w,x.s,1⟩ cs else .on (fin (x.l+ -1)) ⟨x.h+x.w,x.t,x.l+ -1,x.w,x.s,0⟩ cs) else .no "look" x.h
abbrev lX (x:Bx)(cs:List Int)(ws:List Str):Out:=
 if x.l=0 then .on 1 ⟨x.h,x.t,x.l,x.w,x.s,1⟩ cs else if ah ws "look" x.h=true then (if ah ws "look" x.t=true then
  (if gt cs x.h=gt cs x.t then .on (fin (x.l+ -1)) ⟨x.h+x.w,x.t+x.w,x.l+ -1,x.w,x.s,1⟩ cs else .on 1 ⟨x.h,x.t,x.l,x.w,x.s,0⟩ cs) else .no "look" x.t) else .no "look" x.h
def nt (h:c=false):¬ c=true:=by rw[h];decide
end
abbrev b2i (c:Bool):Int:=match c with
 |true=>1
 |false=>0
def rk (q:Q (.int (b2i c)) H):nX G .int [.bl c] H Q:=by
 unfold nX;refine .inr ⟨c,rfl,?_⟩;cases c<;>exact q
section
variable {cs:List Int}{f g:Nat->Int}{i v:Int}
end
abbrev dd (R:Rt)(d:Addr)(c:Nat):aw:=bx λdx:Addr=>[pt d (.ins (R.cad c) dx []),pt dx (.own d)]
def sQ {c:Nat}(s:Sep (pt d (.ins (R.cad c) dx [])::pt dx (.own d)::O) H):Sep (dd R d c::O) H:=fz dx s
def F6 {c:Nat}:Ob R (dd R d c) d c []:=by
 rintro H D ⟨dx,D1,D2,_,_,_,⟨_,h⟩,_⟩;exact ⟨dx,_,h,rfl⟩
section
variable {d:Addr}{h t l w s m i:Int}{P:Hp->Prop}
end
local macro_rules| `(tactic|walk_at "sx")=>`(tactic|((with_reducible (first|refine' dx_h ?s ?p ?_|refine' dx_t ?s ?p ?_|refine' dx_l ?s ?p ?_|refine' dx_w ?s ?p ?_|refine' dx_s ?s ?p ?_|refine' dx_m ?s ?p ?_));(case s=>with_reducible assumption);(case p=>symm)))
local macro_rules| `(tactic|walk_at "sy")=>`(tactic|((with_reducible (first|refine' ds_h ?s ?p (λH hs=>?_)|refine' ds_t ?s ?p (λH hs=>?_)|refine' ds_l ?s ?p (λH hs=>?_)|refine' ds_w ?s ?p (λH hs=>?_)|refine' ds_s ?s ?p (λH hs=>?_)|refine' ds_m ?s ?p (λH hs=>?_)));(case s=>with_reducible assumption);(case p=>ac_rfl)))
local macro_rules| `(tactic|walk_at "wd")=>`(tactic|(walk_at "w";repeat (first|(walk_at "sx";walk_at "w")|(walk_at "sy";walk_at "w")|(walk_at "st";walk_at "w")|(refine rk ?_;walk_at "w"))))
inductive Wd where
 |copy|fill|seek|mtch|shift|turn
abbrev Wd.s:Wd->Str
 | .copy=>"copy"
 | .fill=>"fill"
 | .seek=>"seek"
 | .mtch=>"match"
 | .shift=>"shift"
 | .turn=>"turn"
abbrev gY:Wd->Bx->List Int->List Str->Out
 | .copy=>a9
 | .fill=>cA
 | .seek=>rZ
 | .mtch=>lX
 | .shift=>aT
 | .turn=>cB
def Gn {j:Int}(h:i=j):jT (.int i) (.int j)=true:=by subst h;show (i ==i)=true;simp
def FY {j:Int}(h:i≠j):jT (.int i) (.int j)=false:=by show (i ==j)=false;simpa using h
section
variable {d p:Addr}{h t l w s m:Int}{cs:List Int}{ws:List Str}
end
def jj {xs:List α}(h0:0<=i)(h1:i<xs.length):∃ v,mL xs i=some v/\v ∈ xs:=by
 have hl:i.toNat<xs.length:=by omega
 refine ⟨xs[i.toNat],?_,List.getElem_mem hl⟩;have:=L2.cZ (getElem?_eq_getElem hl)
 rwa [Int.toNat_of_nonneg h0] at this
def Gw {r:Int}{P:V->Prop}(h0:0<=r)(h1:r<xs.length)(h:∀ v ∈ xs,P v):∃ v,mL xs r=some v/\P v:=by
 obtain ⟨v,hv,hm⟩:=jj h0 h1;exact ⟨v,hv,h v hm⟩
abbrev inR (lo hi:Int)(v:V):Prop:=∃ i,v=.int i/\lo<=i/\i<=hi
def inR.mk {lo hi:Int}(h0:lo<=i)(h1:i<=hi):inR lo hi (.int i):=⟨i,rfl,h0,h1⟩
def Jt {P:V->Prop}{a b c:V}(ha:P a)(hb:P b)(hc:P c):∀ v ∈ [a,b,c],P v:=λv hv=>by
 simp only[mem_cons,not_mem_nil,or_false] at hv;rcases hv with rfl|rfl|rfl<;>assumption
abbrev Bp:Nat->mh->mh
 |0,b=>b
 |n+1,.cons _ r=>Bp n r
 |_+1,.nil=>.nil
abbrev Wd.cl:Wd->Nat
 | .copy=>vp
 | .fill=>wq
 | .seek=>uX
 | .mtch=>sj
 | .shift=>lp
 | .turn=>qe
def Cw {t p:Addr}(h1:H t=some (.tup (ns.map V.int)))(h2:H p=some (.tup (ns.map V.int))):eE R.K H 2 (.ref t) (.ref p) true:=
 gU (n:=0) h1 h2 rfl λj x y e1 e2=>by
  rw[e1] at e2;cases e2;rw[getElem?_map] at e1;obtain ⟨i,_,rfl⟩:=Option.map_eq_some_iff.mp e1;exact aO (t:="int") rfl
inductive Bn where
 |h
 |t
 |l
 |w
 |s
 |m
abbrev Bn.j:Bn->Nat
 | .h=>0
 | .t=>1
 | .l=>2
 | .w=>3
 | .s=>4
 | .m=>5
abbrev Bn.nm:Bn->Str
 | .h=>"here"
 | .t=>"there"
 | .l=>"left"
 | .w=>"way"
 | .s=>"sign"
 | .m=>"met"
def Bn.at (b:Bn):kS[b.j]? =some b.nm:=by cases b<;>rfl
abbrev Bx.g (x:Bx):Bn->Int
 | .h=>x.h
 | .t=>x.t
 | .l=>x.l
 | .w=>x.w
 | .s=>x.s
 | .m=>x.m
abbrev Bx.p (x:Bx)(i:Int):Bn->Bx
 | .h=>⟨i,x.t,x.l,x.w,x.s,x.m⟩
 | .t=>⟨x.h,i,x.l,x.w,x.s,x.m⟩
 | .l=>⟨x.h,x.t,i,x.w,x.s,x.m⟩
 | .w=>⟨x.h,x.t,x.l,i,x.s,x.m⟩
 | .s=>⟨x.h,x.t,x.l,x.w,i,x.m⟩
 | .m=>⟨x.h,x.t,x.l,x.w,x.s,i⟩
def Bx.gl (x:Bx)(b:Bn):x.ls[b.j]? =some (x.g b):=by cases b<;>rfl
def Bx.pl (x:Bx)(i:Int)(b:Bn):x.ls.set b.j i=(x.p i b).ls:=by cases b<;>rfl
abbrev iI (b:Bn)(i:Int):Bool:=dc b.j (.int i)
def uL {b:Bn}(h:iI b i=true)(o:x.ok):(x.p i b).ok:=by
 obtain ⟨o1,o2,o3,o4,o5,o6⟩:=o;cases b
 ·have h:(decide (-1000000000<=i)&&decide (i<=1000000000))=true:=h;have h: -1000000000<=i/\i<=1000000000:=by simpa using h
  exact ⟨h,o2,o3,o4,o5,o6⟩
 ·have h:(decide (-1000000000<=i)&&decide (i<=1000000000))=true:=h;have h: -1000000000<=i/\i<=1000000000:=by simpa using h
  exact ⟨o1,h,o3,o4,o5,o6⟩
 ·have h:(decide (0<=i)&&decide (i<=1000000000))=true:=h;have h:0<=i/\i<=1000000000:=by simpa using h
  exact ⟨o1,o2,h,o4,o5,o6⟩
 ·have h:(i ==1||i == -1)=true:=h;have h:i=1\/i= -1:=by simpa using h
  exact ⟨o1,o2,o3,h,o5,o6⟩
 ·have h:(decide (0<=i)&&decide (i<=1000000000))=true:=h;have h:0<=i/\i<=1000000000:=by simpa using h
  exact ⟨o1,o2,o3,o4,h,o6⟩
 ·have h:(i ==0||i ==1)=true:=h;have h:i=0\/i=1:=by simpa using h
  exact ⟨o1,o2,o3,o4,o5,h⟩
def HX {b:Addr}{n:Bn}(ro:Ro K R)(hk:4<=k)(z:Sep (ay R b x::O) H)(q0:iI n i=true->∀ H',Sep (ay R b (x.p i n)::O) H'->Q .non H')
  (q1:iI n i=false->∀ e H',Sep (jV (R.cad bV) [("box",.str n.nm),("number",.int i)] e false::ay R b x::O) H'->E e H'):aa tab R k aA [.ref b,.str n.nm,.int i] H Q E:=by
 cases h:iI n i with
 |true=>exact rC ro hk z .here n.at h (x.pl i n) (uL h) (q0 h)
 |false=>
  obtain ⟨o,z2⟩:=dB z;exact qb ro hk z2 n.at rfl h λe d H' z3=>q1 h e H' (hE (Sep.push (.there (.there .here)) (kD o (z3.pull (.there (.there .here))))))
def Ad {b:Addr}{n:Bn}(ro:Ro K R)(hk:2<=k)(z:Sep O H)(p:ag (ay R b x) O Δ)(q:Q (.int (x.g n)) H):aa tab R k av [.ref b,.str n.nm] H Q E:=dg ro hk (dB (z.pull p)).2 n.at (x.gl n) q
inductive Sp where
 |set (b:Bn) (i:Int)
 |add (b:Bn) (i:Int)
 |take (b c:Bn)
 |read (b:Bn)
 |write (b:Bn)
abbrev Sp.w:Sp->Str
 | .set _ _=>"set"
 | .add _ _=>"add"
 | .take _ _=>"take"
 | .read _=>"read"
 | .write _=>"write"
abbrev Sp.b:Sp->Bn
 | .set b _=>b
 | .add b _=>b
 | .take b _=>b
 | .read b=>b
 | .write b=>b
abbrev Sp.tl:Sp->List V
 | .set b i=>[.str "set",.str b.nm,.int i]
 | .add b i=>[.str "add",.str b.nm,.int i]
 | .take b c=>[.str "take",.str b.nm,.str c.nm]
 | .read b=>[.str "read",.str b.nm]
 | .write b=>[.str "write",.str b.nm]
abbrev Sp.cl:Sp->Nat
 | .set _ _=>Bi
 | .add _ _=>Bc
 | .take _ _=>vf
 | .read _=>xX
 | .write _=>sr
abbrev Sp.fs:Sp->List (Str×V)
 | .set b i=>[("box",.str b.nm),("number",.int i)]
 | .add b i=>[("box",.str b.nm),("number",.int i)]
 | .take b c=>[("box",.str b.nm),("other",.str c.nm)]
 | .read b=>[("box",.str b.nm)]
 | .write b=>[("box",.str b.nm)]
abbrev Sp.ok:Sp->Prop
 | .set _ i=>-1000000000<=i/\i<=1000000000
 | .add _ i=>-1000000000<=i/\i<=1000000000
 |_=>True
inductive qC where
 |on (x:Bx) (cs:List Int)
 |no (d:Str) (c:Int)
 |nf (b:Bn) (i:Int)
abbrev dh (x:Bx)(cs:List Int)(b:Bn)(i:Int):qC:=if iI b i=true then .on (x.p i b) cs else .nf b i
abbrev iJ (x:Bx)(cs:List Int)(ws:List Str):Sp->qC
 | .set b i=>dh x cs b i
 | .add b i=>dh x cs b (x.g b+i)
 | .take b c=>dh x cs b (x.g c)
 | .read b=>if ah ws "look" x.h=true then dh x cs b (gt cs x.h) else .no "look" x.h
 | .write b=>if gM (.int (x.g b))=true then (if ah ws "put" x.t=true then .on x (cs.set x.t.toNat (x.g b)) else .no "put" x.t) else .nf b (x.g b)
abbrev sd (R:Rt)(d:Addr)(sp:Sp):aw:=bx λdx:Addr=>[pt d (.ins (R.cad sp.cl) dx sp.fs),pt dx (.own d)]
def AI (s:Sep (pt d (.ins (R.cad sp.cl) dx sp.fs)::pt dx (.own d)::O) H):Sep (sd R d sp::O) H:=fz dx s
def rY (s:Sep O H)(p:ag (sd R d sp) O Δ):∃ dx,H d=some (.ins (R.cad sp.cl) dx sp.fs):=by
 obtain ⟨dx,s⟩:=gf (s.pull p);exact ⟨dx,Sep.at s⟩
def Gy:Ob R (sd R d sp) d sp.cl (sp.fs.map (·.1)):=by
 rintro H D ⟨dx,D1,D2,_,_,_,⟨_,h⟩,_⟩;exact ⟨dx,_,h,rfl⟩
variable {w:Str}
def bO {n:Bn}(ro:Ro K R)(hk:2<=k)(q:Q .non H):aa tab R k nz [.str w,.str n.nm] H Q E:=by
 refine wc (d:=iu) nofun rfl rfl ?_;right;refine lB (t:="str") ro nofun rfl ?_;rw[qD n.at];right;exact q
def dR (ro:Ro K R)(hk:3<=k)(h0: -1000000000<=i)(h1:i<=1000000000)(q:Q .non H):aa tab R k i5 [.str w,.int i] H Q E:=by
 refine wc (d:=dU) nofun rfl rfl ?_;right;refine eh (t:="int") ro nofun rfl ?_;rw[show gB (.int i)=true by simp[gB,h0,h1]];right;exact q
def hG {x:Addr}{n:Bn}(ro:Ro K R)(hk:4<=k)(h0: -1000000000<=i)(h1:i<=1000000000)(z:Sep (pt x (.ins (R.cad Bi) dx [])::pt dx (.own x)::O) H)(q:∀ H',Sep (sd R x (.set n i)::O) H'->Q .non H'):aa tab R k i9 [.ref x,.str n.nm,.int i] H Q E:=by
 refine wc (d:=dQ) nofun rfl rfl ?_;right;refine bO ro nofun ?_;right;refine dR ro nofun h0 h1 ?_;right;exact q _ (AI (by assumption))
def Ge {x:Addr}{n:Bn}(ro:Ro K R)(hk:4<=k)(h0: -1000000000<=i)(h1:i<=1000000000)(z:Sep (pt x (.ins (R.cad Bc) dx [])::pt dx (.own x)::O) H)(q:∀ H',Sep (sd R x (.add n i)::O) H'->Q .non H'):aa tab R k jl [.ref x,.str n.nm,.int i] H Q E:=by
 refine wc (d:=eg) nofun rfl rfl ?_;right;refine bO ro nofun ?_;right;refine dR ro nofun h0 h1 ?_;right;exact q _ (AI (by assumption))
def FU {x:Addr}{n m:Bn}(ro:Ro K R)(hk:4<=k)(z:Sep (pt x (.ins (R.cad vf) dx [])::pt dx (.own x)::O) H)(q:∀ H',Sep (sd R x (.take n m)::O) H'->Q .non H'):aa tab R k iN [.ref x,.str n.nm,.str m.nm] H Q E:=by
 refine wc (d:=dC) nofun rfl rfl ?_;right;refine bO ro nofun ?_;right;refine bO ro nofun ?_;right;exact q _ (AI (by assumption))
def BE {x:Addr}{n:Bn}(ro:Ro K R)(hk:4<=k)(z:Sep (pt x (.ins (R.cad sr) dx [])::pt dx (.own x)::O) H)(q:∀ H',Sep (sd R x (.write n)::O) H'->Q .non H'):aa tab R k gO [.ref x,.str n.nm] H Q E:=by
 refine wc (d:=cX) nofun rfl rfl ?_;right;refine bO ro nofun ?_;right;exact q _ (AI (by assumption))
abbrev jO:V->Bool
 | .int i=>decide (0<=i)&&decide (i<=24)
 |_=>false
abbrev EI:V->Bool
 | .non=>true
 | .int i=>i ==0||i ==1
 |_=>false
def tU {t:String}(ro:Ro K R)(hk:2<=k)(ht:tyName v H=some t)(q:Q (.bl (jO v)) H):aa tab R k sW [v] H Q E:=by
 refine wc (d:=kY) nofun rfl rfl ?_;right;refine aN nofun ht ?_;cases hU ht
 case int i=>
  right;refine cC (λh0=>?_) (λh0=>?_)
  ·left;simp only[ro.g_MOST_HOPPED];right;rw[show jO (.int i)=decide (i<=24) by simp[jO,h0]] at q;exact q
  ·right;rw[show jO (.int i)=false by simp[jO,h0]] at q;exact q
 all_goals
  right;exact q
def AN {t:String}(hk:2<=k)(ht:tyName v H=some t)(q:Q (.bl (EI v)) H):aa tab R k yW [v] H Q E:=by
 refine wc (d:=rD) nofun rfl rfl ?_;right;refine jJ ?_;cases hU ht
 case int i=>
  left;refine bb rfl ?_;right;refine aN (t:="int") nofun rfl ?_;right;refine bM (λh0=>?_) (λh0=>?_)
  ·right;rw[show EI (.int i)=true by simp[EI,h0]] at q;exact q
  ·right;rw[show EI (.int i)=(i ==1) by simp[EI,h0]] at q;exact q
 case non=>
  left;refine bt rfl ?_;exact q
 all_goals
  left;refine bb rfl ?_;right;refine aN nofun ht ?_;right;exact q
abbrev oV:Option Int->V
 |none=>.non
 |some i=>.int i
abbrev IY:Option Int->Prop
 |none=>True
 |some i=>i=0\/i=1
abbrev EE (R:Rt)(d:Addr)(n:Int)(o:Option Int):aw:=bx λdx:Addr=>[pt d (.ins (R.cad kM) dx [("many",.int n),("on",oV o)]),pt dx (.own d)]
def Ir (s:Sep (pt d (.ins (R.cad kM) dx [("many",.int n),("on",oV o)])::pt dx (.own d)::O) H):Sep (EE R d n o::O) H:=fz dx s
def FI (s:Sep O H)(p:ag (EE R d n o) O Δ):∃ dx,H d=some (.ins (R.cad kM) dx [("many",.int n),("on",oV o)]):=by
 obtain ⟨dx,s⟩:=gf (s.pull p);exact ⟨dx,Sep.at s⟩
def FN:Ob R (EE R d n o) d kM ["many","on"]:=by
 rintro H D ⟨dx,D1,D2,_,_,_,⟨_,h⟩,_⟩;exact ⟨dx,_,h,rfl⟩
def kK {x:Addr}(ro:Ro K R)(hk:4<=k)(h0:0<=n)(h1:n<=24)(ho:IY o)(z:Sep (pt x (.ins (R.cad kM) dx [])::pt dx (.own x)::O) H)(q:∀ H',Sep (EE R x n o::O) H'->Q .non H'):aa tab R k jf [.ref x,.int n,oV o] H Q E:=by
 refine wc (d:=dY) nofun rfl rfl ?_;right;refine tU (t:="int") ro nofun rfl ?_;rw[show jO (.int n)=true by simp[jO,h0,h1]];right;obtain ⟨t,ht⟩:∃ t,tyName (oV o) H=some t:=by cases o<;>exact ⟨_,rfl⟩
 refine AN nofun ht ?_;rw[show EI (oV o)=true by cases o with|none=>rfl|some i=>rcases ho with rfl|rfl<;>rfl];right;exact q _ (Ir (by assumption))
abbrev Ec (n:Int)(o:Option Int)(m:Int):Int:=match o with
 |none=>1+n
 |some i=>if i=m then 1+n else 1
def Ak {b:Addr}(ro:Ro K R)(hk:3<=k)(z:Sep O H)(p1:ag (EE R d n o) O Δ)(p2:ag (ay R b x) O Δ')(q:Q (.int (Ec n o x.m)) H):aa tab R k jN [.ref d,.ref b,v] H Q E:=by
 refine wc (d:=jE) nofun rfl rfl ?_;obtain ⟨dx,e⟩:=FI z p1;right;refine bN e rfl rfl rfl ?_;right;refine jJ ?_;cases o with
 |none=>
  left;refine bt rfl ?_;right;refine bN e rfl rfl rfl ?_;right;exact q
 |some i=>
  left;refine bb rfl ?_;right;refine bN e rfl rfl rfl ?_;right;refine ae aS z p2 rfl rfl ?_;left;refine aF (vs':=[_,_]) rfl ?_;obtain ⟨h,t,l,w,s,m⟩:=x;refine FK ro nofun z p2 ?_;right;have q:Q (.int (if i=m then 1+n else 1)) H:=q;refine bM (λh0=>?_) (λh0=>?_)
  ·rw[if_pos h0] at q;right;refine bN e rfl rfl rfl ?_;right;exact q
  ·rw[if_neg h0] at q;right;exact q
inductive Rw where
 |lg (w:Wd)
 |sp (s:Sp)
 |hop (n:Int) (o:Option Int)
abbrev Rw.tl:Rw->List V
 | .lg w=>[.str w.s]
 | .sp s=>s.tl
 | .hop n o=>[.str "hop",.int n,oV o]
abbrev Rw.ok:Rw->Prop
 | .lg _=>True
 | .sp s=>s.ok
 | .hop n o=>(0<=n/\n<=24)/\IY o
abbrev Rw.cl:Rw->Nat
 | .lg w=>w.cl
 | .sp s=>s.cl
 | .hop _ _=>kM
abbrev ao (R:Rt)(d:Addr):Rw->aw
 | .lg w=>dd R d w.cl
 | .sp s=>sd R d s
 | .hop n o=>EE R d n o
abbrev Rw.fs:Rw->List Str
 | .lg _=>[]
 | .sp s=>s.fs.map (·.1)
 | .hop _ _=>["many","on"]
def BP (r:Rw):Ob R (ao R d r) d r.cl r.fs:=by
 cases r with
 |lg w=>exact F6
 |sp s=>exact Gy
 |hop n o=>exact FN
variable {r:Rw}
def Bq (z:Sep O H)(p:ag (ao R d r) O Δ):∃ dx fs,H d=some (.ins (R.cad r.cl) dx fs):=by
 obtain ⟨D,k,D1,D2,s1,s2,dj,h1,h2⟩:=z.pull p;obtain ⟨dx,fs,e,_⟩:=BP r H D1 h1;exact ⟨dx,fs,e⟩
inductive eK where
 |on (r:Int) (x:Bx) (cs:List Int)
 |no (d:Str) (c:Int)
 |nf (b:Bn) (i:Int)
abbrev ofM:Out->eK
 | .on r x cs=>.on r x cs
 | .no d c=>.no d c
abbrev sX:qC->eK
 | .on x cs=>.on 1 x cs
 | .no d c=>.no d c
 | .nf b i=>.nf b i
abbrev aU (x:Bx)(cs:List Int)(ws:List Str):Rw->eK
 | .lg w=>ofM (gY w x cs ws)
 | .sp s=>sX (iJ x cs ws s)
 | .hop n o=>.on (Ec n o x.m) x cs
def ud {cs:List Int}(ro:Ro K R)(hk:5<=k)(z:Sep O H)(p:ag (yk R a cs ws) O Δ)(q:∀ c H',Sep (yk R c cs ws::O) H'->Q (.ref c) H'):aa tab R k jI [.ref a] H Q E:=by
 refine wc (d:=dW) nofun rfl rfl ?_;have ok:=Cf z p;right;rename_i l H1 z1;intro c dx g1 g2 g3;refine rf (cs:=[0]) ro nofun (by decide) (by decide) (λi hi=>by rw[mem_singleton.mp hi];decide) (bP z1 g1 g2 g3) .here (λH2 z2=>⟨rfl,?_⟩);obtain ⟨_,z3⟩:=w8 z2;obtain ⟨dx1,c1,d1,z4⟩:=nD z3;obtain ⟨_,z5⟩:=w8 (z4.pull (.there (.there (.there (.there (.there p))))));obtain ⟨dx2,c2,d2,z6⟩:=nD z5;clear z1 z2 z3 z4 z5;right;rename_i l3 H3 z7 H4 z8 l5 H5 z9 H6 z10;refine q c H6 ?_;have z11:Sep (pt c (.ins (R.cad aX) dx1 [("contents",.ref l3),("permits",.ref l5)])::pt dx1 (.own c)::pt l3 (.lst (cs.map V.int))::pt l5 (.lst (ws.map V.str))::pt a (.ins (R.cad aX) dx2 [("contents",.ref c2),("permits",.ref d2)])::pt dx2 (.own a)::pt c2 (.lst (cs.map V.int))::pt d2 (.lst (ws.map V.str))::Δ) H6:=z10.sub (by ac_nf);have z12:=vA ok (jg z11);have z13:Sep (pt a (.ins (R.cad aX) dx2 [("contents",.ref c2),("permits",.ref d2)])::pt dx2 (.own a)::pt c2 (.lst (cs.map V.int))::pt d2 (.lst (ws.map V.str))::yk R c cs ws::Δ) H6:=z12.sub (by ac_nf);exact Sep.push (.there p) (vA ok (jg z13))
def ux {b:Addr}(ro:Ro K R)(hk:5<=k)(z:Sep O H)(p:ag (ay R b x) O Δ)(q:∀ c H',Sep (ay R c x::O) H'->Q (.ref c) H'):aa tab R k dO [.ref b] H Q E:=by
 obtain ⟨o,z2⟩:=dB (z.pull p);refine tJ ro hk z2 (λc H' z3=>q c H' ?_);have z4:=kD o z3;have z5:=kD o (z4.pull (.there .here));exact Sep.push (.there p) z5
abbrev tB (R:Rt)(m l s b:Addr)(at_:Int)(ds:List V):aw:=bx λdx:Addr=>[pt m (.ins (R.cad aP) dx [("deeds",.ref l),("store",.ref s),("boxes",.ref b),("at",.int at_)]),pt dx (.own m),pt l (.lst ds)]
def Cy {m s b:Addr}(z:Sep (tB R m l s b at_ ds::O) H):∃ dx,Sep (pt m (.ins (R.cad aP) dx [("deeds",.ref l),("store",.ref s),("boxes",.ref b),("at",.int at_)])::pt dx (.own m)::pt l (.lst ds)::O) H:=gf z
def As {m s b:Addr}(z:Sep (pt m (.ins (R.cad aP) dx [("deeds",.ref l),("store",.ref s),("boxes",.ref b),("at",.int at_)])::pt dx (.own m)::pt l (.lst ds)::O) H):Sep (tB R m l s b at_ ds::O) H:=fz dx z
def B8 {m s b:Addr}:Ob R (tB R m l s b at_ ds) m aP ["deeds","store","boxes","at"]:=by
 rintro H D ⟨dx,D1,D2,_,_,_,⟨_,h⟩,_⟩;exact ⟨dx,_,h,rfl⟩
abbrev Ei (R:Rt)(O:List aw)(ds:List V):Prop:=∀ v ∈ ds,∃ a r Δ,v=.ref a/\ag (ao R a r) O Δ
def rO (r:Rw):tab.oc.contains r.cl=true/\tab.sub.lookup (r.cl,C7)=some true:=by
 cases r with
 |lg w=>cases w<;>exact ⟨rfl,rfl⟩
 |sp s=>cases s<;>exact ⟨rfl,rfl⟩
 |hop n o=>exact ⟨rfl,rfl⟩
def gx (ro:Ro K R)(hk:1<=k)(h0:1<=ds.length)(h1:ds.length<=24)(z:Sep O H)(p:ag (pt l (.lst ds)) O Δ)(hd:Ei R O ds)(q:∀ H',Sep O H'->Q .non H'):aa tab R k ml [.ref l] H Q E:=by
 refine wc (d:=gb) nofun rfl rfl ?_;left;refine f9 (t:="list") (EM (z.get p)) rfl ?_;right;refine bU (z.get p) ?_;right;refine cC (λh=>?_) (λh=>absurd nofun h);left;simp only[ro.g_MOST_ROWS];right;refine cC (λh=>?_) (λh=>absurd nofun h);right;refine Cj (z.get p) ?_;refine mi (xs:=ds) (λj U H=>∃ u v,U=[some (.ref l),u,v]/\Sep O H) ?_ ?_ ?_ ?_
 ·exact ⟨none,none,rfl,z⟩
 ·rintro j U H ⟨u,v,rfl,hs⟩;exact hs.get p
 ·rintro j x T U H hx ⟨u,v,rfl,hs⟩ hT;obtain ⟨a,r,Δ',rfl,hp⟩:=hd x (mem_of_getElem? hx);have hs4:=hs.iA (xs:=[.int j,.ref a]) hT;obtain ⟨dx,fs,e⟩:=Bq hs4 (.there hp);left;refine ⟨T,_,rfl,.inl (bc.of hs4.atT),rfl,?_⟩;generalize upd H T _=H4 at hs4 e⊢;right;refine FP e (rO r).1 (b:=true) (rO r).2 ?_;right;exact ⟨_,_,rfl,hs4.drop⟩
 ·rintro U H ⟨u,v,rfl,hs⟩;exact q _ hs
def kb (hk:2<=k)(h0:0<=at_)(h1:at_<=n)(q:Q .non H):aa tab R k ke [.int at_,.int n] H Q E:=by
 refine wc (d:=eP) nofun rfl rfl ?_;right;refine aN (t:="int") nofun rfl ?_;right;refine cC (λh=>?_) (λh=>absurd h0 h);right;refine cC (λh=>?_) (λh=>absurd h1 h);right;exact q
def uB {m s b:Addr}{cs:List Int}(ro:Ro K R)(hk:6<=k)(n0:1<=ds.length)(n1:ds.length<=24)(h0:0<=at_)(h1:at_<=ds.length){Δl Δs Δb:List aw}(pl:ag (pt l (.lst ds)) O Δl)(ps:ag (yk R s cs ws) O Δs)(pb:ag (ay R b x) O Δb)(hd:Ei R O ds)
  (z:Sep (pt m (.ins (R.cad aP) dx [])::pt dx (.own m)::O) H) (q:∀ l2 s2 b2 H',Sep (tB R m l2 s2 b2 at_ ds::yk R s2 cs ws::ay R b2 x::O) H'->Q .non H'):aa tab R k fj [.ref m,.ref l,.ref s,.ref b,.int at_] H Q E:=by
 refine wc (d:=cg) nofun rfl rfl ?_;right;refine gx ro nofun n0 n1 z (.there (.there pl)) (λv hv=>by
  obtain ⟨a,r,Δ',e,hp⟩:=hd v hv;exact ⟨a,r,_,e,.there (.there hp)⟩) (λH1 z1=>?_)
 right;refine bU (z1.get (.there (.there pl))) ?_;right;refine kb nofun h0 h1 ?_;right;refine iY z1 (z1.get (.there (.there pl))) (λl2 H2 z2=>?_);right;rename_i H3 z3;refine ae vY z3 (.there (.there (.there ps))) rfl rfl ?_;left;refine ud ro nofun z3 (.there (.there (.there ps))) (λs2 H4 z4=>?_);right;rename_i H5 z5;refine ae aS z5 (.there (.there (.there (.there pb)))) rfl rfl ?_;left;refine ux ro nofun z5 (.there (.there (.there (.there pb)))) (λb2 H6 z6=>?_);right;rename_i H7 z7 H8 z8;refine q l2 s2 b2 H8 (As (dx:=dx) ?_);exact z8.sub (by ac_nf)
abbrev eK.bx (x:Bx):eK->Bx
 | .on _ x' _=>x'
 |_=>x
abbrev eK.cs (cs:List Int):eK->List Int
 | .on _ _ cs'=>cs'
 |_=>cs
abbrev Jx (t:Addr):eK->aw
 | .on r _ _=>tu t [.int r,.non]
 | .no d c=>bx λte:Addr=>[tu t [.non,.ref te],tu te [.str d,.int c]]
 | .nf b _=>bx λte:Addr=>[tu t [.non,.ref te],tu te [.str "fit",.str b.nm]]
abbrev cy (R:Rt)(O:List aw)(ds:List V)(rs:List Rw):Prop:=ds.length=rs.length/\∀ (i:Nat) (r:Rw),rs[i]? =some r->∃ a Δ,ds[i]? =some (V.ref a)/\ag (ao R a r) O Δ
variable {rs:List Rw}
def cy.more (h:cy R O ds rs):cy R (A::O) ds rs:=⟨h.1,λi r e=>by
 obtain ⟨a,Δ,e2,p⟩:=h.2 i r e;exact ⟨a,_,e2,.there p⟩⟩
def cy.all (h:cy R O ds rs):Ei R O ds:=λv hv=>by
 obtain ⟨i,hi⟩:=getElem?_of_mem hv;have hl:=(List.getElem?_eq_some_iff.mp hi).1;obtain ⟨a,Δ,e2,p⟩:=h.2 i _ (getElem?_eq_getElem (by rw[<-h.1];exact hl));rw[hi] at e2;cases e2;exact ⟨a,_,Δ,rfl,p⟩
structure IW where
 w:Str
 at_:Int
 x:Bx
 cs:List Int
abbrev mS (rs:List Rw)(at_:Int)(x:Bx)(cs:List Int)(ws:List Str):IW:=match rs[at_.toNat]? with
 |none=>⟨"end",at_,x,cs⟩
 |some r=>match aU x cs ws r with
  | .on n x' cs'=>⟨"on",min (at_+n) rs.length,x',cs'⟩
  |_=>⟨"stop",at_,x,cs⟩
section
variable {m l s b:Addr}{at_:Int}{ds:List V}{rs:List Rw}{x:Bx}{cs:List Int}{ws:List Str}
def zO (hk:1<=k)(z:Sep O H)(p:ag (tB R m l s b at_ ds) O Δ)(q:Q (.bl (decide (at_=ds.length))) H):aa tab R k iD [.ref m] H Q E:=by
 refine wc (d:=dw) nofun rfl rfl ?_;obtain ⟨dx,z1⟩:=Cy (z.pull p);right;have e:jT (.int at_) (.int (ds.length:Int))=decide (at_=(ds.length:Int)):=by
  show (at_ ==(ds.length:Int))=_
  by_cases h:at_=(ds.length:Int)
  ·rw[decide_eq_true h,beq_iff_eq];exact h
  ·rw[decide_eq_false h];simpa using h
 rw[e];exact q
end
def jq {l:Int}:fin l=0\/fin l=1:=by
 unfold fin
 split
 ·exact .inr rfl
 ·exact .inl rfl
abbrev idx (wd:Wd)(x:Bx):Int:=match wd with
 | .fill=>x.t
 | .shift=>if x.t<=x.h then x.h else x.h+x.l-1
 |_=>x.h
abbrev dir (wd:Wd)(x:Bx):Int:=match wd with
 | .shift=>if x.t<=x.h then 1 else -1
 | .turn=>1
 |_=>x.w
variable {x':Bx}
def wk {cs:List Int}{j r:Int}{f:List Int->Out}(h:hm cs ws i j f=.on r x' cs'):ah ws "look" i=true/\ah ws "put" j=true/\f (cs.set j.toNat (gt cs i))=.on r x' cs':=by
 unfold hm at h
 by_cases e:ah ws "look" i=true
 ·rw[if_pos e] at h
  by_cases e2:ah ws "put" j=true
  ·rw[if_pos e2] at h;exact ⟨e,e2,h⟩
  ·rw[if_neg e2] at h;cases h
 ·rw[if_neg e] at h;cases h
def xp {wd:Wd}{cs:List Int}{r:Int}(h:gY wd x cs ws=.on r x' cs'):
  (r=0\/r=1)/\x'.w=x.w/\(r=0->0<=idx wd x/\idx wd x<ws.length/\idx wd x'=idx wd x+dir wd x/\dir wd x'=dir wd x):=by
 obtain ⟨hh,t,l,w,s,m⟩:=x;cases wd
 ·have h:a9 ⟨hh,t,l,w,s,m⟩ cs ws=.on r x' cs':=h;unfold a9 at h;dsimp only at h
  split at h
  ·cases h;exact ⟨.inr rfl,rfl,λz=>by cases z⟩
  ·obtain ⟨m1,m2,h⟩:=wk h;cases h;exact ⟨jq,rfl,λ_=>⟨(ak m1).1,(ak m1).2,rfl,rfl⟩⟩
 ·have h:cA ⟨hh,t,l,w,s,m⟩ cs ws=.on r x' cs':=h;unfold cA at h;dsimp only at h
  split at h
  ·cases h;exact ⟨.inr rfl,rfl,λz=>by cases z⟩
  ·split at h
   ·rename_i m1;cases h;exact ⟨jq,rfl,λ_=>⟨(ak m1).1,(ak m1).2,rfl,rfl⟩⟩
   ·cases h
 ·have h:rZ ⟨hh,t,l,w,s,m⟩ cs ws=.on r x' cs':=h;unfold rZ at h;dsimp only at h
  split at h
  ·cases h;exact ⟨.inr rfl,rfl,λz=>by cases z⟩
  ·split at h
   ·rename_i m1
    split at h
    ·cases h;exact ⟨.inr rfl,rfl,λz=>by cases z⟩
    ·cases h;exact ⟨jq,rfl,λ_=>⟨(ak m1).1,(ak m1).2,rfl,rfl⟩⟩
   ·cases h
 ·have h:lX ⟨hh,t,l,w,s,m⟩ cs ws=.on r x' cs':=h;unfold lX at h;dsimp only at h
  split at h
  ·cases h;exact ⟨.inr rfl,rfl,λz=>by cases z⟩
  ·split at h
   ·rename_i m1
    split at h
    ·split at h
     ·cases h;exact ⟨jq,rfl,λ_=>⟨(ak m1).1,(ak m1).2,rfl,rfl⟩⟩
     ·cases h;exact ⟨.inr rfl,rfl,λz=>by cases z⟩
    ·cases h
   ·cases h
 ·have h:aT ⟨hh,t,l,w,s,m⟩ cs ws=.on r x' cs':=h;unfold aT at h;dsimp only at h
  split at h
  ·cases h;exact ⟨.inr rfl,rfl,λz=>by cases z⟩
  ·split at h
   ·rename_i e;obtain ⟨m1,m2,h⟩:=wk h;cases h;refine ⟨jq,rfl,λ_=>?_⟩;have g:=ak m1;unfold idx dir;dsimp only;rw[if_pos e,if_pos e,if_pos nofun,if_pos nofun];exact ⟨g.1,g.2,rfl,rfl⟩
   ·rename_i e;obtain ⟨m1,m2,h⟩:=wk h;cases h;refine ⟨jq,rfl,λ_=>?_⟩;have g:=ak m1;unfold idx dir;dsimp only;rw[if_neg e,if_neg e];exact ⟨g.1,g.2,by omega,rfl⟩
 ·have h:cB ⟨hh,t,l,w,s,m⟩ cs ws=.on r x' cs':=h;unfold cB at h;dsimp only at h
  split at h
  ·cases h;exact ⟨.inr rfl,rfl,λz=>by cases z⟩
  ·split at h
   ·cases h;exact ⟨.inr rfl,rfl,λz=>by cases z⟩
   ·unfold xm at h
    split at h
    ·rename_i m1
     split at h
     ·split at h
      ·split at h
       ·cases h;exact ⟨jq,rfl,λ_=>⟨(ak m1).1,(ak m1).2,rfl,rfl⟩⟩
       ·cases h
      ·cases h
     ·cases h
    ·cases h
def yC {cs:List Int}(ok:r.ok)(h:aU x cs ws r=.on n x' cs'):0<=n:=by
 cases r with
 |lg w=>
  have h:ofM (gY w x cs ws)=.on n x' cs':=h;cases e:gY w x cs ws with
  |no d c=>rw[e] at h;cases h
  |on r y ys=>
   rw[e] at h;cases h;rcases (xp e).1 with rfl|rfl<;>decide
 |hop m o=>
  cases h;have:=ok.1;cases o with
  |none=>show 0<=1+m;omega
  |some i=>
   show 0<=(if i=x.m then 1+m else 1)
   split<;>omega
 |sp s=>
  have h:sX (iJ x cs ws s)=.on n x' cs':=h;cases e:iJ x cs ws s with
  |on y ys=>rw[e] at h;cases h;decide
  |no d c=>rw[e] at h;cases h
  |nf b i=>rw[e] at h;cases h
def Gz {cs:List Int}(h0:0<=at_)(h1:at_<=rs.length)(hn:∀ r ∈ rs,Rw.ok r):0<=(mS rs at_ x cs ws).at_/\(mS rs at_ x cs ws).at_<=rs.length/\((mS rs at_ x cs ws).w="on"\/((mS rs at_ x cs ws).w="end"\/(mS rs at_ x cs ws).w="stop")/\(mS rs at_ x cs ws).at_=at_/\(mS rs at_ x cs ws).x=x/\(mS rs at_ x cs ws).cs=cs):=by
 unfold mS;cases e:rs[at_.toNat]? with
 |none=>exact ⟨h0,h1,.inr ⟨.inl rfl,rfl,rfl,rfl⟩⟩
 |some r=>
  have ok:=hn r (mem_of_getElem? e);dsimp only;cases ho:aU x cs ws r with
  |no d c=>exact ⟨h0,h1,.inr ⟨.inr rfl,rfl,rfl,rfl⟩⟩
  |nf b i=>exact ⟨h0,h1,.inr ⟨.inr rfl,rfl,rfl,rfl⟩⟩
  |on n x' cs'=>
   have hn0:0<=n:=yC ok ho;refine ⟨?_,?_,.inl rfl⟩
   ·show 0<=min (at_+n) (rs.length:Int)
    omega
   ·show min (at_+n) (rs.length:Int)<=rs.length
    omega
def uW {wd:Wd}{cs:List Int}{r:Int}(hx:0<=x.l)(h:gY wd x cs ws=.on r x' cs'):0<=x'.l/\cs'.length=cs.length:=by
 obtain ⟨hh,t,l,w,s,m⟩:=x;dsimp only at hx;cases wd<;>simp only[gY,a9,cA,rZ,lX,aT,cB,hm,xm] at h<;>repeat' (first|(cases h;exact ⟨by dsimp only;omega,by simp only[length_set]⟩)|(cases h;done)|split at h)
def wU:¬ (Str.ofString "end")=Str.ofString "on":=by decide+kernel
def fE:¬ (Str.ofString "stop")=Str.ofString "on":=by decide+kernel
abbrev vH (x:Bx):Prop:=x.w=1\/x.w= -1
def GO {b:Bn}(h:iI b i=true)(o:vH x):vH (x.p i b):=by
 cases b<;>first|exact o|skip
 have h:(i ==1||i == -1)=true:=h;have h:i=1\/i= -1:=by simpa using h
 exact h
def qW {cs:List Int}{b:Bn}(o:vH x)(h:dh x cs b i=.on x' cs'):vH x':=by
 unfold dh at h
 split at h
 ·rename_i e;cases h;exact GO e o
 ·cases h
def C6 {cs:List Int}{s:Sp}(o:vH x)(h:iJ x cs ws s=.on x' cs'):vH x':=by
 cases s with
 |set b i=>exact qW o h
 |add b i=>exact qW o h
 |take b c=>exact qW o h
 |read b=>
  have h:(if ah ws "look" x.h=true then dh x cs b (gt cs x.h) else .no "look" x.h)=.on x' cs':=h
  split at h
  ·exact qW o h
  ·cases h
 |write b=>
  have h:(if gM (.int (x.g b))=true then (if ah ws "put" x.t=true then qC.on x (cs.set x.t.toNat (x.g b)) else .no "put" x.t) else .nf b (x.g b))=.on x' cs':=h
  split at h
  ·split at h
   ·cases h;exact o
   ·cases h
  ·cases h
abbrev Jd (N:Nat)(x:Bx):Rw->Nat
 | .lg w=>min 61 (if dir w x=1 then (N:Int)-idx w x else idx w x+1).toNat
 |_=>0
def DI:Jd N x r<=61:=by
 cases r with
 |lg w=>exact Nat.min_le_left _ _
 |_=>exact Nat.zero_le _
abbrev sA (rs:List Rw)(N:Nat)(at_:Int)(x:Bx):Nat:=match rs[at_.toNat]? with
 |none=>0
 |some r=>(rs.length-at_.toNat)*62+Jd N x r
def uQ:sA rs N at_ x<=(rs.length-at_.toNat)*62+61:=by
 unfold sA
 split
 ·exact Nat.zero_le _
 ·have:=DI (N:=N) (x:=x) (r:=‹Rw›)
  omega
def An {w:Wd}(o:vH x):dir w x=1\/dir w x= -1:=by
 cases w<;>first|exact o|skip
 ·show (if x.t<=x.h then (1:Int) else -1)=1\/(if x.t<=x.h then (1:Int) else -1)= -1
  split<;>simp
 ·exact .inl rfl
def xJ {cs:List Int}(o:vH x)(h0:0<=at_)(hok:∀ r ∈ rs,Rw.ok r) (hN:ws.length<=60) (h:(mS rs at_ x cs ws).w="on"):sA rs ws.length (mS rs at_ x cs ws).at_ (mS rs at_ x cs ws).x<sA rs ws.length at_ x/\vH (mS rs at_ x cs ws).x:=by
 unfold mS at h⊢;cases e:rs[at_.toNat]? with
 |none=>rw[e] at h;exact absurd h wU
 |some r=>
  rw[e] at h;dsimp only at h⊢;have hlt:=(List.getElem?_eq_some_iff.mp e).1;have far:∀ {n:Int}{x':Bx},1<=n->sA rs ws.length (min (at_+n) (rs.length:Int)) x'<sA rs ws.length at_ x:=λ{n x'} hn=>by
   have h1:=uQ (rs:=rs) (N:=ws.length) (at_:=min (at_+n) (rs.length:Int)) (x:=x');have h2:(rs.length-at_.toNat)*62<=sA rs ws.length at_ x:=by unfold sA;rw[e];dsimp only;omega
   by_cases g:(min (at_+n) (rs.length:Int)).toNat<rs.length
   ·omega
   ·have:sA rs ws.length (min (at_+n) (rs.length:Int)) x'=0:=by unfold sA;rw[getElem?_eq_none nofun]
    omega
  cases ho:aU x cs ws r with
  |no d c=>rw[ho] at h;exact absurd h fE
  |nf b i=>rw[ho] at h;exact absurd h fE
  |on n x' cs'=>
   dsimp only;cases r with
   |sp s=>
    have ho:sX (iJ x cs ws s)=.on n x' cs':=ho;cases e2:iJ x cs ws s with
    |on y ys=>rw[e2] at ho;cases ho;exact ⟨far (by decide),C6 o e2⟩
    |no d c=>rw[e2] at ho;cases ho
    |nf b i=>rw[e2] at ho;cases ho
   |hop m oo=>
    have ok:=hok _ (mem_of_getElem? e);have:1<=Ec m oo x.m:=by
     have h1:=ok.1.1;cases oo with
     |none=>show 1<=1+m;omega
     |some i=>show 1<=(if i=x.m then 1+m else 1);split<;>omega
    cases ho;exact ⟨far this,o⟩
   |lg w=>
    have ho:ofM (gY w x cs ws)=.on n x' cs':=ho;cases e2:gY w x cs ws with
    |no d c=>rw[e2] at ho;cases ho
    |on r2 y ys=>
     rw[e2] at ho;cases ho;obtain ⟨g1,g2,g3⟩:=xp e2;have ow:vH x':=by unfold vH;rw[g2];exact o
     rcases g1 with rfl|rfl
     ·obtain ⟨i0,i1,i2,i3⟩:=g3 rfl;refine ⟨?_,ow⟩;rw[show min (at_+0) (rs.length:Int)=at_ by omega];unfold sA;rw[e];show _+min 61 (if dir w x'=1 then (ws.length:Int)-idx w x' else idx w x'+1).toNat<_+min 61 (if dir w x=1 then (ws.length:Int)-idx w x else idx w x+1).toNat;rw[i3,i2];rcases An (w:=w) o with d|d
      ·rw[d,if_pos rfl,if_pos rfl];omega
      ·rw[d,if_neg (by decide),if_neg (by decide)];omega
     ·exact ⟨far (by decide),ow⟩
def aG {A:aw}:∀ {L O Δ:List aw},ag A O Δ->ag A (L++O) (L++Δ)
 | [],_,_,h=>h
 |B::L,_,_,h=>.there (aG h)
def cJ {α:Type}{f:α->aw}{x:α}:∀ {l:List α},x ∈ l->∃ Δ,∀ O,ag (f x) (l.map f++O) (Δ++O)
 |y::l,h=>by
  rcases mem_cons.mp h with rfl|h
  ·exact ⟨l.map f,λO=>.here⟩
  ·obtain ⟨Δ,hp⟩:=cJ (f:=f) h;exact ⟨f y::Δ,λO=>.there (hp O)⟩
abbrev uI (j:Int):List V:=if j<0 then [.str "cell",.int (-1-j)] else [.str "number",.int j]
abbrev uq (v:V)(j:Int)(H:Hp):Prop:=∃ t,v=.ref t/\H t=some (.tup (uI j))
abbrev cG (vs:List V)(cs:List Int):aw:=⟨λH _=>vs.length=cs.length/\∀ (i:Nat) v j,vs[i]? =some v->cs[i]? =some j->uq v j H,λH H' D h _ g=>⟨h.1,λi v j e1 e2=>let ⟨t,e,ht⟩:=h.2 i v j e1 e2;⟨t,e,g.tup ht⟩⟩,λH D D' h _=>h⟩
def cG.of {cs:List Int}(s:Sep (cG vs cs::O) H):vs.length=cs.length/\∀ (i:Nat) v j,vs[i]? =some v->cs[i]? =some j->uq v j H:=let ⟨D,k,D1,D2,s1,s2,dj,h1,h2⟩:=s;h1
def cG.mk {cs:List Int}(h:vs.length=cs.length)(h2:∀ (i:Nat) v j,vs[i]? =some v->cs[i]? =some j->uq v j H) (s:Sep O H):Sep (cG vs cs::O) H:=s.free λ_=>⟨h,h2⟩
abbrev Bg (v:V)(j:Int):aw:=⟨λH _=>uq v j H,λH H' D h _ g=>let ⟨t,e,ht⟩:=h;⟨t,e,g.tup ht⟩,λH D D' h _=>h⟩
def Bg.of {j:Int}(s:Sep (Bg v j::O) H):uq v j H:=let ⟨D,k,D1,D2,s1,s2,dj,h1,h2⟩:=s;h1
def Bg.mk {j:Int}(h:uq v j H)(s:Sep O H):Sep (Bg v j::O) H:=s.free λ_=>h
def cG.set {cs:List Int}{i:Nat}{j:Int}(s:Sep (cG vs cs::O) H)(h:uq v j H):Sep (cG (vs.set i v) (cs.set i j)::O) H:=by
 obtain ⟨h1,h2⟩:=cG.of s;refine cG.mk (by rw[length_set,length_set];exact h1) (λn w c e1 e2=>?_) s.drop;rw[getElem?_set] at e1 e2
 by_cases e:i=n
 ·rw[if_pos e] at e1 e2
  split at e1
  ·split at e2
   ·cases e1;cases e2;exact h
   ·cases e2
  ·cases e1
 ·rw[if_neg e] at e1 e2;exact h2 n w c e1 e2
def cG.snoc {cs:List Int}{j:Int}(s:Sep (cG vs cs::O) H)(h:uq v j H):Sep (cG (vs++[v]) (cs++[j])::O) H:=by
 obtain ⟨h1,h2⟩:=cG.of s;refine cG.mk (by rw[length_append,length_append,h1];rfl) (λn w c e1 e2=>?_) s.drop
 by_cases e:n<vs.length
 ·rw[getElem?_append_left e] at e1;rw[getElem?_append_left nofun] at e2;exact h2 n w c e1 e2
 ·rw[getElem?_append_right nofun] at e1;rw[getElem?_append_right nofun,<-h1] at e2;cases g:n-vs.length with
  |zero=>rw[g] at e1 e2;cases e1;cases e2;exact h
  |succ=>rw[g] at e1;cases e1
abbrev DB (cs:List Int)(ws:List Str):Prop:=cs.length=ws.length/\1<=cs.length/\cs.length<=60/\ws=List.replicate ws.length (Str.ofString "open")
abbrev bQ (R:Rt)(a:Addr)(cs:List Int)(ws:List Str):aw:=bx λp:Addr×Addr×List V=>[pt a (.ins (R.cad aQ) p.1 [("sources",.ref p.2.1)]),pt p.1 (.own a),pt p.2.1 (.lst p.2.2),cG p.2.2 cs,pu (p.2.2.length=cs.length/\DB cs ws)]
section
variable {a:Addr}{cs cs':List Int}{ws:List Str}{i:Int}
def nB (z:Sep (bQ R a cs ws::O) H):∃ dx l vs,(vs.length=cs.length/\DB cs ws)/\Sep (pt a (.ins (R.cad aQ) dx [("sources",.ref l)])::pt dx (.own a)::pt l (.lst vs)::cG vs cs::O) H:=by
 obtain ⟨⟨dx,l,vs⟩,z⟩:=gf z;have z:Sep (pt a (.ins (R.cad aQ) dx [("sources",.ref l)])::pt dx (.own a)::pt l (.lst vs)::cG vs cs::pu (vs.length=cs.length/\DB cs ws)::O) H:=z;exact ⟨dx,l,vs,(z.drop.drop.drop.drop).pure,z.sub (by ac_nf)⟩
def BJ (h:vs.length=cs.length)(o:DB cs ws)(z:Sep (pt a (.ins (R.cad aQ) dx [("sources",.ref l)])::pt dx (.own a)::pt l (.lst vs)::cG vs cs::O) H):Sep (bQ R a cs ws::O) H:=by
 refine fz (dx,l,vs) ?_;have z2:Sep (pt a (.ins (R.cad aQ) dx [("sources",.ref l)])::pt dx (.own a)::pt l (.lst vs)::cG vs cs::pu (vs.length=cs.length/\DB cs ws)::O) H:=Sep.push (.there (.there (.there (.there .here)))) (Sep.vh ⟨h,o⟩ z);exact z2
def l9 (z:Sep O H)(p:ag (bQ R a cs ws) O Δ):DB cs ws:=by
 obtain ⟨_,_,_,h,_⟩:=nB (z.pull p);exact h.2
def bF:Ob R (bQ R a cs ws) a aQ ["sources"]:=by
 rintro H D ⟨⟨dx,l,vs⟩,D1,D2,_,_,_,⟨_,h⟩,_⟩;exact ⟨dx,_,h,rfl⟩
def B9 {d:Str}(h:ws=List.replicate ws.length (Str.ofString "open")):ah ws d i=(decide (0<=i)&&decide (i<ws.length)):=by
 unfold ah
 by_cases h0:0<=i
 ·by_cases h1:i<ws.length
  ·rw[decide_eq_true h0,decide_eq_true h1,Bool.true_and,Bool.true_and,h,getElem?_replicate,if_pos nofun];show (if Str.ofString "open"=Str.ofString "look" then d =="look" else Str.ofString "open" ==Str.ofString "open")=true;rw[if_neg (by decide+kernel)];simp
  ·rw[decide_eq_false h1];simp
 ·rw[decide_eq_false h0];simp
def p9 {d:Str}(hk:1<=k)(z:Sep O H)(p:ag (bQ R a cs ws) O Δ)(q:Q (.bl (ah ws d i)) H):aa tab R k kf [.ref a,.str d,.int i] H Q E:=by
 obtain ⟨dx,l,vs,⟨h1,h2,h3,h4,h5⟩,z1⟩:=nB (z.pull p);refine wc (d:=eU) nofun rfl rfl ?_;rw[B9 h5] at q;right;refine cC (λe=>?_) (λe=>?_)
 ·rw[decide_eq_true e,Bool.true_and] at q;right;rw[show (vs.length:Int)=ws.length by omega];exact q
 ·rw[decide_eq_false e] at q;right;exact q
def lh (hk:3<=k)(z:Sep O H)(p:ag (bQ R a cs ws) O Δ)(q0:ah ws "look" i=true->∀ v,uq v (gt cs i) H->Q v H)
  (q1:ah ws "look" i=false->∀ e H',Sep (jV (R.cad aL) [("deed",.str "look"),("cell",.int i)] e false::O) H'->E e H'):aa tab R k i6 [.ref a,.int i] H Q E:=by
 obtain ⟨dx,l,vs,⟨h1,h2,h3,h4,h5⟩,z1⟩:=nB (z.pull p);refine wc (d:=dS) nofun rfl rfl ?_;right;refine ae bF z p rfl rfl ?_;left;refine p9 nofun z p ?_;right;refine gC (λhm=>?_) (λhm=>?_)
 ·have hin:=ak hm;have e:vs[i.toNat]? =some (vs[i.toNat]'nofun):=getElem?_eq_getElem _;right;refine iO (by grind) (c6 hin.1 e) ?_;exact q0 hm _ ((cG.of (z1.pull (.there (.there (.there .here))))).2 _ _ _ e (by unfold gt;rw[getElem?_eq_getElem nofun];rfl))
 ·right;intro x hx;refine dZ nofun (z.new hx) (λd H hs=>?_);right;exact dM hs (by ac_rfl) rfl (λH hs=>q1 hm x H (hE hs))
def y9 {d:Str}{G:Gx}(hk:1<=k)(z:Sep O H)(q:∀ e H',Sep (jV (R.cad aL) [("deed",.str d),("cell",.int i)] e false::O) H'->E e H'):∀ e,H e=none->aa tab R k dy [.ref e,.str d,.int i] (upd H e (.exc (R.cad aL) none [] true)) (λv H2=>v=.non/\∃ a i dx fs,V.ref e=.ref a/\H2 a=some (.exc (R.cad i) dx fs true)/\tab.xc.contains i=true/\E a (upd H2 a (.exc (R.cad i) dx fs false))) E:=λe he=>by
 refine dZ nofun (z.new he) (λd H3 hs3=>⟨rfl,?_⟩);exact dM (G:=⟨tab,R,aa tab R k,true⟩) hs3 .here rfl (λH4 hs4=>q e H4 (hE hs4))
abbrev IK (v:V)(j:Int)(H:Hp):Prop:=uq v j H\/(v=.int j/\0<=j)
def jB {j:Int}(hk:3<=k)(z:Sep O H)(r:bw (bQ R a cs ws) (bQ R a (cs.set i.toNat j) ws) O Γ')(hv:IK v j H)(q0:ah ws "put" i=true->∀ H',Sep Γ' H'->Q .non H')
  (q1:ah ws "put" i=false->∀ e H',Sep (jV (R.cad aL) [("deed",.str "put"),("cell",.int i)] e false::O) H'->E e H'):aa tab R k j9 [.ref a,.int i,v] H Q E:=by
 obtain ⟨Δ,p1,p2⟩:=r.bK;obtain ⟨dx,l,vs,⟨h1,h2,h3,h4,h5⟩,z1⟩:=nB (z.pull p1);refine wc (d:=eZ) nofun rfl rfl ?_;right;refine ae bF z p1 rfl rfl ?_;left;refine p9 nofun z p1 ?_;right;refine gC (λhm=>?_) (λhm=>?_)
 ·have hin:=ak hm;have fin:∀ {v:V}{H:Hp},uq v j H->Sep (pt a (.ins (R.cad aQ) dx [("sources",.ref l)])::pt dx (.own a)::pt l (.lst vs)::cG vs cs::Δ) H->nZ ⟨tab,R,aa tab R (k-1),true⟩ "sources" (.ref a) H (λov H2=>mr ov (.int i) v H2 (λH4=>Q .non H4)):=λ{v H} ht zz=>by
   refine bN zz.at rfl rfl rfl ?_;refine vQ (i:=i) (Bg.mk ht zz) (.there (.there (.there .here))) (vD hin.1 nofun) rfl (λH4 z4=>?_);refine q0 hm H4 (Sep.push p2 (BJ (dx:=dx) (l:=l) (vs:=vs.set i.toNat v) (by rw[length_set,length_set];exact h1) ⟨by rw[length_set];omega,by rw[length_set];omega,by rw[length_set];omega,h5⟩ ?_));have e1:=Bg.of z4;have z5:=cG.set (i:=i.toNat) (z4.pull (.there (.there (.there (.there .here))))) e1;exact z5.sub (by ac_nf)
  rcases hv with ht|⟨rfl,hj⟩
  ·obtain ⟨t,rfl,ht2⟩:=ht;left;refine f9 (Hr ht2) (b:=true) rfl ?_;left;refine bt rfl ?_;exact fin ⟨t,rfl,ht2⟩ z1
  ·left;refine f9 (t:="int") rfl (b:=false) rfl ?_;left;refine bb rfl ?_;left;refine az z1 (Nat.le_of_ble_eq_true rfl) (λT H2 z2=>?_);exact fin ⟨T,rfl,by rw[uI,if_neg nofun];exact z2.at⟩ z2.drop
 ·right;exact y9 (G:=⟨tab,R,aa tab R (k-1),true⟩) nofun z (q1 hm)
end
section
variable {b a:Addr}{h t l w s m i j by':Int}{cs:List Int}{ws:List Str}
def qc (hk:4<=k)(z:Sep O H)(r:bw (bQ R a cs ws) (bQ R a (cs.set j.toNat (gt cs i)) ws) O Γ')(q0:ah ws "look" i=true->ah ws "put" j=true->∀ H',Sep Γ' H'->Q .non H')
  (q1:ah ws "look" i=false->∀ e H',Sep (jV (R.cad aL) [("deed",.str "look"),("cell",.int i)] e false::O) H'->E e H')
  (q2:ah ws "look" i=true->ah ws "put" j=false->∀ e H',Sep (jV (R.cad aL) [("deed",.str "put"),("cell",.int j)] e false::O) H'->E e H'):aa tab R k D9 [.ref a,.int i,.int j] H Q E:=by
 obtain ⟨Δ,p1,p2⟩:=r.bK;refine wc (d:=v7) nofun rfl rfl ?_;right;refine ae bF z p1 rfl rfl ?_;left;refine lh nofun z p1 (λhm v tv=>?_) q1;right;refine ae bF z p1 rfl rfl ?_;left;refine jB (j:=gt cs i) nofun z r (.inl tv) (λhp H1 z1=>?_) (q2 hm);right;exact q0 hm hp H1 z1
def kQ (hk:3<=k)(z:Sep O H)(p:ag (bQ R a cs ws) O Δ)(q0:ah ws "put" i=true->Q .non H)
  (q1:ah ws "put" i=false->∀ e H',Sep (jV (R.cad aL) [("deed",.str "put"),("cell",.int i)] e false::O) H'->E e H'):aa tab R k t9 [.ref a,.int i] H Q E:=by
 refine wc (d:=kX) nofun rfl rfl ?_;right;refine ae bF z p rfl rfl ?_;left;refine p9 nofun z p ?_;right;refine gC (λhm=>?_) (λhm=>?_)
 ·right;exact q0 hm
 ·right;intro x hx;refine dZ nofun (z.new hx) (λd H hs=>?_);right;exact dM hs (by ac_rfl) rfl (λH hs=>q1 hm x H (hE hs))
def qz {Γf:Int->Int->List aw}(hk:4<=k)(z:Sep O H)(r:∀ v w:Int,∃ Γ1,bw (bQ R a cs ws) (bQ R a (cs.set i.toNat v) ws) O Γ1/\bw (bQ R a (cs.set i.toNat v) ws) (bQ R a ((cs.set i.toNat v).set j.toNat w) ws) Γ1 (Γf v w)) (q0:ah ws "look" i=true->ah ws "look" j=true->ah ws "put" i=true->ah ws "put" j=true->∀ H',Sep (Γf (gt cs j) (gt cs i)) H'->Q .non H')
  (q1:ah ws "look" i=false->∀ e H',Sep (jV (R.cad aL) [("deed",.str "look"),("cell",.int i)] e false::O) H'->E e H')
  (q2:ah ws "look" i=true->ah ws "look" j=false->∀ e H',Sep (jV (R.cad aL) [("deed",.str "look"),("cell",.int j)] e false::O) H'->E e H')
  (q3:ah ws "look" i=true->ah ws "look" j=true->ah ws "put" i=false->∀ e H',Sep (jV (R.cad aL) [("deed",.str "put"),("cell",.int i)] e false::O) H'->E e H')
  (q4:ah ws "look" i=true->ah ws "look" j=true->ah ws "put" i=true->ah ws "put" j=false->∀ e H',Sep (jV (R.cad aL) [("deed",.str "put"),("cell",.int j)] e false::O) H'->E e H'):aa tab R k pF [.ref a,.int i,.int j] H Q E:=by
 obtain ⟨Γ1,r1,r2⟩:=r (gt cs j) (gt cs i);obtain ⟨Δ,p1,p2⟩:=r1.bK;obtain ⟨Δ2,p3,p4⟩:=r2.bK;refine wc (d:=ja) nofun rfl rfl ?_;right;refine ae bF z p1 rfl rfl ?_;left;refine lh nofun z p1 (λh1 v1 tv1=>?_) q1;right;refine ae bF z p1 rfl rfl ?_;left;refine lh nofun z p1 (λh2 v2 tv2=>?_) (q2 h1);right;refine kQ nofun z p1 (λh3=>?_) (q3 h1 h2);right;refine kQ nofun z p1 (λh4=>?_) (q4 h1 h2 h3);right;refine ae bF z p1 rfl rfl ?_;left;refine jB (j:=gt cs j) nofun (Bg.mk tv1 z) (.there r1) (.inl tv2) (λhp H1 z1=>?_) (λhp=>absurd (h3.symm.trans hp) (by decide));have tv3:=Bg.of z1;have z1:=z1.drop;right;refine ae bF z1 p3 rfl rfl ?_;left;refine jB (j:=gt cs i) nofun z1 r2 (.inl tv3) (λhp H2 z2=>?_) (λhp=>absurd (h4.symm.trans hp) (by decide));right;exact q0 h1 h2 h3 h4 H2 z2
abbrev m8 (R:Rt)(b a:Addr)(x:Bx)(cs:List Int)(ws:List Str)(O:List aw)(Q:VK)(E:XK):Out->Prop
 | .on r x' cs'=>∀ H',Sep (ay R b x'::bQ R a cs' ws::O) H'->Q (.int r) H'
 | .no d c=>∀ e H',Sep (jV (R.cad aL) [("deed",.str d),("cell",.int c)] e false::ay R b x::bQ R a cs ws::O) H'->E e H'
def wX (ro:Ro K R)(hk:7<=k)(z:Sep (ay R b x::bQ R a cs ws::O) H)(q:m8 R b a x cs ws O Q E (aT x cs ws)):aa tab R k fR [v,.ref b,.ref a] H Q E:=by
 have ok:=ky z .here;have sk:=l9 z (.there .here);obtain ⟨h,t,l,w,s,m⟩:=x;obtain ⟨⟨o1,o2⟩,⟨o3,o4⟩,⟨o5,o6⟩,o7⟩:=ok;dsimp only at o1 o2 o3 o4 o5 o6;obtain ⟨s1,s2,s3,s4⟩:=sk;refine wc (d:=fH) nofun rfl rfl ?_;walk_at "ws";refine bM (λe=>?_) (λe=>?_)
 ·walk_at "ws";rw[aT,if_pos e] at q;exact q H z
 rw[aT,if_neg e] at q;walk_at "ws";refine cC (λe2=>?_) (λe2=>?_)
 ·rw[if_pos e2] at q;walk_at "ws";refine qc nofun z (.there .here) (λh1 h2 H1 z1=>?_) (λh1=>?_) (λh1 h2=>?_)
  ·have g1:=ak h1;have g2:=ak h2;rw[hm,if_pos h1,if_pos h2] at q;walk_at "ws";refine Eb ro nofun z1 .here nofun (λH2 z2=>?_);walk_at "ws";refine GF ro nofun z2 .here nofun (λH3 z3=>?_);walk_at "ws";exact tP ro nofun z3 .here nofun (λH4 z4=>q H4 z4)
  ·rw[hm,if_neg (by rw[h1];decide)] at q;exact q
  ·rw[hm,if_pos h1,if_neg (by rw[h2];decide)] at q;exact q
 ·rw[if_neg e2] at q;walk_at "ws";refine qc nofun z (.there .here) (λh1 h2 H1 z1=>?_) (λh1=>?_) (λh1 h2=>?_)
  ·rw[hm,if_pos h1,if_pos h2] at q;walk_at "ws";exact tP ro nofun z1 .here nofun (λH4 z4=>q H4 z4)
  ·rw[hm,if_neg (by rw[h1];decide)] at q;exact q
  ·rw[hm,if_pos h1,if_neg (by rw[h2];decide)] at q;exact q
def Ae (ro:Ro K R)(hk:7<=k)(z:Sep (ay R b x::bQ R a cs ws::O) H)(q:m8 R b a x cs ws O Q E (cB x cs ws)):aa tab R k g5 [v,.ref b,.ref a] H Q E:=by
 have ok:=ky z .here;have sk:=l9 z (.there .here);obtain ⟨h,t,l,w,s,m⟩:=x;obtain ⟨⟨o1,o2⟩,⟨o3,o4⟩,⟨o5,o6⟩,o7⟩:=ok;dsimp only at o1 o2 o3 o4 o5 o6;obtain ⟨s1,s2,s3,s4⟩:=sk;refine wc (d:=hV) nofun rfl rfl ?_;walk_at "ws";refine bM (λe=>?_) (λe=>?_)
 ·walk_at "ws";rw[cB,if_pos e] at q;exact q H z
 rw[cB,if_neg e] at q;walk_at "ws";refine bM (λe2=>?_) (λe2=>?_)
 ·rw[if_pos e2] at q;walk_at "ws";refine tP ro nofun z .here nofun (λH4 z4=>?_);subst e2;exact q H4 z4
 ·rw[if_neg e2] at q;walk_at "ws";refine qz (Γf:=λv w'=>ay R b ⟨h,t,l,w,s,m⟩::bQ R a ((cs.set h.toNat v).set (h+l-1).toNat w') ws::O) nofun z (λv w=>⟨_,.there .here,.there .here⟩) (λh1 h2 h3 h4 H1 z1=>?_) (λh1=>?_) (λh1 h2=>?_) (λh1 h2 h3=>?_) (λh1 h2 h3 h4=>?_)
  ·have g1:=ak h1;rw[xm,if_pos h1,if_pos h2,if_pos h3,if_pos h4] at q;walk_at "ws";refine Eb ro nofun z1 .here nofun (λH2 z2=>?_);walk_at "ws";exact tP ro nofun z2 .here nofun (λH4 z4=>q H4 z4)
  ·rw[xm,if_neg (by rw[h1];decide)] at q;exact q
  ·rw[xm,if_pos h1,if_neg (by rw[h2];decide)] at q;exact q
  ·rw[xm,if_pos h1,if_pos h2,if_neg (by rw[h3];decide)] at q;exact q
  ·rw[xm,if_pos h1,if_pos h2,if_pos h3,if_neg (by rw[h4];decide)] at q;exact q
def AY (ro:Ro K R)(hk:8<=k)(z:Sep (ay R b x::bQ R a cs ws::O) H)(q:m8 R b a x cs ws O Q E (a9 x cs ws)):aa tab R k hJ [v,.ref b,.ref a] H Q E:=by
 have ok:=ky z .here;have sk:=l9 z (.there .here);obtain ⟨h,t,l,w,s,m⟩:=x;obtain ⟨⟨o1,o2⟩,⟨o3,o4⟩,⟨o5,o6⟩,o7,o8⟩:=ok;dsimp only at o1 o2 o3 o4 o5 o6 o7;obtain ⟨s1,s2,s3,s4⟩:=sk;refine wc (d:=g7) nofun rfl rfl ?_;walk_at "ws";refine bM (λe=>?_) (λe=>?_)
 ·walk_at "ws";rw[a9,if_pos e] at q;exact q H z
 rw[a9,if_neg e] at q;walk_at "ws";refine qc nofun z (.there .here) (λh1 h2 H1 z1=>?_) (λh1=>?_) (λh1 h2=>?_)
 ·have g1:=ak h1;have g2:=ak h2;rw[hm,if_pos h1,if_pos h2] at q;walk_at "ws";refine HY ro nofun z1 .here nofun (λH2 z2=>?_);walk_at "ws";refine EV ro nofun z2 .here nofun (λH3 z3=>?_);walk_at "ws";exact tP ro nofun z3 .here nofun (λH4 z4=>q H4 z4)
 ·rw[hm,if_neg (nt h1)] at q;exact q
 ·rw[hm,if_pos h1,if_neg (nt h2)] at q;exact q
def yE (ro:Ro K R)(hk:8<=k)(z:Sep (ay R b x::bQ R a cs ws::O) H)(q:m8 R b a x cs ws O Q E (cA x cs ws)):aa tab R k iz [v,.ref b,.ref a] H Q E:=by
 have ok:=ky z .here;have sk:=l9 z (.there .here);obtain ⟨h,t,l,w,s,m⟩:=x;obtain ⟨⟨o1,o2⟩,⟨o3,o4⟩,⟨o5,o6⟩,o7,o8,o9⟩:=ok;dsimp only at o1 o2 o3 o4 o5 o6 o7 o8;obtain ⟨s1,s2,s3,s4⟩:=sk;refine wc (d:=iy) nofun rfl rfl ?_;walk_at "ws";refine bM (λe=>?_) (λe=>?_)
 ·walk_at "ws";rw[cA,if_pos e] at q;exact q H z
 rw[cA,if_neg e] at q;walk_at "ws";refine ae bF z (.there .here) rfl rfl ?_;walk_at "ws";refine jB (j:=s) nofun z (.there .here) (.inr ⟨rfl,by have:=o8.1;omega⟩) (λh2 H1 z1=>?_) (λh2=>?_)
 ·have g2:=ak h2;rw[if_pos h2] at q;walk_at "ws";refine EV ro nofun z1 .here nofun (λH3 z3=>?_);walk_at "ws";exact tP ro nofun z3 .here nofun (λH4 z4=>q H4 z4)
 ·rw[if_neg (nt h2)] at q;exact q
end
abbrev dr (R:Rt)(b a:Addr)(x:Bx)(cs:List Int)(ws:List Str)(O:List aw)(Q:VK)(E:XK):qC->Prop
 | .on x' cs'=>∀ H',Sep (ay R b x'::bQ R a cs' ws::O) H'->Q (.int 1) H'
 | .no d c=>∀ e H',Sep (jV (R.cad aL) [("deed",.str d),("cell",.int c)] e false::ay R b x::bQ R a cs ws::O) H'->E e H'
 | .nf n i=>∀ e H',Sep (jV (R.cad bV) [("box",.str n.nm),("number",.int i)] e false::ay R b x::bQ R a cs ws::O) H'->E e H'
def lU {b:Addr}{cs:List Int}{n:Bn}(ro:Ro K R)(hk:4<=k)(z:Sep (ay R b x::bQ R a cs ws::O) H)(q:dr R b a x cs ws O (λ_=>Q .non) E (dh x cs n i)):aa tab R k aA [.ref b,.str n.nm,.int i] H Q E:=by
 unfold dh at q;refine HX ro hk z (λh H' z'=>?_) (λh e H' z'=>?_)
 ·rw[if_pos h] at q;exact q H' z'
 ·rw[if_neg (by rw[h];exact Bool.false_ne_true)] at q;exact q e H' z'
def dr.imp {b:Addr}{cs:List Int}{Q':VK}(h:∀ H',Q (.int 1) H'->Q' (.int 1) H'):∀ {o:qC},dr R b a x cs ws O Q E o->dr R b a x cs ws O Q' E o
 | .on _ _,q=>λH' z=>h _ (q H' z)
 | .no _ _,q=>q
 | .nf _ _,q=>q
def wY (sp:Sp)(hb:∀ n,sp≠.read n) (ro:Ro K R):∃ f,tab.me.lookup (sp.cl,("step":Str))=some f/\(∀ Ψ,dflt ⟨tab,R,Ψ,true⟩ f 3=[])/\∀ {k:Nat}{de b a:Addr}{x:Bx}{cs:List Int}{ws:List Str}{O:List aw}{H:Hp}{Q:VK}{E:XK},5<=k->Sep (ay R b x::bQ R a cs ws::sd R de sp::O) H->dr R b a x cs ws (sd R de sp::O) Q E (iJ x cs ws sp)->aa tab R k f [.ref de,.ref b,.ref a] H Q E:=by
 cases sp with
 |set n i=>
  refine ⟨qK,rfl,λ_=>rfl,λ{k de b a x cs ws O H Q E} hk z q=>wc (d:=jc) nofun rfl rfl ?_⟩;obtain ⟨dx,e⟩:=rY z (by symm);right;refine ae aS z (by symm) rfl rfl ?_;left;refine bN e rfl rfl rfl ?_;left;refine bN e rfl rfl rfl ?_;left;refine aF (vs':=[_,_,_]) rfl ?_;exact lU ro nofun z (dr.imp (Q:=Q) (λH' h=>h) q)
 |add n i=>
  refine ⟨pY,rfl,λ_=>rfl,λ{k de b a x cs ws O H Q E} hk z q=>wc (d:=jr) nofun rfl rfl ?_⟩;obtain ⟨dx,e⟩:=rY z (by symm);right;refine ae aS z (by symm) rfl rfl ?_;left;refine bN e rfl rfl rfl ?_;right;refine ae aS z (by symm) rfl rfl ?_;left;refine bN e rfl rfl rfl ?_;left;refine aF (vs':=[_,_]) rfl ?_;refine Ad (n:=n) ro nofun z (by symm) ?_;left;refine bN e rfl rfl rfl ?_;right;refine aF (vs':=[_,_,_]) rfl ?_;exact lU ro nofun z (dr.imp (Q:=Q) (λH' h=>h) q)
 |take n m=>
  refine ⟨mY,rfl,λ_=>rfl,λ{k de b a x cs ws O H Q E} hk z q=>wc (d:=ie) nofun rfl rfl ?_⟩;obtain ⟨dx,e⟩:=rY z (by symm);right;refine ae aS z (by symm) rfl rfl ?_;left;refine bN e rfl rfl rfl ?_;right;refine ae aS z (by symm) rfl rfl ?_;left;refine bN e rfl rfl rfl ?_;left;refine aF (vs':=[_,_]) rfl ?_;refine Ad (n:=m) ro nofun z (by symm) ?_;left;refine aF (vs':=[_,_,_]) rfl ?_;exact lU ro nofun z (dr.imp (Q:=Q) (λH' h=>h) q)
 |read n=>exact absurd rfl (hb n)
 |write n=>
  refine ⟨lZ,rfl,λ_=>rfl,λ{k de b a x cs ws O H Q E} hk z q=>wc (d:=fT) nofun rfl rfl ?_⟩;obtain ⟨dx,e⟩:=rY z (by symm);have q:dr R b a x cs ws (sd R de (.write n)::O) Q E (if gM (.int (x.g n))=true then (if ah ws "put" x.t=true then .on x (cs.set x.t.toNat (x.g n)) else .no "put" x.t) else .nf n (x.g n)):=q;right;refine ae aS z (by symm) rfl rfl ?_;left;refine bN e rfl rfl rfl ?_;left;refine aF (vs':=[_,_]) rfl ?_;refine Ad (n:=n) ro nofun z (by symm) ?_;right;refine bT (t:="int") ro nofun rfl ?_;cases hc:gM (.int (x.g n)) with
  |false=>
   rw[if_neg (by rw[hc];exact Bool.false_ne_true)] at q;right;refine bN e rfl rfl rfl ?_;right;intro ex he;refine fW nofun (z.new he) (λd H3 hs3=>⟨rfl,?_⟩);exact dM (G:=⟨tab,R,aa tab R (k-1),true⟩) hs3 .here rfl (λH4 hs4=>q ex H4 (hE hs4))
  |true=>
   rw[if_pos hc] at q;right;refine ae bF z (by symm) rfl rfl ?_;right;refine ae aS z (by symm) rfl rfl ?_;left;refine aF (vs':=[_,_]) rfl ?_;refine Ad (n:=.t) ro nofun z (by symm) ?_;left;refine aF (vs':=[_,_,_]) rfl ?_;have hc2:0<=x.g n/\x.g n<=1000000000:=by
    have hc3:(decide (0<=x.g n)&&decide (x.g n<=1000000000))=true:=hc;simpa using hc3
   refine jB (i:=x.t) (j:=x.g n) nofun z (by ac_rfl) (.inr ⟨rfl,hc2.1⟩) (λh H' z'=>?_) (λh e H' z'=>?_)
   ·rw[if_pos h] at q;exact q H' z'
   ·rw[if_neg (by rw[h];exact Bool.false_ne_true)] at q;exact q e H' z'
abbrev aY:Rw->Prop
 | .lg .seek=>False
 | .lg .mtch=>False
 | .sp (.read _)=>False
 |_=>True
def tS (wd:Wd)(hb:aY (.lg wd))(ro:Ro K R):∃ f,tab.me.lookup (wd.cl,("step":Str))=some f/\(∀ Ψ,dflt ⟨tab,R,Ψ,true⟩ f 3=[])/\∀ {k:Nat}{v:V}{b a:Addr}{x:Bx}{cs:List Int}{ws:List Str}{O:List aw}{H:Hp}{Q:VK}{E:XK},8<=k->Sep (ay R b x::bQ R a cs ws::O) H->m8 R b a x cs ws O Q E (gY wd x cs ws)->aa tab R k f [v,.ref b,.ref a] H Q E:=by
 cases wd
 ·exact ⟨hJ,rfl,λ_=>rfl,λhk z q=>AY ro hk z q⟩
 ·exact ⟨iz,rfl,λ_=>rfl,λhk z q=>yE ro hk z q⟩
 ·exact hb.elim
 ·exact hb.elim
 ·exact ⟨fR,rfl,λ_=>rfl,λhk z q=>wX ro nofun z q⟩
 ·exact ⟨g5,rfl,λ_=>rfl,λhk z q=>Ae ro nofun z q⟩
abbrev qq (R:Rt)(b a:Addr)(x:Bx)(cs:List Int)(ws:List Str)(O:List aw)(Q:VK)(E:XK):eK->Prop
 | .on r x' cs'=>∀ H',Sep (ay R b x'::bQ R a cs' ws::O) H'->Q (.int r) H'
 | .no d c=>∀ e H',Sep (jV (R.cad aL) [("deed",.str d),("cell",.int c)] e false::ay R b x::bQ R a cs ws::O) H'->E e H'
 | .nf n i=>∀ e H',Sep (jV (R.cad bV) [("box",.str n.nm),("number",.int i)] e false::ay R b x::bQ R a cs ws::O) H'->E e H'
def vF (r:Rw)(hb:aY r)(ro:Ro K R):∃ f,tab.me.lookup (r.cl,("step":Str))=some f/\(∀ Ψ,dflt ⟨tab,R,Ψ,true⟩ f 3=[])/\∀ {k:Nat}{de b a:Addr}{x:Bx}{cs:List Int}{ws:List Str}{O:List aw}{H:Hp}{Q:VK}{E:XK},8<=k->Sep (ay R b x::bQ R a cs ws::ao R de r::O) H->qq R b a x cs ws (ao R de r::O) Q E (aU x cs ws r)->aa tab R k f [.ref de,.ref b,.ref a] H Q E:=by
 cases r with
 |lg w=>
  obtain ⟨f,hf,hd,hs⟩:=tS w hb ro;refine ⟨f,hf,hd,λ{k de b a x cs ws O H Q E} hk z q=>hs hk z ?_⟩;have q:qq R b a x cs ws (ao R de (.lg w)::O) Q E (ofM (gY w x cs ws)):=q
  revert q
  cases gY w x cs ws<;>exact λq=>q
 |sp s=>
  obtain ⟨f,hf,hd,hs⟩:=wY s (λn e=>by subst e;exact hb) ro;refine ⟨f,hf,hd,λ{k de b a x cs ws O H Q E} hk z q=>hs nofun z ?_⟩;have q:qq R b a x cs ws (ao R de (.sp s)::O) Q E (sX (iJ x cs ws s)):=q
  revert q
  cases iJ x cs ws s<;>exact λq=>q
 |hop n o=>
  refine ⟨jN,rfl,λ_=>rfl,λ{k de b a x cs ws O H Q E} hk z q=>?_⟩;exact Ak ro nofun z (.there (.there .here)) .here (q H z)
def zv {de b:Addr}{cs:List Int}(r:Rw)(hb:aY r)(ro:Ro K R)(hk:9<=k)(z:Sep (ay R b x::bQ R a cs ws::ao R de r::O) H)
  (q:∀ t H',Sep (Jx t (aU x cs ws r)::ay R b ((aU x cs ws r).bx x)::bQ R a ((aU x cs ws r).cs cs) ws::ao R de r::O) H'->Q (.ref t) H'):aa tab R k Aj [.ref de,.ref b,.ref a] H Q E:=by
 obtain ⟨f,hf,hd,hst⟩:=vF r hb ro;refine wc (d:=qM) nofun rfl rfl ?_;right;refine ae (BP r) z (.there (.there .here)) (by cases r with|lg w=>rfl|sp s=>cases s<;>rfl|hop n o=>rfl) hf ?_;left;refine aF (vs':=[.ref de,.ref b,.ref a]) (by show _::(_++dflt _ _ 3)=_;rw[hd];rfl) ?_;refine hst nofun z ?_
 revert q
 cases aU x cs ws r with
 |on n x' cs'=>
  intro q H1 z1;right;rename_i t H3 z3;exact q t H3 z3.toT
 |no d c=>
  intro q e H1 z1;obtain ⟨dx,z2⟩:=Bh z1;refine ⟨aL,_,_,true,z2.at,rfl,rfl,?_⟩;left;refine bt rfl ?_;right;rename_i te H3 z3 t H4 z4;have z5:=(z4.toT.pull (.there .here)).toT;exact q t H4 (fz te (z5.sub (.cons (.there .here) (.cons .here (.drop (.drop .refl))))))
 |nf n i=>
  intro q e H1 z1;obtain ⟨dx,z2⟩:=Bh z1;refine ⟨bV,_,_,false,z2.at,rfl,rfl,?_⟩;left;refine bb rfl ?_;left;refine ⟨bV,_,_,true,z2.at,rfl,rfl,?_⟩;left;refine bt rfl ?_;right;rename_i te H3 z3 t H4 z4;have z5:=(z4.toT.pull (.there .here)).toT;exact q t H4 (fz te (z5.sub (.cons (.there .here) (.cons .here (.drop (.drop .refl))))))
section
variable {m l s b a:Addr}{at_:Int}{ds:List V}{rs:List Rw}{x:Bx}{cs:List Int}{ws:List Str}
def tG (ro:Ro K R)(hk:10<=k)(hb:∀ r ∈ rs,aY r) (h0:0<=at_) (h1:at_<=ds.length) (hd:cy R O ds rs) (z:Sep (tB R m l s b at_ ds::bQ R a cs ws::ay R b x::O) H)
  (q:∀ H',Sep (tB R m l s b (mS rs at_ x cs ws).at_ ds::bQ R a (mS rs at_ x cs ws).cs ws::ay R b (mS rs at_ x cs ws).x::O) H'->Q (.str (mS rs at_ x cs ws).w) H'):aa tab R k fS [.ref m,.ref a] H Q E:=by
 refine wc (d:=cz) nofun rfl rfl ?_;unfold mS at q;right;refine ae B8 z .here rfl rfl ?_;left;refine zO nofun z .here ?_
 by_cases he:at_=ds.length
 ·rw[decide_eq_true he];right;rw[getElem?_eq_none (by have:=hd.1;omega)] at q;exact q H z
 ·rw[decide_eq_false he];have hlt:at_.toNat<rs.length:=by have:=hd.1;omega
  have er:rs[at_.toNat]? =some rs[at_.toNat]:=getElem?_eq_getElem hlt;generalize rs[at_.toNat]=r at er;obtain ⟨de,Δ,e2,p⟩:=hd.2 _ _ er;rw[er] at q;dsimp only at q;obtain ⟨dx,z1⟩:=Cy z;right;refine iO (i:=at_) (by grind) (c6 h0 e2) ?_;right;have z2:Sep (ay R b x::bQ R a cs ws::ao R de r::pt m (.ins (R.cad aP) dx [("deeds",.ref l),("store",.ref s),("boxes",.ref b),("at",.int at_)])::pt dx (.own m)::pt l (.lst ds)::Δ) H:=z1.sub (.cons (.there (.there (.there (.there .here)))) (.cons (.there (.there (.there .here))) (.cons (.there (.there (.there p))) .refl)));refine zv r (hb r (mem_of_getElem? er)) ro nofun z2 (λt H2 z3=>?_);clear z z1 z2
  revert q z3
  cases aU x cs ws r with
  |on n x' cs'=>
   intro q z3;have z3:Sep (tu t [.int n,.non]::ay R b x'::bQ R a cs' ws::ao R de r::pt m (.ins (R.cad aP) dx [("deeds",.ref l),("store",.ref s),("boxes",.ref b),("at",.int at_)])::pt dx (.own m)::pt l (.lst ds)::Δ) H2:=z3;right;refine jJ ?_;left;refine bb rfl ?_;right;rename_i H4 z4;rw[hd.1] at z4;refine q H4 (As (dx:=dx) ?_);exact (z4.sub (Γ':=ao R de r::pt m _::pt dx (.own m)::pt l (.lst ds)::bQ R a cs' ws::ay R b x'::Δ) (by ac_nf)).push (.there (.there (.there (.there (.there p)))))
  |no d c=>
   intro q z3;obtain ⟨te,z4⟩:=gf z3;have z4:Sep (tu t [.non,.ref te]::tu te [.str d,.int c]::ay R b x::bQ R a cs ws::ao R de r::pt m (.ins (R.cad aP) dx [("deeds",.ref l),("store",.ref s),("boxes",.ref b),("at",.int at_)])::pt dx (.own m)::pt l (.lst ds)::Δ) H2:=z4;right;refine jJ ?_;left;refine bt rfl ?_;refine q H2 (As (dx:=dx) ?_);exact (z4.sub (Γ':=ao R de r::pt m _::pt dx (.own m)::pt l (.lst ds)::bQ R a cs ws::ay R b x::Δ) (by ac_nf)).push (.there (.there (.there (.there (.there p)))))
  |nf n i=>
   intro q z3;obtain ⟨te,z4⟩:=gf z3;have z4:Sep (tu t [.non,.ref te]::tu te [.str "fit",.str n.nm]::ay R b x::bQ R a cs ws::ao R de r::pt m (.ins (R.cad aP) dx [("deeds",.ref l),("store",.ref s),("boxes",.ref b),("at",.int at_)])::pt dx (.own m)::pt l (.lst ds)::Δ) H2:=z4;right;refine jJ ?_;left;refine bt rfl ?_;refine q H2 (As (dx:=dx) ?_);exact (z4.sub (Γ':=ao R de r::pt m _::pt dx (.own m)::pt l (.lst ds)::bQ R a cs ws::ay R b x::Δ) (by ac_nf)).push (.there (.there (.there (.there (.there p)))))
end
def fM {cs:List Int}{b:Bn}(hx:0<=x.l)(h:dh x cs b i=.on x' cs'):0<=x'.l/\cs'.length=cs.length:=by
 unfold dh at h
 by_cases e:iI b i=true
 ·rw[if_pos e] at h;cases h;refine ⟨?_,rfl⟩;cases b
  ·exact hx
  ·exact hx
  ·have e:(decide (0<=i)&&decide (i<=1000000000))=true:=e;have e:0<=i/\i<=1000000000:=by simpa using e
   exact e.1
  ·exact hx
  ·exact hx
  ·exact hx
 ·rw[if_neg e] at h;cases h
def tY {cs:List Int}{s:Sp}(hx:0<=x.l)(h:iJ x cs ws s=.on x' cs'):0<=x'.l/\cs'.length=cs.length:=by
 cases s with
 |set b i=>exact fM hx h
 |add b i=>exact fM hx h
 |take b c=>exact fM hx h
 |read b=>
  have h:(if ah ws "look" x.h=true then dh x cs b (gt cs x.h) else .no "look" x.h)=.on x' cs':=h
  by_cases e:ah ws "look" x.h=true
  ·rw[if_pos e] at h;exact fM hx h
  ·rw[if_neg e] at h;cases h
 |write b=>
  have h:(if gM (.int (x.g b))=true then (if ah ws "put" x.t=true then .on x (cs.set x.t.toNat (x.g b)) else .no "put" x.t) else .nf b (x.g b))=qC.on x' cs':=h
  by_cases e:gM (.int (x.g b))=true
  ·rw[if_pos e] at h
   by_cases e2:ah ws "put" x.t=true
   ·rw[if_pos e2] at h;cases h;exact ⟨hx,length_set ..⟩
   ·rw[if_neg e2] at h;cases h
  ·rw[if_neg e] at h;cases h
def ue {cs:List Int}(hx:0<=x.l)(h:aU x cs ws r=.on n x' cs'):0<=x'.l/\cs'.length=cs.length:=by
 cases r with
 |lg w=>
  have h:ofM (gY w x cs ws)=.on n x' cs':=h;cases e:gY w x cs ws with
  |no d c=>rw[e] at h;cases h
  |on r y ys=>
   rw[e] at h;cases h;exact uW hx e
 |hop m o=>cases h;exact ⟨hx,rfl⟩
 |sp s=>
  have h:sX (iJ x cs ws s)=.on n x' cs':=h;cases e:iJ x cs ws s with
  |on y ys=>rw[e] at h;cases h;exact tY hx e
  |no d c=>rw[e] at h;cases h
  |nf b i=>rw[e] at h;cases h
def rg {cs:List Int}(hx:0<=x.l):0<=(mS rs at_ x cs ws).x.l/\(mS rs at_ x cs ws).cs.length=cs.length:=by
 unfold mS;cases e:rs[at_.toNat]? with
 |none=>exact ⟨hx,rfl⟩
 |some r=>
  dsimp only;cases ho:aU x cs ws r with
  |no d c=>exact ⟨hx,rfl⟩
  |nf b i=>exact ⟨hx,rfl⟩
  |on n x' cs'=>exact ue hx ho
abbrev eK.mp (f:Int->Int):eK->eK
 | .on n x cs=>.on n x (cs.map f)
 | .no d c=>.no d c
 | .nf b i=>.nf b i
section
variable {f:Int->Int}{x x':Bx}{cs cs':List Int}{ws:List Str}{r:Rw}{n i j:Int}{rs:List Rw}{at_:Int}
def qE (h0:0<=i)(h1:i<cs.length):gt (cs.map f) i=f (gt cs i):=by
 unfold gt;rw[getElem?_map,getElem?_eq_getElem nofun]
 rfl
def wW {g:List Int->Out}(hl:cs.length=ws.length)(hg:∀ l,ofM (g (l.map f))=(ofM (g l)).mp f):ofM (hm (cs.map f) ws i j g)=(ofM (hm cs ws i j g)).mp f:=by
 unfold hm
 by_cases m1:ah ws "look" i=true
 ·rw[if_pos m1,if_pos m1]
  by_cases m2:ah ws "put" j=true
  ·have:=ak m1;rw[if_pos m2,if_pos m2,qE this.1 nofun,<-List.map_set];exact hg _
  ·rw[if_neg m2,if_neg m2];rfl
 ·rw[if_neg m1,if_neg m1];rfl
def vJ (hf:∀ j,0<=j->f j=j) (hb:aY r) (hx:x.ok) (hl:cs.length=ws.length):aU x (cs.map f) ws r=(aU x cs ws r).mp f:=by
 obtain ⟨o1,o2,o3,o4,o5,o6⟩:=hx;cases r with
 |hop m o=>rfl
 |sp s=>
  have gv:∀ b i,sX (dh x (cs.map f) b i)=(sX (dh x cs b i)).mp f:=λb i=>by
   unfold dh
   split<;>rfl
  cases s with
  |set b i=>exact gv _ _
  |add b i=>exact gv _ _
  |take b c=>exact gv _ _
  |read b=>exact hb.elim
  |write b=>
   show sX (if gM (.int (x.g b))=true then (if ah ws "put" x.t=true then .on x ((cs.map f).set x.t.toNat (x.g b)) else .no "put" x.t) else .nf b (x.g b))=(sX (if gM (.int (x.g b))=true then (if ah ws "put" x.t=true then .on x (cs.set x.t.toNat (x.g b)) else .no "put" x.t) else .nf b (x.g b))).mp f
   by_cases hc:gM (.int (x.g b))=true
   ·have hc3:(decide (0<=x.g b)&&decide (x.g b<=1000000000))=true:=hc;have hc2:0<=x.g b/\x.g b<=1000000000:=by simpa using hc3
    rw[if_pos hc,if_pos hc]
    split
    ·show eK.on 1 x _=eK.on 1 x _;rw[List.map_set,hf _ hc2.1]
    ·rfl
   ·rw[if_neg hc,if_neg hc];rfl
 |lg w=>
  cases w with
  |seek=>exact hb.elim
  |mtch=>exact hb.elim
  |copy=>
   show ofM (a9 x (cs.map f) ws)=(ofM (a9 x cs ws)).mp f;unfold a9
   split
   ·rfl
   ·exact wW hl λl=>rfl
  |fill=>
   show ofM (cA x (cs.map f) ws)=(ofM (cA x cs ws)).mp f;unfold cA
   split
   ·rfl
   ·split
    ·show eK.on _ _ _=eK.on _ _ _;rw[List.map_set,hf _ o5.1]
    ·rfl
  |shift=>
   show ofM (aT x (cs.map f) ws)=(ofM (aT x cs ws)).mp f;unfold aT
   split
   ·rfl
   ·split<;>exact wW hl λl=>rfl
  |turn=>
   show ofM (cB x (cs.map f) ws)=(ofM (cB x cs ws)).mp f;unfold cB xm
   split
   ·rfl
   ·split
    ·rfl
    ·by_cases m1:ah ws "look" x.h=true
     ·by_cases m2:ah ws "look" (x.h+x.l-1)=true
      ·have g1:=ak m1;have g2:=ak m2;rw[if_pos m1,if_pos m2,if_pos m1,if_pos m2,qE g1.1 nofun,qE g2.1 nofun,<-List.map_set,<-List.map_set]
       split
       ·split<;>rfl
       ·rfl
      ·rw[if_pos m1,if_neg m2,if_pos m1,if_neg m2];rfl
     ·rw[if_neg m1,if_neg m1];rfl
def Ai (hb:aY r)(hx:x.ok)(hl:ws.length<=60)(h:aU x cs ws r=.on n x' cs'):x'.ok:=by
 have ox:=hx;obtain ⟨o1,o2,o3,o4,o5,o6⟩:=hx;cases r with
 |hop m o=>cases h;exact ox
 |sp s=>
  have gv:∀ b i,sX (dh x cs b i)=.on n x' cs'->x'.ok:=λb i h=>by
   unfold dh at h
   split at h
   ·rename_i g;cases h;exact uL g ox
   ·cases h
  cases s with
  |set b i=>exact gv _ _ h
  |add b i=>exact gv _ _ h
  |take b c=>exact gv _ _ h
  |read b=>exact hb.elim
  |write b=>
   have h:sX (if gM (.int (x.g b))=true then (if ah ws "put" x.t=true then .on x (cs.set x.t.toNat (x.g b)) else .no "put" x.t) else .nf b (x.g b))=.on n x' cs':=h
   split at h
   ·split at h
    ·cases h;exact ox
    ·cases h
   ·cases h
 |lg w=>
  have hmo:∀ {i j:Int}{g:List Int->Out},(ah ws "look" i=true->ah ws "put" j=true->∀ l,ofM (g l)=.on n x' cs'->x'.ok)->ofM (hm cs ws i j g)=.on n x' cs'->x'.ok:=λ{i j g} hg h=>by
   unfold hm at h
   split at h
   ·split at h
    ·exact hg ‹_› ‹_› _ h
    ·cases h
   ·cases h
  cases w with
  |seek=>exact hb.elim
  |mtch=>exact hb.elim
  |copy=>
   have h:ofM (a9 x cs ws)=.on n x' cs':=h;unfold a9 at h
   split at h
   ·cases h;exact ox
   ·refine hmo (λm1 m2 l h=>?_) h;have g1:=ak m1;have g2:=ak m2;cases h;exact ⟨by dsimp only;omega,by dsimp only;omega,by dsimp only;omega,o4,o5,o6⟩
  |fill=>
   have h:ofM (cA x cs ws)=.on n x' cs':=h;unfold cA at h
   split at h
   ·cases h;exact ox
   ·split at h
    ·have g2:=ak ‹_›;cases h;exact ⟨o1,by dsimp only;omega,by dsimp only;omega,o4,o5,o6⟩
    ·cases h
  |shift=>
   have h:ofM (aT x cs ws)=.on n x' cs':=h;unfold aT at h
   split at h
   ·cases h;exact ox
   ·split at h
    ·refine hmo (λm1 m2 l h=>?_) h;have g1:=ak m1;have g2:=ak m2;cases h;exact ⟨by dsimp only;omega,by dsimp only;omega,by dsimp only;omega,o4,o5,o6⟩
    ·refine hmo (λm1 m2 l h=>?_) h;cases h;exact ⟨o1,o2,by dsimp only;omega,o4,o5,o6⟩
  |turn=>
   have h:ofM (cB x cs ws)=.on n x' cs':=h;unfold cB xm at h
   split at h
   ·cases h;exact ox
   ·split at h
    ·cases h;exact ⟨o1,o2,by dsimp only;omega,o4,o5,o6⟩
    ·split at h
     ·have g1:=ak ‹ah ws "look" x.h=true›
      split at h
      ·split at h
       ·split at h
        ·cases h;exact ⟨by dsimp only;omega,o2,by dsimp only;omega,o4,o5,o6⟩
        ·cases h
       ·cases h
      ·cases h
     ·cases h
def vO (hf:∀ j,0<=j->f j=j) (hb:∀ r ∈ rs,aY r) (hx:x.ok) (hl:cs.length=ws.length):(mS rs at_ x (cs.map f) ws).w=(mS rs at_ x cs ws).w/\(mS rs at_ x (cs.map f) ws).at_=(mS rs at_ x cs ws).at_/\(mS rs at_ x (cs.map f) ws).x=(mS rs at_ x cs ws).x/\(mS rs at_ x (cs.map f) ws).cs=(mS rs at_ x cs ws).cs.map f:=by
 unfold mS;cases e:rs[at_.toNat]? with
 |none=>exact ⟨rfl,rfl,rfl,rfl⟩
 |some r=>
  dsimp only;rw[vJ hf (hb r (mem_of_getElem? e)) hx hl];cases aU x cs ws r<;>exact ⟨rfl,rfl,rfl,rfl⟩
def wb (hb:∀ r ∈ rs,aY r) (hx:x.ok) (hl:ws.length<=60):(mS rs at_ x cs ws).x.ok:=by
 unfold mS;cases e:rs[at_.toNat]? with
 |none=>exact hx
 |some r=>
  dsimp only;cases ho:aU x cs ws r with
  |on n x' cs'=>exact Ai (hb r (mem_of_getElem? e)) hx hl ho
  |_=>exact hx
end
inductive Tr (rs:List Rw) (ws:List Str):Int->Bx->List Int->List (Bx×List Int)->Prop where
 |stop {at_:Int}{x:Bx}{cs:List Int}(h:(mS rs at_ x cs ws).w≠"on"):Tr rs ws at_ x cs [(x,cs)]
 |on {at_:Int}{x:Bx}{cs:List Int}{L:List (Bx×List Int)}(h:(mS rs at_ x cs ws).w="on") (t:Tr rs ws (mS rs at_ x cs ws).at_ (mS rs at_ x cs ws).x (mS rs at_ x cs ws).cs L):Tr rs ws at_ x cs ((x,cs)::L)
section
variable {rs:List Rw}{ws:List Str}{at_:Int}{x:Bx}{cs:List Int}{L L':List (Bx×List Int)}
def Tr.det (h:Tr rs ws at_ x cs L):∀ {L'},Tr rs ws at_ x cs L'->L=L':=by
 induction h with
 |stop h=>
  intro L' h';cases h' with
  |stop=>rfl
  |on g=>exact absurd g h
 |on h t ih=>
  intro L' h';cases h' with
  |stop g=>exact absurd h g
  |on g t'=>rw[ih t']
abbrev Jc (f:Int->Int)(p:Bx×List Int):Bx×List Int:=(p.1,p.2.map f)
def Tr.map {f:Int->Int}(hf:∀ j,0<=j->f j=j) (hb:∀ r ∈ rs,aY r) (w60:ws.length<=60) (h:Tr rs ws at_ x cs L):x.ok->cs.length=ws.length->Tr rs ws at_ x (cs.map f) (L.map (Jc f)):=by
 induction h with
 |stop h=>
  intro hx hl;exact .stop (by rw[(vO hf hb hx hl).1];exact h)
 |on h t ih=>
  intro hx hl;obtain ⟨e1,e2,e3,e4⟩:=vO (at_:=_) hf hb hx hl;refine .on (by rw[e1];exact h) ?_;rw[e2,e3,e4];exact ih (wb hb hx w60) (by rw[(rg hx.2.2.1.1).2];exact hl)
def Tr.all {P:Bx×List Int->Prop}(hb:∀ r ∈ rs,aY r) (w60:ws.length<=60) (hP:∀ x cs,x.ok->cs.length=ws.length->P (x,cs)) (h:Tr rs ws at_ x cs L):x.ok->cs.length=ws.length->∀ p ∈ L,P p:=by
 induction h with
 |stop h=>
  intro hx hl p hp;rw[mem_singleton.mp hp];exact hP _ _ hx hl
 |on h t ih=>
  intro hx hl p hp;rcases mem_cons.mp hp with rfl|hp
  ·exact hP _ _ hx hl
  ·exact ih (wb hb hx w60) (by rw[(rg hx.2.2.1.1).2];exact hl) p hp
def Tr.ne (h:Tr rs ws at_ x cs L):∃ L',L=(x,cs)::L':=by cases h<;>exact ⟨_,rfl⟩
end
def Dv {cs:List Nat}{j:Nat}{fs:List (Str×V)}{b:Bool}(s:Sep O H)(ho:G.T.oc.contains j=true)(e:H a=some (.ins (G.R.cad j) dx fs))(hb:anyS G j cs=some b)(q:∀ p H',Sep (tu p (cs.map λc=>.ref (G.R.cad c))::O) H'->Q (.bl b) H'):∀ p,H p=none->n8 G cs (.ref a) (upd H p (.tup (cs.map λc=>.ref (G.R.cad c)))) Q:=λp hp=>by
 unfold n8;refine .inr ⟨a,j,b,rfl,.inl ⟨ho,dx,fs,?_⟩,hb,q p _ (s.iA hp)⟩;rw[af λz=>by rw[z,hp] at e;cases e];exact e
abbrev bA:Rw->Bool
 | .lg .seek=>true
 | .lg .mtch=>true
 | .sp (.read _)=>true
 |_=>false
def nG (hT:G.T=tab)(r:Rw):anyS G r.cl [uX,sj,xX]=some (bA r)/\G.T.oc.contains r.cl=true:=by
 cases G;cases hT;cases r with
 |lg w=>cases w<;>exact ⟨rfl,rfl⟩
 |sp s=>cases s<;>exact ⟨rfl,rfl⟩
 |hop n o=>exact ⟨rfl,rfl⟩
def nJ (h:bA r=false):aY r:=by
 cases r with
 |lg w=>cases w<;>first|exact True.intro|cases h
 |sp s=>cases s<;>first|exact True.intro|cases h
 |hop n o=>exact True.intro
section
variable {L:Addr}{ds:List V}{rs:List Rw}
def zZ (hk:1<=k)(z:Sep O H)(p:ag (ao R d r) O Δ)(q:∀ H',Sep O H'->Q (.bl (bA r)) H'):aa tab R k eI [.ref d] H Q E:=by
 refine wc (d:=bS) nofun rfl rfl ?_;obtain ⟨dx,fs,e⟩:=Bq z p;left;exact Dv z (nG rfl r).2 e (nG rfl r).1 (λp H' z'=>q H' z'.drop)
end
section
variable {L:Addr}{ds:List V}{rs:List Rw}
def iP {x:Addr}(hk:1<=k)(s:Sep (pt x (.exc (R.cad c9) none [] true)::O) H)(q:∀ d H',Sep (pt x (.exc (R.cad c9) (some d) [("at",v)] true)::pt d (.own x)::O) H'->Q .non H'):aa tab R k eJ [.ref x,v] H Q E:=by
 refine wc (d:=bR) nofun rfl rfl ?_;right;refine ⟨_,c9,_,_,_,_,rfl,by grind,rfl,?_⟩;right;refine rM s rfl rfl (λd H hs=>?_);right;exact q d H hs
def jZ (hk:2<=k)(hd:cy R O ds rs)(z:Sep O H)(p:ag (pt L (.lst ds)) O Δ)(q0:rs.any bA=false->∀ H',Sep O H'->Q .non H')
  (q1:∀ (j:Nat) r,rs[j]? =some r->bA r=true->(∀ (i:Nat) r,i<j->rs[i]? =some r->bA r=false)->∀ e H',Sep (jV (R.cad c9) [("at",.int (j:Int))] e false::O) H'->E e H'):aa tab R k jY [.ref L] H Q E:=by
 refine wc (d:=fe) nofun rfl rfl ?_;have hl:=hd.1;left;refine ⟨rfl,?_⟩;refine Cj (z.get p) ?_;refine mi (xs:=ds) (λj U H=>∃ u v,U=[some (.ref L),u,v]/\(∀ (i:Nat) r,i<j->rs[i]? =some r->bA r=false)/\Sep O H) ?_ ?_ ?_ ?_
 ·exact ⟨none,none,rfl,λi r h=>absurd h (Nat.not_lt_zero _),z⟩
 ·rintro j U H ⟨u,v,rfl,_,hs⟩;exact hs.get p
 ·rintro j y T U H hy ⟨u,v,rfl,hb,hs⟩ hT;have hyl:=(List.getElem?_eq_some_iff.mp hy).1;have er:rs[j]? =some (rs[j]'nofun):=getElem?_eq_getElem _;generalize rs[j]'nofun=r at er;obtain ⟨a,Δ',e3,pp⟩:=hd.2 _ _ er;rw[hy] at e3;cases e3;have hs4:=hs.iA (xs:=[.int j,.ref a]) hT;generalize upd H T _=H4 at hs4⊢;have eT:=hs4.atT;left;refine ⟨T,_,rfl,.inl (bc.of eT),rfl,?_⟩;left;refine ⟨rfl,?_⟩;refine zZ nofun hs4 (.there pp) (λH5 z5=>?_);cases hr:bA r with
  |false=>
   left;refine bb rfl ?_;refine ⟨_,_,rfl,λi r' hi e=>?_,z5.drop⟩
   by_cases he:i=j
   ·subst he;rw[er] at e;cases e;exact hr
   ·exact hb i r' nofun e
  |true=>
   left;refine bt rfl ?_;right;intro x hx;refine iP nofun (z5.new hx) (λd H hs=>?_);right;exact dM hs (by ac_rfl) rfl (λH hs=>q1 j r er hr hb x H ((hE hs).sub (by ac_nf)))
 ·rintro U H ⟨u,v,rfl,hb,hs⟩;refine q0 ?_ H hs;rw[any_eq_false];intro r hr;obtain ⟨i,hi⟩:=getElem?_of_mem hr;have:=(List.getElem?_eq_some_iff.mp hi).1;simp[hb i r nofun hi]
end
def cy.app {L:List aw}(h:cy R O ds rs):cy R (L++O) ds rs:=⟨h.1,λi r e=>by
 obtain ⟨a,Δ,e2,p⟩:=h.2 i r e;exact ⟨a,_,e2,aG p⟩⟩
abbrev aM (n:Nat):List Int:=(List.range n).map λi:Nat=>-1-(i:Int)
abbrev aH (n:Nat):List Str:=List.replicate n (Str.ofString "open")
def eA {n:Nat}:(aM n).length=n:=by unfold aM;rw[length_map,length_range]
def aR {n:Nat}:(aH n).length=n:=length_replicate
def Il {n:Nat}(h0:1<=n)(h1:n<=60):DB (aM n) (aH n):=⟨by rw[eA,aR],by rw[eA];exact h0,by rw[eA];exact h1,by rw[aR];rfl⟩
def zX {n:Nat}(hk:1<=k)(n0:1<=n)(n1:n<=60)(z:Sep (pt a (.ins (R.cad aQ) dx [])::pt dx (.own a)::O) H)(q:∀ H',Sep (bQ R a (aM n) (aH n)::O) H'->Q .non H'):aa tab R k ff [.ref a,.int (n:Int)] H Q E:=by
 refine wc (d:=cp) nofun rfl rfl ?_;left;refine ⟨rfl,⟨by omega,by omega,?_⟩⟩;refine Es (n:=(n:Int).toNat) nofun (λD ys H=>Sep (pt D (.lst ys)::cG ys (aM ys.length)::pt a (.ins (R.cad aQ) dx [])::pt dx (.own a)::O) H) (λD hD=>(cG.mk (by rfl) (λi v j h=>by cases h) (z.new (o:=.lst []) hD)).pull (.there .here)) (λD ys H hl hI=>?_) (λD ys H hl hI=>?_)
 ·left;refine az hI (Nat.le_of_ble_eq_true rfl) (λT H2 z2=>?_);have z3:=(z2.pull (.there .here)).set (o':=.lst (ys++[.ref T])) rfl;refine A6.mk (z2.get (.there .here)) nofun ?_;have e1:H2 T=some (.tup [.str "cell",.int (0+((ys.length:Nat):Int))]):=z2.at;have e0:=z3.get (.there .here);have z4:=cG.snoc (z3.pull (.there (.there .here))) (v:=.ref T) (j:= -1-((ys.length:Nat):Int)) ⟨T,rfl,by
   rw[uI,if_pos nofun,show -1-(-1-((ys.length:Nat):Int))=0+((ys.length:Nat):Int) by omega];exact e0⟩
  have e5:aM ys.length++[-1-((ys.length:Nat):Int)]=aM (ys++[V.ref T]).length:=by
   unfold aM;rw[length_append,length_singleton,List.range_succ,map_append]
   rfl
  rw[e5] at z4;exact z4.sub (by ac_nf)
 ·right;rename_i H2 z2;rw[hl,Int.toNat_natCast] at z2;exact q H2 (BJ (dx:=dx) (l:=D) (vs:=ys) (by rw[eA];omega) (Il n0 n1) (z2.sub (by ac_nf)))
def qO {cs:List Int}(hk:1<=k)(z:Sep O H)(p:ag (bQ R a cs ws) O Δ)(q:∀ l vs H',Sep (pt l (.lst vs)::cG vs cs::O) H'->Q (.ref l) H'):aa tab R k je [.ref a] H Q E:=by
 refine wc (d:=dN) nofun rfl rfl ?_;obtain ⟨dx,l,vs,⟨h1,h2,h3,h4,h5⟩,z1⟩:=nB (z.pull p);have z0:Sep (cG vs cs::O) H:=cG.mk (cG.of (z1.pull (.there (.there (.there .here))))).1 (cG.of (z1.pull (.there (.there (.there .here))))).2 z;left;refine bN z1.at rfl rfl rfl ?_;left;exact iY z0 (z1.get (.there (.there .here))) (λp2 H2 z2=>q p2 vs H2 z2)
noncomputable abbrev Sh:=Addr×(Bx×List Int)
abbrev jS (p:Sh):aw:=bx λq:Addr×Addr×List V=>[tu p.1 [.ref q.1,.ref q.2.1],tu q.1 (p.2.1.ls.map V.int),pt q.2.1 (.lst q.2.2),cG q.2.2 p.2.2]
abbrev pA (p:Sh):V:=.ref p.1
variable {p:Sh}
def D3 (z:Sep (jS p::O) H):∃ b l vs,Sep (tu p.1 [.ref b,.ref l]::tu b (p.2.1.ls.map V.int)::pt l (.lst vs)::cG vs p.2.2::O) H:=by
 obtain ⟨⟨b,l,vs⟩,z⟩:=gf z;exact ⟨b,l,vs,z⟩
def G0 {t b:Addr}{cs:List Int}(z:Sep (tu t [.ref b,.ref l]::tu b (x.ls.map V.int)::pt l (.lst vs)::cG vs cs::O) H):Sep (jS (t,x,cs)::O) H:=fz (b,l,vs) z
section
variable {L b m l s a b2 T:Addr}{ds:List V}{rs:List Rw}{x x0:Bx}{cs:List Int}{ws:List Str}{at_:Int}
abbrev GU (R:Rt)(L b m l s a b2 T:Addr)(N:Nat)(ds:List V)(rs:List Rw)(x0:Bx)(O:List aw)(n:Nat)(U:St)(H:Hp):Prop:=∃ at_ x cs,∃ (S:List Sh) (P:List (Bx×List Int)),0<=at_/\at_<=(rs.length:Int)/\x.ok/\n=sA rs N at_ x/\S.length+n<=1600/\S.map (·.2)=P++[(x,cs)]/\(∀ L,Tr rs (aH N) at_ x cs L->Tr rs (aH N) 0 x0 (aM N) (P++L))/\U=[some (.ref L),some (.ref b),some (.int (N:Int)),some (.ref m),some (.ref a),some (.ref T)]/\Sep (tB R m l s b2 at_ ds::bQ R a cs (aH N)::ay R b2 x::pt T (.lst (S.map pA))::pt L (.lst ds)::ay R b x0::(S.reverse.map jS++O)) H
def kB (ro:Ro K R)(hk:12<=k)(n0:1<=rs.length)(n1:rs.length<=24)(ok:∀ r ∈ rs,r.ok) (hb:rs.any bA=false) (hd:cy R O ds rs) (s0:1<=N) (s1:N<=60) (z:Sep (pt L (.lst ds)::ay R b x::O) H)
  (q:∀ T (S:List Sh) H',S.length<=1600->Tr rs (aH N) 0 x (aM N) (S.map (·.2))->Sep (pt T (.lst (S.map pA))::pt L (.lst ds)::ay R b x::(S.reverse.map jS++O)) H'->Q (.ref T) H'):aa tab R k tW [.ref L,.ref b,.int (N:Int)] H Q E:=by
 refine wc (d:=kx) nofun rfl rfl ?_;have hl:=hd.1;have hbl:∀ r ∈ rs,aY r:=λr hr=>nJ (by
  have:=any_eq_false.mp hb r hr;simpa using this)
 right;refine gx ro nofun nofun nofun z .here hd.more.more.all (λH1 z1=>?_);clear z;right;refine jZ nofun hd.more.more z1 .here (λ_ H2 z2=>?_) (λj r e h _=>by
  have:=any_eq_false.mp hb r (mem_of_getElem? e);rw[h] at this;exact absurd rfl this)
 clear z1;right;rename_i l0 H3 z3;intro s dx g1 g2 g3;refine rf (cs:=[0]) ro nofun (by decide) (by decide) (λi hi=>by rw[mem_singleton.mp hi];decide) (bP z3 g1 g2 g3) .here (λH4 z4=>⟨rfl,?_⟩);clear z2 z3;left;intro m dm g1 g2 g3;refine uB (at_:=0) (s:=s) (x:=x) (cs:=[0]) ro nofun nofun nofun (by decide) nofun (.there (.there .here)) .here (.there (.there (.there .here))) hd.more.more.more.more.all (bP z4 g1 g2 g3) (λl2 s2 b2 H5 z5=>⟨rfl,?_⟩);clear z4;left;refine ⟨rfl,?_⟩;left;intro a da g1 g2 g3;refine zX nofun s0 s1 (bP z5 g1 g2 g3) (λH6 z6=>⟨rfl,?_⟩);clear z5;have z7:Sep (tB R m l2 s2 b2 0 ds::bQ R a (aM N) (aH N)::ay R b2 x::pt L (.lst ds)::ay R b x::O) H6:=z6.sub (by ac_nf);clear z6;have hx:x.ok:=ky z7 (.there (.there .here));right;refine ae aS z7 (.there (.there (.there (.there .here)))) rfl rfl ?_;left;refine mC ro nofun z7 (.there (.there (.there (.there .here)))) (λt1 H7 z8=>?_);right;refine ae bF z8 (.there (.there .here)) rfl rfl ?_;left;refine qO nofun z8 (.there (.there .here)) (λl3 vs H8 z9=>?_);left;refine az z9 (Nat.le_of_ble_eq_true rfl) (λt2 H9 z10=>?_);left;refine aj z10 (Nat.le_of_ble_eq_true rfl) (λT HA z11=>?_);have z11a:Sep (jS (t2,x,aM N)::pt T (.lst [.ref t2])::tB R m l2 s2 b2 0 ds::bQ R a (aM N) (aH N)::ay R b2 x::pt L (.lst ds)::ay R b x::O) HA:=G0 (b:=t1) (l:=l3) (vs:=vs) ((z11.pull (.there .here)).toT.sub (by ac_nf));have z12:Sep (tB R m l2 s2 b2 0 ds::bQ R a (aM N) (aH N)::ay R b2 x::pt T (.lst [.ref t2])::pt L (.lst ds)::ay R b x::jS (t2,x,aM N)::O) HA:=z11a.sub (by ac_nf);clear z7 z8 z9 z10 z11 z11a;left;refine ⟨GU R L b m l2 s2 a b2 T N ds rs x O,⟨sA rs N 0 x,0,x,aM N,[(t2,x,aM N)],[],by decide,by omega,hx,rfl,?_,rfl,λL t=>t,rfl,z12⟩,?_⟩
 ·have:=uQ (rs:=rs) (N:=N) (at_:=0) (x:=x);have e:rs.length-Int.toNat 0=rs.length:=by simp
  rw[e] at this;simp only[length_singleton]
  omega
 clear z12;rintro n U H ⟨at_,x1,cs1,S,P,a0,a1,hx1,rfl,hn,hS,hT,rfl,zz⟩;obtain ⟨g0,g1,g2⟩:=Gz (x:=x1) (cs:=cs1) (ws:=aH N) a0 a1 ok;left;refine ⟨rfl,?_⟩;refine ae B8 zz .here rfl rfl ?_;left;refine tG (rs:=rs) ro nofun hbl a0 nofun hd.app.more.more.more zz (λH2 z2=>?_);have ho:=λL=>Tr.on (rs:=rs) (ws:=aH N) (at_:=at_) (x:=x1) (cs:=cs1) (L:=L)
 have hst:=Tr.stop (rs:=rs) (ws:=aH N) (at_:=at_) (x:=x1) (cs:=cs1);have hps:=xJ (rs:=rs) (at_:=at_) (x:=x1) (cs:=cs1) (ws:=aH N) hx1.2.2.2.1 a0 ok (by rw[aR];exact s1);have hok:=wb (rs:=rs) (at_:=at_) (cs:=cs1) hbl hx1 (ws:=aH N) (by rw[aR];exact s1);rw[aR] at hps;generalize hm:mS rs at_ x1 cs1 (aH N)=M at z2 g0 g1 g2 ho hst hps hok
 obtain ⟨word,at2,x2,cs2⟩:=M;dsimp only at z2 g0 g1 g2 ho hst hps hok;clear zz;rcases g2 with rfl|⟨hwd,rfl,rfl,rfl⟩
 ·obtain ⟨p1,p2⟩:=hps rfl;left;refine mz rfl rfl ?_;left;refine bt (by rw[om rfl]) ?_;refine ⟨λσ' H'=>GU R L b m l2 s2 a b2 T N ds rs x O (sA rs N at2 x2) σ' H',λσ' H' h=>⟨_,p1,h⟩,?_⟩;left;refine ⟨T,_,rfl,z2.get (.there (.there (.there .here))),?_⟩;obtain ⟨dx,z3⟩:=Cy z2;left;refine ⟨rfl,?_⟩;refine bN z3.at rfl rfl rfl ?_;clear z3;refine ae aS z2 (.there (.there .here)) rfl rfl ?_;left;refine mC ro nofun z2 (.there (.there .here)) (λt3 H3 z4=>?_);right;refine ae bF z4 (.there (.there .here)) rfl rfl ?_;left;refine qO nofun z4 (.there (.there .here)) (λl4 vs2 H4 z5=>?_);left;refine az z5 (Nat.le_of_ble_eq_true rfl) (λt4 H5 z6=>?_);left;refine ⟨_,z6.get (.there (.there (.there (.there (.there (.there (.there .here))))))),Bv z6 (.there (.there (.there (.there (.there (.there (.there .here))))))) (by rw[length_map];omega) (λH6 z7=>?_)⟩;refine ⟨at2,x2,cs2,S++[(t4,x2,cs2)],P++[(x1,cs1)],g0,g1,hok,rfl,by rw[length_append,length_singleton];omega,by rw[map_append,hS];rfl,λL t=>?_,rfl,?_⟩
  ·rw[append_assoc];exact hT _ (ho L rfl t)
  ·rw[List.reverse_append,map_append,map_append,append_assoc];have z8:Sep (jS (t4,x2,cs2)::tB R m l2 s2 b2 at2 ds::bQ R a cs2 (aH N)::ay R b2 x2::pt T (.lst (S.map pA++[.ref t4]))::pt L (.lst ds)::ay R b x::(S.reverse.map jS++O)) H6:=G0 (b:=t3) (l:=l4) (vs:=vs2) (z7.toT.sub (by ac_nf));show Sep (tB R m l2 s2 b2 at2 ds::bQ R a cs2 (aH N)::ay R b2 x2::pt T (.lst (S.map pA++[.ref t4]))::pt L (.lst ds)::ay R b x::jS (t4,x2,cs2)::(S.reverse.map jS++O)) H6;exact z8.sub (by ac_nf)
 ·have hne:jT (.str word) (.str "on")=false:=by rcases hwd with rfl|rfl<;>decide+kernel
  left;refine mz rfl rfl ?_;left;refine bb hne ?_;left;refine q T S H2 nofun ?_ (z2.sub (by ac_nf));rw[hS];exact hT _ (hst (by rcases hwd with rfl|rfl<;>decide+kernel))
end
def EW {d:Str}{c:Int}:ah (aH N) d c=(decide (0<=c)&&decide (c<(N:Int))):=by
 rw[B9 (ws:=aH N) (by rw[aR];rfl),aR]
section
variable {φ:Int->V}{cs:List Int}{ws:List Str}{d p:Addr}
end
abbrev wx (O:List aw)(ss:List V)(rs:List Rw):Prop:=ss.length=rs.length/\(∀ r ∈ rs,r.ok)/\∀ (i:Nat) (r:Rw),rs[i]? =some r->∃ t Δ,ss[i]? =some (V.ref t)/\ag (tu t r.tl) O Δ
def wx.more {ss:List V}(h:wx O ss rs):wx (A::O) ss rs:=⟨h.1,h.2.1,λi r e=>by
 obtain ⟨a,Δ,e2,p⟩:=h.2.2 i r e;exact ⟨a,_,e2,.there p⟩⟩
section
variable {φ:Int->V}{SP d0 p0 d p T:Addr}{ss:List V}{rs:List Rw}{x x0:Bx}{cs:List Int}{N:Nat}{L:List (Bx×List Int)}{Δ1 Δ2 Δ3:List aw}
end
abbrev qV (p:Addr×Rw):V:=.ref p.1
abbrev ye (R:Rt)(p:Addr×Rw):aw:=ao R p.1 p.2
abbrev ev (cs:List Int)(j:Int):Int:=if j<0 then gt cs (-1-j) else j
section
variable {C T1 T2 t:Addr}{cs:List Int}{j:Int}
def Cm {b:Addr}(h1:H a=some (.tup (ns.map V.int)))(h2:H b=some (.tup (ns.map V.int)))(q:Q (.bl false) H):d8 R.K true (.ref a) (.ref b) H Q:=by
 by_cases e:a=b
 ·subst e;exact ne_self (.inl ⟨_,bc.of h1⟩) q
 ·exact jC (Cw h1 h2) (by decide) e q
end
def iW {O:List aw}:∀ {L:List aw},Sub O (L++O)
 | []=>.refl
 |_::_=>.drop iW
section
variable {h:Addr}{m sz:Int}
end
def qu {cs:List Int}:(aM cs.length).map (ev cs)=cs:=by
 refine ext_getElem? λi=>?_
 unfold aM;rw[getElem?_map,getElem?_map]
 by_cases h:i<cs.length
 ·rw[List.getElem?_range h];show some (ev cs (-1-(i:Int)))=_;unfold ev gt;rw[if_pos nofun,show (-1-(-1-(i:Int))).toNat=i by omega,getElem?_eq_getElem h]
  rfl
 ·rw[getElem?_eq_none (by rw[length_range];omega),getElem?_eq_none nofun]
  rfl
variable {L:List (Bx×List Int)}
def Tr.near (hb:∀ r ∈ rs,aY r) (n60:N<=60) (hx:x.ok) (h:Tr rs (aH N) 0 x (aM N) L):∀ p ∈ L,p.2.length<=60/\∀ j ∈ p.2,j<0-> -1-j<(N:Int):=by
 have w60:(aH N).length<=60:=by rw[aR];exact n60
 have hl:(aM N).length=(aH N).length:=by rw[eA,aR]
 have h2:=Tr.map (f:=λj=>if j< -(N:Int) then 0 else j) (λj hj=>if_neg nofun) hb w60 h hx hl;have e0:(aM N).map (λj=>if j< -(N:Int) then 0 else j)=aM N:=by
  refine (List.map_congr_left (g:=id) λj hj=>?_).trans (List.map_id _);unfold aM at hj;obtain ⟨i,hi,rfl⟩:=List.mem_map.mp hj;rw[mem_range] at hi;exact if_neg nofun
 rw[e0] at h2;have e1:=h.det h2;refine λp hp=>⟨Tr.all (P:=λp=>p.2.length<=60) hb w60 (λx cs _ e=>by dsimp only;omega) h hx hl p hp,λj hj hn=>?_⟩
 obtain ⟨i,hi⟩:=getElem?_of_mem hp;have e2:(L.map (Jc λj=>if j< -(N:Int) then 0 else j))[i]? =some p:=by rw[<-e1];exact hi
 rw[getElem?_map,hi] at e2;have e3:p.2.map (λj=>if j< -(N:Int) then 0 else j)=p.2:=congrArg Prod.snd (Option.some.inj e2);have e4:(if j< -(N:Int) then 0 else j)=j:=by
  obtain ⟨n,hn⟩:=getElem?_of_mem hj;have e5:(p.2.map λj=>if j< -(N:Int) then 0 else j)[n]? =some j:=by rw[e3];exact hn
  rw[getElem?_map,hn] at e5;exact Option.some.inj e5
 split at e4
 ·omega
 ·omega
def uT {j:Int}:∃ w i,uI j=[.str w,.int i]:=by
 unfold uI
 split<;>exact ⟨_,_,rfl⟩
abbrev Dq (H:Hp)(p:Sh):Prop:=∃ b l vs,H p.1=some (.tup [.ref b,.ref l])/\H b=some (.tup (p.2.1.ls.map V.int))/\H l=some (.lst vs)/\vs.length=p.2.2.length/\∀ (i:Nat) v j,vs[i]? =some v->p.2.2[i]? =some j->uq v j H
def Bs (z:Sep O H)(h:ag (jS p) O Δ):Dq H p:=by
 obtain ⟨b,l,vs,z⟩:=D3 (z.pull h);have o:=cG.of (z.pull (.there (.there (.there .here))));exact ⟨b,l,vs,z.atT,z.fq (.there .here),z.get (.there (.there .here)),o.1,o.2⟩
abbrev aV (rs:List Rw)(ws:List Str):Nat->Int->Bx->List Int->Bx×List Int
 |0,_,x,cs=>(x,cs)
 |n+1,at_,x,cs=>aV rs ws n (mS rs at_ x cs ws).at_ (mS rs at_ x cs ws).x (mS rs at_ x cs ws).cs
section
variable {rs:List Rw}{ws:List Str}{at_:Int}{x:Bx}{cs:List Int}{L:List (Bx×List Int)}
def za (h:(mS rs at_ x cs ws).w≠"on"):(mS rs at_ x cs ws).at_=at_/\(mS rs at_ x cs ws).x=x/\(mS rs at_ x cs ws).cs=cs:=by
 unfold mS at h⊢;cases e:rs[at_.toNat]? with
 |none=>exact ⟨rfl,rfl,rfl⟩
 |some r=>
  rw[e] at h;dsimp only at h⊢;cases ho:aU x cs ws r with
  |on n x' cs'=>rw[ho] at h;exact absurd rfl h
  |_=>exact ⟨rfl,rfl,rfl⟩
def cK (h:(mS rs at_ x cs ws).w≠"on"):∀ n,aV rs ws n at_ x cs=(x,cs)
 |0=>rfl
 |n+1=>by
  obtain ⟨e1,e2,e3⟩:=za h;show aV rs ws n _ _ _=_;rw[e1,e2,e3];exact cK h n
def Tr.it (h:Tr rs ws at_ x cs L):∀ b,L[min b (L.length-1)]? =some (aV rs ws b at_ x cs):=by
 induction h with
 |stop h=>intro b;rw[cK h];rw[show min b (([(_,_)]:List (Bx×List Int)).length-1)=0 by simp];rfl
 |on h t ih=>
  obtain ⟨L',rfl⟩:=t.ne;intro b;cases b with
  |zero=>rw[Nat.zero_min];rfl
  |succ b=>
   rw[show min (b+1) ((_::_::L':List (Bx×List Int)).length-1)=min b ((_::L':List (Bx×List Int)).length-1)+1 by simp only[length_cons];omega,List.getElem?_cons_succ];exact ih b
end
def Bx.pP {y:Bx}(h:x.ls=y.ls):x=y:=by
 obtain ⟨a,b,c,d,e,f⟩:=x;obtain ⟨a',b',c',d',e',f'⟩:=y;simp only[Bx.ls,List.cons.injEq,and_true] at h;obtain ⟨rfl,rfl,rfl,rfl,rfl,rfl⟩:=h
 rfl
def sC {j:Int}(h:uI i=uI j):i=j:=by
 unfold uI at h
 split at h<;>split at h<;>simp only[List.cons.injEq,and_true,V.int.injEq,V.str.injEq] at h
 ·omega
 ·exact absurd h.1 (by decide+kernel)
 ·exact absurd h.1 (by decide+kernel)
 ·exact h.2
def sD {n:Nat}{e:Nat->Bool}(h:∀ j,e j=true ↔ P j):(List.range n).all e=true ↔ ∀ j,j<n->P j:=by
 rw[all_eq_true];exact ⟨λa j hj=>(h j).mp (a j (mem_range.mpr hj)),λa j hj=>(h j).mpr (a j (mem_range.mp hj))⟩
section
variable {a b:Addr}{xs ys:List V}{n:Nat}{P:Nat->Prop}
def Gh (h1:H a=some (.lst xs))(h2:H b=some (.lst ys))(hl:xs.length=ys.length)(h:∀ (j:Nat) x y,xs[j]? =some x->ys[j]? =some y->∃ c,eE R.K H (n+1) x y c/\(c=true ↔ P j)):∃ c,eE R.K H (n+2) (.ref a) (.ref b) c/\(c=true ↔ ∀ j,j<xs.length->P j):=by
 classical
 refine ⟨_,eE.ll (e:=λj=>decide (P j)) (bg.of h1) (bg.of h2) hl λj x y e1 e2=>?_,sD λj=>decide_eq_true_iff⟩;obtain ⟨c,hc,hi⟩:=h j x y e1 e2;have:c=decide (P j):=by by_cases p:P j<;>simp_all
 exact this▸hc
def vS (h1:H a=some (.tup xs))(h2:H b=some (.tup ys))(hl:xs.length=ys.length)(h:∀ (j:Nat) x y,xs[j]? =some x->ys[j]? =some y->∃ c,eE R.K H (n+1) x y c/\(c=true ↔ P j)):∃ c,eE R.K H (n+2) (.ref a) (.ref b) c/\(c=true ↔ ∀ j,j<xs.length->P j):=by
 classical
 refine ⟨_,eE.tt (e:=λj=>decide (P j)) (bc.of h1) (bc.of h2) λj x y e1 e2=>?_,?_⟩
 ·obtain ⟨c,hc,hi⟩:=h j x y e1 e2;have:c=decide (P j):=by by_cases p:P j<;>simp_all
  exact this▸hc
 ·rw[<-hl,Nat.min_self,beq_self_eq_true,Bool.and_true];exact sD λj=>decide_eq_true_iff
def BY {j:Int}:∃ c,eE R.K H n (.int i) (.int j) c/\(c=true ↔ i=j):=⟨_,.flat rfl rfl,by show (i ==j)=true ↔ _;simp⟩
def G1 {i j:Str}:∃ c,eE R.K H n (.str i) (.str j) c/\(c=true ↔ i=j):=⟨_,.flat rfl rfl,by show (i ==j)=true ↔ _;simp⟩
end
def sZ {as bs:List α}(hl:as.length=bs.length)(h:∀ j,j<as.length->as[j]? =bs[j]?):as=bs:=ext_getElem? λj=>by
 by_cases e:j<as.length
 ·exact h j e
 ·rw[getElem?_eq_none nofun,getElem?_eq_none nofun]
def Cu {b:Addr}{j:Int}{n:Nat}(h1:H a=some (.tup (uI i)))(h2:H b=some (.tup (uI j))):∃ c,eE R.K H (n+2) (.ref a) (.ref b) c/\(c=true ↔ i=j):=by
 obtain ⟨w1,i1,e1⟩:=uT (j:=i);obtain ⟨w2,i2,e2⟩:=uT (j:=j);have hi:i=j ↔ w1=w2/\i1=i2:=by
  refine ⟨λh=>?_,λ⟨p,q⟩=>sC ?_⟩
  ·subst h;rw[e1] at e2;simp only[List.cons.injEq,and_true,V.int.injEq,V.str.injEq] at e2;exact e2
  ·rw[e1,e2,p,q]
 rw[e1] at h1;rw[e2] at h2;obtain ⟨c,hc,hh⟩:=vS (n:=n) (P:=λm=>([V.str w1,V.int i1])[m]? =([V.str w2,V.int i2])[m]?) h1 h2 rfl λm x y f1 f2=>by
  rcases m with _|_|m
  ·cases f1;cases f2;obtain ⟨c,hc,hh⟩:=G1 (H:=H) (R:=R) (n:=n+1) (i:=w1) (j:=w2);exact ⟨c,hc,hh.trans ⟨λe=>by subst e;rfl,λe=>by have:V.str w1=V.str w2:=Option.some.inj e;exact V.str.inj this⟩⟩
  ·cases f1;cases f2;obtain ⟨c,hc,hh⟩:=BY (H:=H) (R:=R) (n:=n+1) (i:=i1) (j:=i2);exact ⟨c,hc,hh.trans ⟨λe=>by subst e;rfl,λe=>by have:V.int i1=V.int i2:=Option.some.inj e;exact V.int.inj this⟩⟩
  ·simp at f1
 refine ⟨c,hc,hh.trans (Iff.trans ⟨λe=>?_,λ⟨p,q⟩=>?_⟩ hi.symm)⟩
 ·have g0:V.str w1=V.str w2:=Option.some.inj (e 0 (by simp));have g1:V.int i1=V.int i2:=Option.some.inj (e 1 (by simp));exact ⟨V.str.inj g0,V.int.inj g1⟩
 ·subst p q;exact λ_ _=>rfl
def CL {q:Sh}(h1:Dq H p)(h2:Dq H q)(hl:p.2.2.length=q.2.2.length):∃ c,eE R.K H 4 (.ref p.1) (.ref q.1) c/\(c=true ↔ p.2=q.2):=by
 obtain ⟨b1,l1,vs1,a1,a2,a3,a4,a5⟩:=h1;obtain ⟨b2,l2,vs2,c1,c2,c3,c4,c5⟩:=h2;obtain ⟨t1,x1,cs1⟩:=p;obtain ⟨t2,x2,cs2⟩:=q;dsimp only at*;obtain ⟨u,hu,eu⟩:=vS (R:=R) (n:=1) (P:=λm=>x1.ls[m]? =x2.ls[m]?) a2 c2 rfl λm x y f1 f2=>by
  rw[getElem?_map] at f1 f2;obtain ⟨i,g1,rfl⟩:=Option.map_eq_some_iff.mp f1;obtain ⟨j,g2,rfl⟩:=Option.map_eq_some_iff.mp f2;obtain ⟨c,hc,hh⟩:=BY (H:=H) (R:=R) (n:=2) (i:=i) (j:=j);exact ⟨c,hc,by rw[g1,g2];exact hh.trans ⟨λe=>e▸rfl,λe=>Option.some.inj e⟩⟩
 obtain ⟨v,hv,ev⟩:=Gh (R:=R) (n:=1) (P:=λm=>cs1[m]? =cs2[m]?) a3 c3 nofun λm x y f1 f2=>by
  have hm:=(List.getElem?_eq_some_iff.mp f1).1;have g1:cs1[m]? =some (cs1[m]'nofun):=getElem?_eq_getElem _;have g2:cs2[m]? =some (cs2[m]'nofun):=getElem?_eq_getElem _;obtain ⟨s1,rfl,k1⟩:=a5 m _ _ f1 g1;obtain ⟨s2,rfl,k2⟩:=c5 m _ _ f2 g2;obtain ⟨c,hc,hh⟩:=Cu (R:=R) (n:=0) k1 k2;exact ⟨c,hc,by rw[g1,g2];exact hh.trans ⟨λe=>congrArg some e,λe=>Option.some.inj e⟩⟩
 obtain ⟨c,hc,hh⟩:=vS (R:=R) (n:=2) (P:=λm=>(m=0->u=true)/\(m=1->v=true)) a1 c1 rfl λm x y f1 f2=>by
  rcases m with _|_|m
  ·cases f1;cases f2;exact ⟨u,hu,by simp⟩
  ·cases f1;cases f2;exact ⟨v,hv,by simp⟩
  ·simp at f1
 refine ⟨c,hc,hh.trans ⟨λe=>?_,λe=>?_⟩⟩
 ·have g0:=eu.mp ((e 0 (by simp)).1 rfl);have g1:=ev.mp ((e 1 (by simp)).2 rfl);have e1:x1=x2:=Bx.pP (sZ rfl λj hj=>g0 j (by rw[length_map];exact hj));have e2:cs1=cs2:=sZ hl λj hj=>g1 j nofun
  rw[e1,e2]
 ·cases e;exact λj _=>⟨λ_=>eu.mpr λ_ _=>rfl,λ_=>ev.mpr λ_ _=>rfl⟩
def DK {q:Sh}(h1:Dq H p)(h2:Dq H q)(e:p.1=q.1):p.2=q.2:=by
 obtain ⟨b1,l1,vs1,a1,a2,a3,a4,a5⟩:=h1;obtain ⟨b2,l2,vs2,c1,c2,c3,c4,c5⟩:=h2;rw[e,c1] at a1;cases a1;rw[c2] at a2;rw[c3] at a3;cases a3;have e1:p.2.1=q.2.1:=Bx.pP (by
  have:q.2.1.ls.map V.int=p.2.1.ls.map V.int:=HO.tup.inj (Option.some.inj a2);exact (List.map_inj_right (λ_ _ h=>V.int.inj h)).mp this.symm)
 have e2:p.2.2=q.2.2:=sZ nofun λj hj=>by
  have g0:vs1[j]? =some (vs1[j]'nofun):=getElem?_eq_getElem _;have g1:p.2.2[j]? =some (p.2.2[j]'hj):=getElem?_eq_getElem _;have g2:q.2.2[j]? =some (q.2.2[j]'nofun):=getElem?_eq_getElem _;obtain ⟨t,e1,k1⟩:=a5 j _ _ g0 g1;obtain ⟨t2,e2,k2⟩:=c5 j _ _ g0 g2;rw[e1] at e2;cases e2;rw[k1] at k2;rw[g1,g2,sC (HO.tup.inj (Option.some.inj k2))]
 exact Prod.ext e1 e2
def EN {q:Sh}(h1:Dq H p)(h2:Dq H q)(hl:p.2.2.length=q.2.2.length)(q0:p.2=q.2->Q (.bl false) H)(q1:p.2≠q.2->Q (.bl true) H):d8 R.K true (.ref p.1) (.ref q.1) H Q:=by
 by_cases e:p.1=q.1
 ·have:=q0 (DK h1 h2 e);obtain ⟨b1,l1,vs1,a1,_⟩:=h1;rw[<-e];exact ne_self (.inl ⟨_,bc.of a1⟩) this
 ·obtain ⟨c,hc,hh⟩:=CL (R:=R) h1 h2 hl;refine jC hc (by decide) e ?_;cases c with
  |true=>exact q0 (hh.mp rfl)
  |false=>exact q1 λh=>Bool.false_ne_true (hh.mpr h)
abbrev stK (N:Nat):Nat->List Int
 |0=>List.replicate N 0
 |m+1=>(List.replicate N 0).set (N-1-m) 1
def bH:(stK N k).length=N:=by cases k<;>simp[stK]
abbrev ph (C c1 c2:List Int):Prop:=c1.map (ev C)≠c2.map (ev C)
abbrev pv (H:Hp)(l:Addr)(cs:List Int):Prop:=∃ vs,H l=some (.lst vs)/\vs.length=cs.length/\∀ (i:Nat) v j,vs[i]? =some v->cs[i]? =some j->uq v j H
section
variable {T t C l1 l2 b1 b2:Addr}{cs c1 c2:List Int}{j:Int}{S:List Sh}{x1 x2:Bx}{N:Nat}
def ip {b:Nat}(hk:1<=k)(e:H T=some (.lst (S.map pA)))(hp:S[min b (S.length-1)]? =some p)(q:Q (.ref p.1) H):aa tab R k mU [.ref T,.int (b:Int)] H Q E:=by
 refine wc (d:=iq) nofun rfl rfl ?_;have h0:=(List.getElem?_eq_some_iff.mp hp).1;left;refine bU e ?_;rw[length_map];left;refine vq rfl ?_;refine iO e (c6 nofun ?_) q;rw[getElem?_map,show (min (b:Int) ((S.length:Int)-1)).toNat=min b (S.length-1) by omega,hp]
 rfl
def gj (hk:1<=k)(hj:j<0-> -1-j<cs.length)(e1:H t=some (.tup (uI j)))(e2:H C=some (.lst (cs.map V.int)))(q:Q (.int (ev cs j)) H):aa tab R k mf [.ref t,.ref C] H Q E:=by
 refine wc (d:=gd) nofun rfl rfl ?_;unfold uI at e1;unfold ev at q
 by_cases h:j<0
 ·rw[if_pos h] at e1 q;left;refine gh e1 rfl ?_;right
  repeat walk_at "sc"
  refine gh e1 rfl ?_;left;exact iO e2 (FF nofun (hj h)) q
 ·rw[if_neg h] at e1 q;left;refine gh e1 rfl ?_;right
  repeat walk_at "sc"
  exact gh e1 rfl q
def pw (ro:Ro K R)(hk:1<=k)(z:Sep O H)(e1:H b1=some (.tup (x1.ls.map V.int)))(e2:H b2=some (.tup (x2.ls.map V.int)))(q0:x1=x2->∀ H',Sep O H'->Q .non H')
  (q1:∀ (j:Nat) nm,kS[j]? =some nm->x1.ls[j]? ≠x2.ls[j]? ->(∀ i,i<j->x1.ls[i]? =x2.ls[i]?)->∀ H',Sep O H'->Q (.str nm) H'):aa tab R k oy [.ref b1,.ref b2] H Q E:=by
 refine wc (d:=ij) nofun rfl rfl ?_;obtain ⟨a,hg,hS⟩:=ro.g_NAMES;rw[<-ro.hK] at hS;have z2:=Sep.G7 e1 (Sep.G7 e2 z);left;refine ⟨rfl,?_⟩;left;simp only[hg];refine Ij (hS H) ?_;refine zk (xs:=kS.map V.str) (λj U H=>∃ u v,U=[some (.ref b1),some (.ref b2),u,v]/\(∀ i,i<j->x1.ls[i]? =x2.ls[i]?)/\Sep (tu b1 (x1.ls.map V.int)::tu b2 (x2.ls.map V.int)::O) H) ⟨_,_,rfl,λi h=>absurd h (Nat.not_lt_zero _),z2⟩ (λj U H _=>hS H) ?_ ?_
 ·rintro j y T U H hy ⟨u,v,rfl,hb,zz⟩ hT;rw[getElem?_map] at hy;obtain ⟨nm,hn,rfl⟩:=Option.map_eq_some_iff.mp hy;have hj:j<6:=(List.getElem?_eq_some_iff.mp hn).1;have zt:=zz.iA (xs:=[.int j,.str nm]) hT;generalize upd H T _=H2 at zt⊢;have g1:x1.ls[j]? =some (x1.ls[j]'hj):=getElem?_eq_getElem _;have g2:x2.ls[j]? =some (x2.ls[j]'hj):=getElem?_eq_getElem _;left;refine ⟨T,_,rfl,.inl (bc.of zt.atT),rfl,?_⟩;left;refine gh (zt.fq (.there .here)) (L2.cZ (v:=.int (x1.ls[j]'hj)) (by rw[getElem?_map,g1];rfl)) ?_;left;refine gh (zt.fq (.there (.there .here))) (L2.cZ (v:=.int (x2.ls[j]'hj)) (by rw[getElem?_map,g2];rfl)) ?_;right;refine bM (λh=>?_) (λh=>?_)
  ·right;refine ⟨_,_,rfl,λi hi=>?_,zt.drop⟩
   by_cases e:i=j
   ·subst e;rw[g1,g2,h]
   ·exact hb i nofun
  ·right;exact q1 j nm hn (by rw[g1,g2];exact λe=>h (Option.some.inj e)) hb _ zt.drop.drop.drop
 ·rintro U H ⟨u,v,rfl,hb,zz⟩;right;exact q0 (Bx.pP (sZ rfl λj hj=>hb j hj)) H zz.drop.drop
def fD (hk:2<=k)(h60:cs.length<=60)(o1:pv H l1 c1)(o2:pv H l2 c2)(h1:c1.length=cs.length)(h2:c2.length=cs.length)(j1:∀ j ∈ c1,j<0-> -1-j<(cs.length:Int)) (j2:∀ j ∈ c2,j<0-> -1-j<(cs.length:Int)) (e:H C=some (.lst (cs.map V.int)))
  (q0:¬ ph cs c1 c2->Q .non H) (q1:ph cs c1 c2->∀ j:Nat,(c1.map (ev cs))[j]? ≠(c2.map (ev cs))[j]? ->(∀ i,i<j->(c1.map (ev cs))[i]? =(c2.map (ev cs))[i]?)->Q (.int (j:Int)) H):aa tab R k mq [.ref l1,.ref l2,.ref C] H Q E:=by
 refine wc (d:=fV) nofun rfl rfl ?_;obtain ⟨vs1,a1,a2,a3⟩:=o1;obtain ⟨vs2,d1,d2,d3⟩:=o2;left;refine ⟨rfl,?_⟩;refine bU e ?_;rw[length_map];refine ⟨by omega,by omega,?_⟩;rw[Int.toNat_natCast];refine md (n:=cs.length) (λj U H'=>∃ u,U=[some (.ref l1),some (.ref l2),some (.ref C),u]/\(∀ i,i<j->(c1.map (ev cs))[i]? =(c2.map (ev cs))[i]?)/\H'=H) ⟨_,rfl,λi h=>absurd h (Nat.not_lt_zero _),rfl⟩ ?_ ?_
 ·rintro j U H' hj ⟨u,rfl,hb,rfl⟩;have g1:c1[j]? =some (c1[j]'nofun):=getElem?_eq_getElem _;have g2:c2[j]? =some (c2[j]'nofun):=getElem?_eq_getElem _;have f1:vs1[j]? =some (vs1[j]'nofun):=getElem?_eq_getElem _;have f2:vs2[j]? =some (vs2[j]'nofun):=getElem?_eq_getElem _;obtain ⟨t1,u1,k1⟩:=a3 j _ _ f1 g1;obtain ⟨t2,u2,k2⟩:=d3 j _ _ f2 g2;rw[u1] at f1;rw[u2] at f2;left;refine ⟨rfl,?_⟩;refine iO a1 (oj f1) ?_;left;refine gj nofun (j1 _ (mem_of_getElem? g1)) k1 e ?_;left;refine ⟨rfl,?_⟩;refine iO d1 (oj f2) ?_;left;refine gj nofun (j2 _ (mem_of_getElem? g2)) k2 e ?_;right;have m1:(c1.map (ev cs))[j]? =some (ev cs (c1[j]'nofun)):=by rw[getElem?_map,g1];rfl
  have m2:(c2.map (ev cs))[j]? =some (ev cs (c2[j]'nofun)):=by rw[getElem?_map,g2];rfl
  refine bM (λh=>?_) (λh=>?_)
  ·left;refine ⟨_,rfl,λi hi=>?_,rfl⟩
   by_cases e:i=j
   ·subst e;rw[m1,m2,h]
   ·exact hb i nofun
  ·left;rw[Int.zero_add];have hne:(c1.map (ev cs))[j]? ≠(c2.map (ev cs))[j]? :=by rw[m1,m2];exact λe=>h (Option.some.inj e)
   exact q1 (λe=>hne (by rw[e])) j hne hb
 ·rintro U H' ⟨u,rfl,hb,rfl⟩;left;refine q0 λhd=>hd (sZ (by rw[length_map,length_map];omega) λj hj=>hb j ?_)
  rw[length_map] at hj
  omega
noncomputable abbrev Ce:=Addr×List Int
abbrev AL (p:Ce):aw:=pt p.1 (.lst (p.2.map V.int))
abbrev Bo (p:Ce):V:=.ref p.1
def rep0:(List.replicate n.toNat [V.int 0]).flatten=(List.replicate n.toNat (0:Int)).map V.int:=by
 rw[List.map_replicate];generalize n.toNat=m
 induction m with
 |zero=>rfl
 |succ m ih=>rw[replicate_succ,flatten_cons,ih];rfl
def zj {c:Nat}(h:c<N):List.replicate c (0:Int)++[1]++List.replicate (N-c-1) 0=(List.replicate N 0).set c 1:=by
 have e:List.replicate N (0:Int)=List.replicate c 0++0::List.replicate (N-c-1) 0:=by
  rw[<-replicate_succ,List.replicate_append_replicate]
  congr 1
  omega
 rw[e,List.set_append_right _ _ (by simp)];simp
def vZ (hk:1<=k)(n0:1<=N)(n60:N<=60)(z:Sep O H)(q:∀ T (A:List Ce) H',A.map (·.2)=(List.range (N+1)).map (stK N)->Sep (pt T (.lst (A.map Bo))::(A.reverse.map AL++O)) H'->Q (.ref T) H'):aa tab R k iL [.int (N:Int)] H Q E:=by
 refine wc (d:=dD) nofun rfl rfl ?_;right;rename_i l0 H0 z0 l1 H1 z1 T H2 z2;rw[rep0,Int.toNat_natCast] at z1 z2;have z3:Sep (pt T (.lst [.ref l1])::pt l1 (.lst ((List.replicate N (0:Int)).map V.int))::O) H2:=z2.sub (by ac_nf);have z3:Sep (pt T (.lst [.ref l1])::AL (l1,stK N 0)::O) H2:=z3;clear z z0 z1 z2;rw[show ((N:Int)-1- -1).toNat=N by omega];refine xk (n:=N) (λj U H=>∃ (A:List Ce) (u:Option V),U=[some (.int (N:Int)),some (.ref T),u]/\A.map (·.2)=(List.range (j+1)).map (stK N)/\Sep (pt T (.lst (A.map Bo))::(A.reverse.map AL++O)) H) ⟨[(l1,stK N 0)],_,rfl,rfl,z3⟩ ?_ ?_
 ·rintro j U H hj ⟨A,u,rfl,hA,zz⟩;have hAl:A.length=j+1:=by have:=congrArg List.length hA;simpa using this
  clear z3;left;refine ⟨T,_,rfl,zz.at,?_⟩;right;rename_i p1 H1 z1 p2 H2 z2 p3 H3 z3;rw[rep0] at z3;refine cV (ys:=[V.int 1]) z3 (z3.get (.there .here)) z3.at (by simp;omega) (λp4 H4 z4=>?_);clear z1 z2 z3 zz;right;rename_i p5 H5 z5 p6 H6 z6;rw[rep0] at z6;refine cV z6 (z6.get (.there (.there .here))) z6.at (by simp;omega) (λp7 H7 z7=>?_);clear z4 z5 z6;have ec:(List.replicate ((N:Int)-1-(j:Int)).toNat (0:Int)).map V.int++[V.int 1]++(List.replicate ((N:Int)-((N:Int)-1-(j:Int))-1).toNat (0:Int)).map V.int=(stK N (j+1)).map V.int:=by
   rw[show ((N:Int)-1-(j:Int)).toNat=N-1-j by omega,show ((N:Int)-((N:Int)-1-(j:Int))-1).toNat=N-(N-1-j)-1 by omega,show [V.int 1]=[(1:Int)].map V.int from rfl,<-map_append,<-map_append,zj nofun]
   rfl
  rw[ec] at z7;have z8:Sep (pt p7 (.lst ((stK N (j+1)).map V.int))::pt T (.lst (A.map Bo))::(A.reverse.map AL++O)) H7:=z7.sub (by ac_nf);clear z7;left;refine ⟨_,z8.get (.there .here),Bv z8 (.there .here) (by rw[length_map];omega) (λH8 z9=>?_)⟩;refine ⟨A++[(p7,stK N (j+1))],_,rfl,by rw[map_append,hA,show List.range (j+1+1)=List.range (j+1)++[j+1] from List.range_succ,map_append];rfl,?_⟩;rw[List.reverse_append,map_append,map_append,append_assoc];show Sep (pt T (.lst (A.map Bo++[.ref p7]))::pt p7 (.lst ((stK N (j+1)).map V.int))::(A.reverse.map AL++O)) H8;exact z9.pull (.there .here)
 ·rintro U H ⟨A,u,rfl,hA,zz⟩;right;exact q T A H hA zz
end
@[irreducible] noncomputable def BV (I:Nat->Addr->List V->Hp->Prop) (j:Nat) (D:Addr):VK:=λv H4=>∃ zs,H4 D=some (.lst zs)/\zs.length<PySem.sizeLine/\∃ ys2,I (j+1) D ys2 (upd H4 D (.lst (zs++[v])))
def BV.mk {j:Nat}(h1:H3 D=some (.lst ys))(hl:ys.length<=999)(h2:I (j+1) D (ys++[v]) (upd H3 D (.lst (ys++[v])))):BV I j D v H3:=by
 unfold BV;exact ⟨ys,h1,cN nofun,ys++[v],h2⟩
@[irreducible] noncomputable def v5 (I:Nat->Addr->List V->Hp->Prop) (te:TE) (j:Nat) (D:Addr) (rest:St) (x:V):Bool->Hp->Prop:=λb H3=>(b=true->te (some x::rest) H3 λv H4=>BV I j D v H4)/\(b=false->∃ ys2,I (j+1) D ys2 H3)
def v5.t {j:Nat}{x:V}(e:c=true)(h:te (some x::rest) H3 λv H4=>BV I j D v H4):v5 I te j D rest x c H3:=by
 unfold v5;exact ⟨λ_=>h,λz=>(by rw[e] at z;cases z)⟩
def v5.f {j:Nat}{x:V}(e:c=false)(h:I (j+1) D ys H3):v5 I te j D rest x c H3:=by
 unfold v5;exact ⟨λz=>(by rw[e] at z;cases z),λ_=>⟨ys,h⟩⟩
def Bb {KK:W.Frag}{tc:TT}(I:Nat->Addr->List V->Hp->Prop)(hl:∀ j D ys H,I j D ys H->bg KK H a xs) (h0:∀ D,H D=none->I 0 D [] (upd H D (.lst [])))
  (hs:∀ j D ys x H',xs[j]? =some x->I j D ys H'->tc (some x::rest) H' (v5 I te j D rest x))
  (hd:∀ D ys H',I xs.length D ys H'->Q (.ref D) H'):Dn tc te (EF KK a) (none::rest) H Q:=by
 unfold Dn;intro D hD;refine ⟨λi m σ' H'=>m=xs.length-i/\i<=xs.length/\∃ ys x0,σ'=x0::rest/\I i D ys H',⟨xs.length,by simp,Nat.zero_le _,[],none,rfl,h0 D hD⟩,λi m σ' H' ⟨e,hi,ys,x0,e1,h⟩=>?_⟩;subst e1
 by_cases hlt:i<xs.length
 ·refine .inr ⟨⟨xs,xs[i],hl i D ys H' h,getElem?_eq_getElem hlt⟩,λσ2 H2=>∃ ys2 x2,σ2=x2::rest/\I (i+1) D ys2 H2,λσ2 H2 ⟨ys2,x2,f1,f3⟩=>⟨xs.length-(i+1),by omega,rfl,hlt,ys2,x2,f1,f3⟩,λx H'' y=>?_⟩;obtain ⟨e1,hy⟩:=y;subst e1;have z:=hs i D ys x H'' (hy xs (hl i D ys H'' h)) h;have e:v5 I te i D rest x=λb H3=>(b=true->te (some x::rest) H3 λv H4=>∃ zs,H4 D=some (.lst zs)/\zs.length<PySem.sizeLine/\∃ ys2 x2,some x::rest=x2::rest/\I (i+1) D ys2 (upd H4 D (.lst (zs++[v]))))/\(b=false->∃ ys2 x2,some x::rest=x2::rest/\I (i+1) D ys2 H3):=by
   funext b H3
   unfold v5;have e2:(λv H4=>BV I i D v H4)=λv H4=>∃ zs,H4 D=some (.lst zs)/\zs.length<PySem.sizeLine/\∃ ys2 x2,some x::rest=x2::rest/\I (i+1) D ys2 (upd H4 D (.lst (zs++[v]))):=by
    funext v H4
    unfold BV;exact propext ⟨λ⟨zs,a,b,ys2,c⟩=>⟨zs,a,b,ys2,_,rfl,c⟩,λ⟨zs,a,b,ys2,_,_,c⟩=>⟨zs,a,b,ys2,c⟩⟩
   rw[e2];exact propext ⟨λ⟨p,q⟩=>⟨p,λz=>let ⟨y,w⟩:=q z;⟨y,_,rfl,w⟩⟩,λ⟨p,q⟩=>⟨p,λz=>let ⟨y,_,_,w⟩:=q z;⟨y,w⟩⟩⟩
  rw[e] at z;exact z
 ·have:i=xs.length:=by omega
  subst this;exact .inl ⟨⟨xs,hl _ D ys H' h,Nat.le_refl _⟩,hd D ys H' h⟩
def Df {c1 c2:List Int}(hl:c1.length=c2.length)(j1:∀ j ∈ c1,j<0-> -1-j<(N:Int)) (j2:∀ j ∈ c2,j<0-> -1-j<(N:Int)) (h:c1≠c2):∃ k,k<=N/\ph (stK N k) c1 c2:=by
 obtain ⟨i,hi,ne⟩:∃ i,i<c1.length/\c1[i]? ≠c2[i]? :=Classical.byContradiction λg=>h (sZ hl λi hi=>Classical.byContradiction λe=>g ⟨i,hi,e⟩)
 have g1:c1[i]? =some (c1[i]'hi):=getElem?_eq_getElem _;have g2:c2[i]? =some (c2[i]'nofun):=getElem?_eq_getElem _;have a1:=j1 _ (mem_of_getElem? g1);have a2:=j2 _ (mem_of_getElem? g2);generalize c1[i]'hi=u at g1 a1;generalize c2[i]'nofun=v at g2 a2;rw[g1,g2] at ne;have ne:u≠v:=λe=>ne (by rw[e])
 have key:∀ k,ev (stK N k) u≠ev (stK N k) v->ph (stK N k) c1 c2:=λk hk e=>by
  have e2:(c1.map (ev (stK N k)))[i]? =(c2.map (ev (stK N k)))[i]? :=by rw[e]
  rw[getElem?_map,getElem?_map,g1,g2] at e2;exact hk (Option.some.inj e2)
 have z0:∀ m,gt (stK N 0) m=0:=λm=>by
  unfold gt stK;rw[getElem?_replicate]
  split<;>rfl
 have one:∀ m:Nat,m<N->∀ n:Int,0<=n->gt (stK N (N-1-m+1)) n=if n=(m:Int) then 1 else 0:=λm hm n hn=>by
  show ((List.replicate N (0:Int)).set (N-1-(N-1-m)) 1)[n.toNat]?.getD 0=_;rw[show N-1-(N-1-m)=m by omega,getElem?_set]
  by_cases e:n=(m:Int)
  ·rw[if_pos nofun,if_pos (by simpa using hm),if_pos e];rfl
  ·rw[if_neg nofun,if_neg e,getElem?_replicate]
   split<;>rfl
 by_cases hu:u<0
 ·by_cases hv:v<0
  ·refine ⟨N-1-(-1-u).toNat+1,by omega,key _ ?_⟩;unfold ev;rw[if_pos hu,if_pos hv,one _ nofun _ nofun,one _ nofun _ nofun,if_pos nofun,if_neg nofun]
   decide
  ·by_cases e:v=0
   ·refine ⟨N-1-(-1-u).toNat+1,by omega,key _ ?_⟩;unfold ev;rw[if_pos hu,if_neg hv,one _ nofun _ nofun,if_pos nofun,e]
    decide
   ·refine ⟨0,Nat.zero_le _,key _ ?_⟩;unfold ev;rw[if_pos hu,if_neg hv,z0];exact λh=>e h.symm
 ·by_cases hv:v<0
  ·by_cases e:u=0
   ·refine ⟨N-1-(-1-v).toNat+1,by omega,key _ ?_⟩;unfold ev;rw[if_neg hu,if_pos hv,one _ nofun _ nofun,if_pos nofun,e]
    decide
   ·refine ⟨0,Nat.zero_le _,key _ ?_⟩;unfold ev;rw[if_neg hu,if_pos hv,z0];exact e
  ·refine ⟨0,Nat.zero_le _,key _ ?_⟩;unfold ev;rw[if_neg hu,if_neg hv];exact ne
def pv.of {cs:List Int}(z:Sep O H)(p1:ag (pt l (.lst vs)) O Δ)(p2:ag (cG vs cs) O Δ'):pv H l cs:=⟨vs,z.get p1,(cG.of (z.pull p2)).1,(cG.of (z.pull p2)).2⟩
section
variable {l1 l2:Addr}{c1 c2:List Int}{v1 v2:List V}{N:Nat}{Δ1 Δ2 Δ3 Δ4:List aw}
def AG (hk:3<=k)(n0:1<=N)(n60:N<=60)(h1:c1.length=N)(h2:c2.length=N)(j1:∀ j ∈ c1,j<0-> -1-j<(N:Int)) (j2:∀ j ∈ c2,j<0-> -1-j<(N:Int)) (hne:c1≠c2) (z:Sep O H) (p1:ag (pt l1 (.lst v1)) O Δ1) (p2:ag (cG v1 c1) O Δ2) (p3:ag (pt l2 (.lst v2)) O Δ3) (p4:ag (cG v2 c2) O Δ4)
  (q:∀ C k H',k<=N->ph (stK N k) c1 c2->(∀ i,i<k->¬ ph (stK N i) c1 c2)->Sep (pt C (.lst ((stK N k).map V.int))::O) H'->Q (.ref C) H'):aa tab R k jX [.ref l1,.ref l2] H Q E:=by
 refine wc (d:=eO) nofun rfl rfl ?_;have hv:=(cG.of (z.pull p2)).1;left;refine ⟨rfl,?_⟩;left;refine ⟨rfl,?_⟩;refine bU (z.get p1) ?_;rw[hv,h1];left;refine vZ nofun n0 n60 z (λT A H1 hA z1=>?_);have hAl:A.length=N+1:=by have:=congrArg List.length hA;simpa using this
 have hAi:∀ (i:Nat) (a:Ce),A[i]? =some a->a.2=stK N i:=λi a e=>by
  have hi:=(List.getElem?_eq_some_iff.mp e).1;have e2:(A.map (·.2))[i]? =some a.2:=by rw[getElem?_map,e];rfl
  rw[hA,getElem?_map,List.getElem?_range nofun] at e2;exact (Option.some.inj e2).symm
 clear z;left;refine DT z1.at ?_;refine Bb (xs:=A.map Bo) (λj D ys H=>ys.length<=j/\((ys=[]/\∀ i,i<j->¬ ph (stK N i) c1 c2)\/∃ (m:Nat) (a:Ce),m<j/\A[m]? =some a/\ph (stK N m) c1 c2/\(∀ i,i<m->¬ ph (stK N i) c1 c2)/\ys[0]? =some (.ref a.1))/\Sep (pt D (.lst ys)::pt T (.lst (A.map Bo))::(A.reverse.map AL++O)) H) (λj D ys H hI=>bg.of (hI.2.2.get (.there .here))) (λD hD=>⟨Nat.le_refl _,.inl ⟨rfl,λi h=>absurd h (Nat.not_lt_zero _)⟩,z1.new (o:=.lst []) hD⟩) (λj D ys y H hy hI=>?_) (λD ys H hI=>?_)
 ·obtain ⟨hyl,hc,zz⟩:=hI;have hjl:=(List.getElem?_eq_some_iff.mp hy).1;rw[length_map] at hjl;rw[getElem?_map] at hy;obtain ⟨⟨a,st⟩,g,rfl⟩:=Option.map_eq_some_iff.mp hy;have es:st=stK N j:=hAi j _ g;subst es;obtain ⟨Θ,f⟩:=cJ (f:=AL) (x:=(a,stK N j)) (l:=A.reverse) (by have:=mem_of_getElem? g;simpa using this);clear z1;left;refine ⟨rfl,?_⟩;have hlen:(stK N j).length=N:=bH;refine fD (cs:=stK N j) (c1:=c1) (c2:=c2) nofun nofun (pv.of zz (.there (.there (aG p1))) (.there (.there (aG p2)))) (pv.of zz (.there (.there (aG p3))) (.there (.there (aG p4)))) nofun nofun (by rw[hlen];exact j1) (by rw[hlen];exact j2) (zz.get (o:=.lst ((stK N j).map V.int)) (.there (.there (f O)))) (λhd=>?_) (λhd m hm1 hm2=>?_)
  ·left;refine iS ?_;refine v5.f rfl ⟨by omega,?_,zz⟩;rcases hc with ⟨e,hb⟩|⟨m,a',hm,g',d',hb,e⟩
   ·refine .inl ⟨e,λi hi=>?_⟩
    by_cases h:i=j
    ·subst h;exact hd
    ·exact hb i nofun
   ·exact .inr ⟨m,a',by omega,g',d',hb,e⟩
  ·left;refine iS ?_;refine v5.t rfl ?_;left;refine BV.mk zz.at nofun ⟨by rw[length_append,length_singleton];omega,?_,zz.set rfl⟩;rcases hc with ⟨e,hb⟩|⟨m',a',hm,g',d',hb,e⟩
   ·exact .inr ⟨j,_,Nat.lt_succ_self _,g,hd,hb,by rw[e];rfl⟩
   ·refine .inr ⟨m',a',by omega,g',d',hb,?_⟩;have:=(List.getElem?_eq_some_iff.mp e).1;rw[getElem?_append_left this];exact e
 ·obtain ⟨hyl,hc,zz⟩:=hI;rw[length_map] at hc;clear z1;obtain ⟨m,a,hm,g,d,hb,e⟩:∃ (m:Nat) (a:Ce),m<A.length/\A[m]? =some a/\ph (stK N m) c1 c2/\(∀ i,i<m->¬ ph (stK N i) c1 c2)/\ys[0]? =some (.ref a.1):=by
   rcases hc with ⟨_,hb⟩|h
   ·obtain ⟨k,hk,d⟩:=Df (N:=N) (h1.trans h2.symm) j1 j2 hne;exact absurd d (hb k nofun)
   ·exact h
  have es:=hAi m a g;obtain ⟨Θ,f⟩:=cJ (f:=AL) (x:=a) (l:=A.reverse) (by have:=mem_of_getElem? g;simpa using this);left;refine iO zz.at (L2.cZ (j:=0) e) ?_;have z2:Sep (AL a::pt D (.lst ys)::pt T (.lst (A.map Bo))::(Θ++O)) H:=zz.pull (.there (.there (f O)));obtain ⟨a,st⟩:=a;have es:st=stK N m:=es;subst es;have z3:Sep (pt a (.lst ((stK N m).map V.int))::pt D (.lst ys)::pt T (.lst (A.map Bo))::(Θ++O)) H:=z2;exact q a m H nofun d hb (z3.sub (.cons .here (.drop (.drop iW))))
end
def Tr.len (hb:∀ r ∈ rs,aY r) (n60:N<=60) (hx:x.ok) (h:Tr rs (aH N) 0 x (aM N) L):∀ p ∈ L,p.2.length=N:=
 Tr.all (P:=λp=>p.2.length=N) hb (by rw[aR];exact n60) (λx cs _ e=>by dsimp only;rw[e,aR]) h hx (by rw[eA,aR])
def lK {O Γ':List aw}(h:Sub O Γ'):∀ {L:List aw},Sub O (L++Γ')
 | []=>h
 |_::_=>.drop (lK h)
inductive Al where
 |al
 |bx (b:Nat) (nm:Str)
 |ce (b k c:Nat)
abbrev Al.u:Al->List V
 | .al=>[]
 | .bx _ nm=>[.str "box",.str nm]
 | .ce _ _ c=>[.str "cell",.int (c:Int)]
abbrev Al.kk:Al->Nat
 | .ce _ k _=>k
 |_=>0
abbrev Al.b:Al->Nat
 | .ce b _ _=>b
 | .bx b _=>b
 | .al=>0
abbrev gg (N:Nat)(t:Addr):Al->aw
 | .al=>pt t (.tup [.str "alike"])
 |o=>bx λq:Addr×Addr=>[pt t (.tup [.str "parted",.int (o.b:Int),.ref q.1,.ref q.2]),pt q.1 (.lst ((stK N o.kk).map V.int)),tu q.2 o.u]
abbrev bW (N:Nat)(s1 s2:Nat->Bx×List Int):Al->Prop
 | .al=>∀ b,s1 b=s2 b
 | .bx b nm=>(∀ i,i<b->s1 i=s2 i)/\∃ j:Nat,kS[j]? =some nm/\(s1 b).1.ls[j]? ≠(s2 b).1.ls[j]? /\∀ i,i<j->(s1 b).1.ls[i]? =(s2 b).1.ls[i]?
 | .ce b k c=>(∀ i,i<b->s1 i=s2 i)/\(s1 b).1=(s2 b).1/\ph (stK N k) (s1 b).2 (s2 b).2/\(∀ i,i<k->¬ ph (stK N i) (s1 b).2 (s2 b).2)/\((s1 b).2.map (ev (stK N k)))[c]? ≠((s2 b).2.map (ev (stK N k)))[c]? /\∀ i,i<c->((s1 b).2.map (ev (stK N k)))[i]? =((s2 b).2.map (ev (stK N k)))[i]?
section
variable {N:Nat}{s1 s2:Nat->Bx×List Int}
def gp {i j:Nat}(h1:P i)(l1:∀ m,m<i->¬ P m) (h2:P j) (l2:∀ m,m<j->¬ P m):i=j:=by
 rcases Nat.lt_trichotomy i j with h|h|h
 ·exact absurd h1 (l2 i h)
 ·exact h
 ·exact absurd h2 (l1 j h)
def bW.ne {o:Al}(h:bW N s1 s2 o)(ho:o≠.al):s1 o.b≠s2 o.b/\∀ m,m<o.b->¬ s1 m≠s2 m:=by
 cases o with
 |al=>exact absurd rfl ho
 |bx b nm=>obtain ⟨h1,j,_,h2,_⟩:=h;exact ⟨λe=>h2 (by show (s1 b).1.ls[j]? =_;rw[show s1 b=s2 b from e]),λm hm e=>e (h1 m hm)⟩
 |ce b k c=>obtain ⟨h1,_,_,_,h2,_⟩:=h;exact ⟨λe=>h2 (by rw[show s1 b=s2 b from e]),λm hm e=>e (h1 m hm)⟩
def bW.det {o o':Al}(h:bW N s1 s2 o)(h':bW N s1 s2 o'):o=o':=by
 by_cases ho:o=.al
 ·subst ho
  by_cases ho':o'=.al
  ·exact ho'.symm
  ·exact absurd (h _) (h'.ne ho').1
 ·by_cases ho':o'=.al
  ·subst ho';exact absurd (h' _) (h.ne ho).1
  ·have eb:o.b=o'.b:=gp (P:=λm=>s1 m≠s2 m) (h.ne ho).1 (h.ne ho).2 (h'.ne ho').1 (h'.ne ho').2;cases o with
   |al=>exact absurd rfl ho
   |bx b nm=>
    cases o' with
    |al=>exact absurd rfl ho'
    |bx b' nm'=>
     have eb:b=b':=eb;subst eb;obtain ⟨_,j,e1,a1,a2⟩:=h;obtain ⟨_,j',e2,d1,d2⟩:=h';have ej:j=j':=gp (P:=λm=>(s1 b).1.ls[m]? ≠(s2 b).1.ls[m]?) a1 (λm hm e=>e (a2 m hm)) d1 (λm hm e=>e (d2 m hm));subst ej;rw[e1] at e2;cases e2
     rfl
    |ce b' k' c'=>
     have eb:b=b':=eb;subst eb;obtain ⟨_,j,_,a1,_⟩:=h;exact absurd (by rw[h'.2.1]) a1
   |ce b k c=>
    cases o' with
    |al=>exact absurd rfl ho'
    |bx b' nm'=>
     have eb:b=b':=eb;subst eb;obtain ⟨_,j,_,a1,_⟩:=h';exact absurd (by rw[h.2.1]) a1
    |ce b' k' c'=>
     have eb:b=b':=eb;subst eb;obtain ⟨_,_,a1,a2,a3,a4⟩:=h;obtain ⟨_,_,d1,d2,d3,d4⟩:=h';have ek:k=k':=gp (P:=λm=>ph (stK N m) (s1 b).2 (s2 b).2) a1 a2 d1 d2;subst ek;have ec:c=c':=gp (P:=λm=>((s1 b).2.map (ev (stK N k)))[m]? ≠((s2 b).2.map (ev (stK N k)))[m]?) a3 (λm hm e=>e (a4 m hm)) d3 (λm hm e=>e (d4 m hm));subst ec
     rfl
def bW.symm {o:Al}(h:bW N s1 s2 o):bW N s2 s1 o:=by
 cases o with
 |al=>exact λb=>(h b).symm
 |bx b nm=>obtain ⟨h1,j,e,a,d⟩:=h;exact ⟨λi hi=>(h1 i hi).symm,j,e,a.symm,λi hi=>(d i hi).symm⟩
 |ce b k c=>obtain ⟨h1,h2,h3,h4,h5,h6⟩:=h;exact ⟨λi hi=>(h1 i hi).symm,h2.symm,h3.symm,λi hi e=>h4 i hi e.symm,h5.symm,λi hi=>(h6 i hi).symm⟩
end
section
variable {N b:Nat}{t1 t2 b1 b2 l1 l2:Addr}{x1 x2:Bx}{c1 c2:List Int}{v1 v2:List V}{s1 s2:Nat->Bx×List Int}
noncomputable abbrev GA (t1 b1 l1 t2 b2 l2:Addr)(x1 x2:Bx)(v1 v2:List V)(c1 c2:List Int)(O:List aw):List aw:=tu t1 [.ref b1,.ref l1]::tu b1 (x1.ls.map V.int)::pt l1 (.lst v1)::cG v1 c1::tu t2 [.ref b2,.ref l2]::tu b2 (x2.ls.map V.int)::pt l2 (.lst v2)::cG v2 c2::O
def uK (ro:Ro K R)(hk:4<=k)(n0:1<=N)(n60:N<=60)(e1:s1 b=(x1,c1))(e2:s2 b=(x2,c2))(h1:c1.length=N)(h2:c2.length=N)(j1:∀ j ∈ c1,j<0-> -1-j<(N:Int)) (j2:∀ j ∈ c2,j<0-> -1-j<(N:Int)) (hb:∀ i,i<b->s1 i=s2 i) (hne:s1 b≠s2 b)
  (z:Sep (GA t1 b1 l1 t2 b2 l2 x1 x2 v1 v2 c1 c2 O) H) (q:∀ t o H',bW N s1 s2 o->Sep (gg N t o::GA t1 b1 l1 t2 b2 l2 x1 x2 v1 v2 c1 c2 O) H'->Q (.ref t) H'):aa tab R k vW [.int (b:Int),.ref t1,.ref t2] H Q E:=by
 refine wc (d:=nP) nofun rfl rfl ?_;have hv:=(cG.of (z.pull (.there (.there (.there .here))))).1;left;refine ⟨rfl,?_⟩;refine gh z.atT rfl ?_;left;refine gh (z.fq (.there (.there (.there (.there .here))))) rfl ?_;left;refine pw ro nofun z (z.fq (.there .here)) (z.fq (.there (.there (.there (.there (.there .here)))))) (λex H1 z1=>?_) (λj nm hn hj hi H1 z1=>?_)
 ·have hc:c1≠c2:=λe=>hne (by rw[e1,e2,ex,e])
  clear z;left;refine iS ?_;left;refine bb rfl ?_;left;refine ⟨rfl,?_⟩;refine gh z1.atT rfl ?_;left;refine gh (z1.fq (.there (.there (.there (.there .here))))) rfl ?_;left;refine AG (c1:=c1) (c2:=c2) nofun n0 n60 h1 h2 j1 j2 hc z1 (.there (.there .here)) (.there (.there (.there .here))) (.there (.there (.there (.there (.there (.there .here)))))) (.there (.there (.there (.there (.there (.there (.there .here))))))) (λC m H2 hm hd hl z2=>?_);clear z1;have hlen:(stK N m).length=N:=bH;left;refine ⟨rfl,?_⟩;refine gh (z2.fq (.there .here)) rfl ?_;left;refine gh (z2.fq (.there (.there (.there (.there (.there .here)))))) rfl ?_;left;refine fD (cs:=stK N m) (c1:=c1) (c2:=c2) nofun nofun (pv.of z2 (.there (.there (.there .here))) (.there (.there (.there (.there .here))))) (pv.of z2 (.there (.there (.there (.there (.there (.there (.there .here))))))) (.there (.there (.there (.there (.there (.there (.there (.there .here))))))))) nofun nofun (by rw[hlen];exact j1) (by rw[hlen];exact j2) z2.at (λhd2=>absurd hd hd2) (λ_ c hc1 hc2=>?_);left;refine az z2 (Nat.le_of_ble_eq_true rfl) (λu H3 z3=>?_);left;refine az z3.toT (Nat.le_of_ble_eq_true rfl) (λt H4 z4=>?_);refine q t (.ce b m c) H4 ⟨hb,by rw[e1,e2];exact ex,by rw[e1,e2];exact hd,by rw[e1,e2];exact hl,by rw[e1,e2];exact hc1,by rw[e1,e2];exact hc2⟩ ?_;exact fz (C,u) (z4.sub (.cons .here (.cons (.there .here) (.cons .here .refl))))
 ·clear z;left;refine iS ?_;left;refine bt rfl ?_;left;refine aj z1 (Nat.le_of_ble_eq_true rfl) (λl0 H2 z2=>?_);left;refine gh (z2.fq (.there .here)) rfl ?_;left;refine bU (z2.get (.there (.there (.there .here)))) ?_;rw[hv,h1];left;refine oz z2 z2.at nofun nofun (by decide) (λC H3 z3=>?_);rw[rep0,Int.toNat_natCast] at z3;left;refine az z3 (Nat.le_of_ble_eq_true rfl) (λu H4 z4=>?_);left;refine az z4.toT (Nat.le_of_ble_eq_true rfl) (λt H5 z5=>?_);refine q t (.bx b nm) H5 ⟨hb,j,hn,by rw[e1,e2];exact hj,by rw[e1,e2];exact hi⟩ ?_;exact fz (C,u) (z5.sub (.cons .here (.cons (.there .here) (.cons .here (.drop .refl)))))
end
section
variable {N:Nat}{L1 L2 B:Addr}{d1 d2:List V}{rs1 rs2:List Rw}{x:Bx}
def lC (ro:Ro K R)(hk:13<=k)(n1:1<=rs1.length/\rs1.length<=24)(n2:1<=rs2.length/\rs2.length<=24)(ok1:∀ r ∈ rs1,r.ok) (ok2:∀ r ∈ rs2,r.ok) (hb1:rs1.any bA=false) (hb2:rs2.any bA=false) (hd1:cy R O d1 rs1) (hd2:cy R O d2 rs2) (s0:1<=N) (s60:N<=60) (z:Sep (pt L1 (.lst d1)::pt L2 (.lst d2)::ay R B x::O) H)
  (q:∀ t o H',bW N (λb=>aV rs1 (aH N) b 0 x (aM N)) (λb=>aV rs2 (aH N) b 0 x (aM N)) o->Sep (gg N t o::pt L1 (.lst d1)::pt L2 (.lst d2)::ay R B x::O) H'->Q (.ref t) H'):aa tab R k AJ [.ref L1,.ref L2,.ref B,.int (N:Int)] H Q E:=by
 refine wc (d:=so) nofun rfl rfl ?_;have bl:∀ {rs:List Rw},rs.any bA=false->∀ r ∈ rs,aY r:=λh r hr=>nJ (by
  have:=any_eq_false.mp h r hr;simpa using this)
 have hx:x.ok:=ky z (.there (.there .here));left;refine ⟨rfl,?_⟩;refine kB (N:=N) (rs:=rs1) (O:=pt L2 (.lst d2)::O) ro nofun n1.1 n1.2 ok1 hb1 hd1.more s0 s60 (z.sub (by ac_nf)) (λT1 S1 H1 hS1 hT1 z1=>?_);clear z;left;refine ⟨rfl,?_⟩;have z1a:=z1.pull (A:=pt L2 (.lst d2)) (.there (.there (.there (aG .here))));refine kB (N:=N) (rs:=rs2) (O:=pt T1 (.lst (S1.map pA))::pt L1 (.lst d1)::(S1.reverse.map jS++O)) ro nofun n2.1 n2.2 ok2 hb2 hd2.app.more.more s0 s60 (z1a.pull (.there (.there (.there .here))) |>.pull (.there .here)) (λT2 S2 H2 hS2 hT2 z2=>?_);clear z1 z1a;have it1:=hT1.it;have it2:=hT2.it;have near1:=Tr.near (bl hb1) s60 hx hT1;have near2:=Tr.near (bl hb2) s60 hx hT2;have len1:=Tr.len (bl hb1) s60 hx hT1;have len2:=Tr.len (bl hb2) s60 hx hT2;rw[length_map] at it1 it2;have get:∀ {S:List Sh}{i:Nat}{y:Bx×List Int},(S.map (·.2))[i]? =some y->∃ p,S[i]? =some p/\p.2=y:=λ{S i y} h=>by
  rw[getElem?_map] at h;exact Option.map_eq_some_iff.mp h
 left;refine ⟨rfl,?_⟩;refine bU (z2.get (a:=T1) (o:=.lst (S1.map pA)) (.there (.there (.there (aG .here))))) ?_;left;refine bU z2.at ?_;rw[length_map,length_map];left;refine w6 rfl ?_;refine ⟨by omega,by omega,?_⟩;refine md (n:=(max (S1.length:Int) (S2.length:Int)).toNat) (λj U H=>∃ u v w,U=[some (.ref L1),some (.ref L2),some (.ref B),some (.int (N:Int)),some (.ref T1),some (.ref T2),u,v,w]/\(∀ i,i<j->aV rs1 (aH N) i 0 x (aM N)=aV rs2 (aH N) i 0 x (aM N))/\Sep (pt T2 (.lst (S2.map pA))::pt L2 (.lst d2)::ay R B x::(S2.reverse.map jS++(pt T1 (.lst (S1.map pA))::pt L1 (.lst d1)::(S1.reverse.map jS++O)))) H) ⟨_,_,_,rfl,λi h=>absurd h (Nat.not_lt_zero _),z2⟩ ?_ ?_
 ·rintro j U H hj ⟨u,v,w,rfl,hb,zz⟩;obtain ⟨p1,g1,y1⟩:=get (it1 j);obtain ⟨p2,g2,y2⟩:=get (it2 j);obtain ⟨Θ1,f1⟩:=cJ (f:=jS) (x:=p1) (l:=S1.reverse) (by have:=mem_of_getElem? g1;simpa using this);obtain ⟨Θ2,f2⟩:=cJ (f:=jS) (x:=p2) (l:=S2.reverse) (by have:=mem_of_getElem? g2;simpa using this);have m1:p1.2 ∈ S1.map (·.2):=List.mem_map.mpr ⟨p1,mem_of_getElem? g1,rfl⟩;have m2:p2.2 ∈ S2.map (·.2):=List.mem_map.mpr ⟨p2,mem_of_getElem? g2,rfl⟩;clear z2;have q1:ag (jS p1) (pt T2 (.lst (S2.map pA))::pt L2 (.lst d2)::ay R B x::(S2.reverse.map jS++(pt T1 (.lst (S1.map pA))::pt L1 (.lst d1)::(S1.reverse.map jS++O)))) _:=.there (.there (.there (aG (.there (.there (f1 O))))));have q2:ag (jS p2) (pt T2 (.lst (S2.map pA))::pt L2 (.lst d2)::ay R B x::(S2.reverse.map jS++(pt T1 (.lst (S1.map pA))::pt L1 (.lst d1)::(S1.reverse.map jS++O)))) _:=.there (.there (.there (f2 _)));left;refine ⟨rfl,?_⟩;rw[Int.zero_add];refine ip nofun (zz.get (a:=T1) (o:=.lst (S1.map pA)) (.there (.there (.there (aG .here))))) g1 ?_;left;refine ⟨rfl,?_⟩;refine ip nofun zz.at g2 ?_;left;refine EN (Bs zz q1) (Bs zz q2) (by rw[len1 _ m1,len2 _ m2]) (λe=>?_) (λe=>?_)
  ·left;refine bb rfl ?_;refine ⟨_,_,_,rfl,λi hi=>?_,zz⟩
   by_cases h:i=j
   ·subst h;rw[<-y1,<-y2,e]
   ·exact hb i nofun
  ·left;refine bt rfl ?_;left;refine ⟨rfl,?_⟩;obtain ⟨t1,x1,c1⟩:=p1;obtain ⟨t2,x2,c2⟩:=p2;obtain ⟨b2,l2,v2,w2⟩:=D3 (zz.pull q2);obtain ⟨b1,l1,v1,w1⟩:=D3 (w2.pull (.there (.there (.there (.there (.there (.there (.there (aG (.there (.there (f1 O))))))))))));refine uK (s1:=λb=>aV rs1 (aH N) b 0 x (aM N)) (s2:=λb=>aV rs2 (aH N) b 0 x (aM N)) ro nofun s0 s60 y1.symm y2.symm (len1 _ m1) (len2 _ m2) (near1 _ m1).2 (near2 _ m2).2 hb (λe2=>e (y1.trans (e2.trans y2.symm))) w1 (λt o H3 ho z3=>q t o H3 ho ?_);have z4:=z3.sub (Γ':=gg N t o::pt L2 (.lst d2)::ay R B x::(Θ2++(pt T1 (.lst (S1.map pA))::pt L1 (.lst d1)::(Θ1++O)))) (.cons .here (.drop (.drop (.drop (.drop (.drop (.drop (.drop (.drop (.drop .refl))))))))));exact (z4.pull (A:=pt L1 (.lst d1)) (.there (.there (.there (aG (.there .here)))))).sub (.cons (.there .here) (.cons .here (.cons .here (.cons .here (lK (.drop iW))))))
 ·rintro U H ⟨u,v,w,rfl,hb,zz⟩;left;refine az zz (Nat.le_of_ble_eq_true rfl) (λt H3 z3=>q t .al H3 (λb=>?_) ?_)
  ·by_cases h:b<max S1.length S2.length
   ·exact hb b nofun
   ·obtain ⟨p1,g1,y1⟩:=get (it1 b);obtain ⟨p2,g2,y2⟩:=get (it2 b);have l1:=(List.getElem?_eq_some_iff.mp g1).1;have e1:=it1 (max S1.length S2.length-1);have e2:=it2 (max S1.length S2.length-1);have hh:=hb (max S1.length S2.length-1) nofun;have k1:=it1 b;have k2:=it2 b;rw[show min b (S1.length-1)=min (max S1.length S2.length-1) (S1.length-1) by omega,e1] at k1;rw[show min b (S2.length-1)=min (max S1.length S2.length-1) (S2.length-1) by omega,e2] at k2;dsimp only;rw[<-Option.some.inj k1,<-Option.some.inj k2,hh]
  ·exact (z3.pull (A:=pt L1 (.lst d1)) (.there (.there (.there (.there (aG (.there .here))))))).sub (.cons (.there .here) (.cons .here (.cons (.there .here) (.cons (.there .here) (.drop (lK (.drop iW)))))))
end
section
variable {rs rs1 rs2:List Rw}{ws:List Str}{at_ n:Int}{x x' x3:Bx}{cs cs':List Int}{r r1 r2:Rw}{N:Nat}{i h t m mt:Int}
def cj (e:rs[at_.toNat]? =some r)(ho:aU x cs ws r=.on n x' cs'):mS rs at_ x cs ws=⟨"on",min (at_+n) rs.length,x',cs'⟩:=by
 unfold mS;rw[e];dsimp only;rw[ho]
def cb {a':Int}(e:mS rs at_ x cs ws=⟨w,a',x',cs'⟩):aV rs ws (k+1) at_ x cs=aV rs ws k a' x' cs':=by
 show aV rs ws k (mS rs at_ x cs ws).at_ (mS rs at_ x cs ws).x (mS rs at_ x cs ws).cs=_;rw[e]
def iV (e:rs[at_.toNat]? =none):aV rs ws k at_ x cs=(x,cs):=cK (by
 unfold mS;rw[e];exact wU) k
def bX {b:Bn}(hf:iI b i=true):aU x cs ws (.sp (.set b i))=.on 1 (x.p i b) cs:=by
 show sX (dh x cs b i)=_;rw[dh,if_pos hf]
 rfl
def BM (h0:0<=i)(h1:i<=1000000000):iI .h i=true:=by
 show (decide (-1000000000<=i)&&decide (i<=1000000000))=true;rw[decide_eq_true nofun,decide_eq_true h1];rfl
def rh (h0:0<=i)(h1:i<=1000000000):iI .t i=true:=BM h0 h1
def rR (h0:0<=i)(h1:i<=1000000000):iI .l i=true:=by
 show (decide (0<=i)&&decide (i<=1000000000))=true;rw[decide_eq_true h0,decide_eq_true h1];rfl
def GS (h0:0<=i)(h1:i<=1000000000):iI .s i=true:=rR h0 h1
noncomputable abbrev cF (mt:Int):Bx:=⟨0,0,0,1,5,mt⟩
noncomputable abbrev aI (h t m:Int)(r:Rw):List Rw:=[.sp (.set .h h),.sp (.set .t t),.sp (.set .l m),r]
def Jk (h0:0<=h)(h1:h<=1000000000)(t0:0<=t)(t1:t<=1000000000)(m0:0<=m)(m1:m<=1000000000):aV (aI h t m r) ws 0 0 (cF mt) cs=(cF mt,cs)/\aV (aI h t m r) ws 1 0 (cF mt) cs=(⟨h,0,0,1,5,mt⟩,cs)/\aV (aI h t m r) ws 2 0 (cF mt) cs=(⟨h,t,0,1,5,mt⟩,cs)/\∀ k,aV (aI h t m r) ws (k+3) 0 (cF mt) cs=aV (aI h t m r) ws k 3 ⟨h,t,m,1,5,mt⟩ cs:=by
 have e1:=cj (rs:=aI h t m r) (at_:=0) (x:=cF mt) (cs:=cs) (ws:=ws) rfl (bX (BM h0 h1));have e2:=cj (rs:=aI h t m r) (at_:=1) (x:=⟨h,0,0,1,5,mt⟩) (cs:=cs) (ws:=ws) rfl (bX (rh t0 t1));have e3:=cj (rs:=aI h t m r) (at_:=2) (x:=⟨h,t,0,1,5,mt⟩) (cs:=cs) (ws:=ws) rfl (bX (rR m0 m1));have f1:∀ k,aV (aI h t m r) ws (k+1) 0 (cF mt) cs=aV (aI h t m r) ws k 1 ⟨h,0,0,1,5,mt⟩ cs:=λk=>cb e1
 have f2:∀ k,aV (aI h t m r) ws (k+1) 1 ⟨h,0,0,1,5,mt⟩ cs=aV (aI h t m r) ws k 2 ⟨h,t,0,1,5,mt⟩ cs:=λk=>cb e2
 have f3:∀ k,aV (aI h t m r) ws (k+1) 2 ⟨h,t,0,1,5,mt⟩ cs=aV (aI h t m r) ws k 3 ⟨h,t,m,1,5,mt⟩ cs:=λk=>cb e3
 exact ⟨rfl,f1 0,(f1 1).trans (f2 0),λk=>(f1 (k+2)).trans ((f2 (k+1)).trans (f3 k))⟩
def qv {P:(Nat->Bx×List Int)->(Nat->Bx×List Int)->Prop}(h0:0<=h)(h1:h<=1000000000)(t0:0<=t)(t1:t<=1000000000)(m0:0<=m)(m1:m<=1000000000)
  (hP:∀ s1 s2:Nat->Bx×List Int,(∀ i,i<4->s1 i=s2 i)->(∀ k,s1 (k+3)=aV (aI h t m r1) ws k 3 ⟨h,t,m,1,5,mt⟩ cs)->(∀ k,s2 (k+3)=aV (aI h t m r2) ws k 3 ⟨h,t,m,1,5,mt⟩ cs)->P s1 s2):P (λb=>aV (aI h t m r1) ws b 0 (cF mt) cs) (λb=>aV (aI h t m r2) ws b 0 (cF mt) cs):=by
 obtain ⟨a0,a1,a2,a3⟩:=Jk (r:=r1) (ws:=ws) (cs:=cs) (mt:=mt) h0 h1 t0 t1 m0 m1;obtain ⟨d0,d1,d2,d3⟩:=Jk (r:=r2) (ws:=ws) (cs:=cs) (mt:=mt) h0 h1 t0 t1 m0 m1;refine hP _ _ (λi hi=>?_) a3 d3;rcases (by omega:i=0\/i=1\/i=2\/i=3) with rfl|rfl|rfl|rfl
 ·exact a0.trans d0.symm
 ·exact a1.trans d1.symm
 ·exact a2.trans d2.symm
 ·exact (a3 0).trans (d3 0).symm
def Dl {s1 s2:Nat->Bx×List Int}(h:∀ i,i<4->s1 i=s2 i) (g:∀ k,s1 (k+3)=s2 (k+3)):∀ b,s1 b=s2 b:=λb=>by
 by_cases e:b<4
 ·exact h b e
 ·rw[show b=b-3+3 by omega];exact g _
def qB (hw:x.w=1)(hc:x.t<=x.h\/x.l=0):aU x cs ws (.lg .copy)=aU x cs ws (.lg .shift):=by
 show ofM (a9 x cs ws)=ofM (aT x cs ws);unfold a9 aT
 by_cases e:x.l=0
 ·rw[if_pos e,if_pos e]
 ·rw[if_neg e,if_neg e,if_pos nofun,hw]
def rP (hl:ws.length<=60):∀ (k:Nat){x:Bx}{cs:List Int},x.w=1->(x.t<=x.h\/x.l=0)->aV (aI h t m (.lg .copy)) ws k 3 x cs=aV (aI h t m (.lg .shift)) ws k 3 x cs
 |0,_,_,_,_=>rfl
 |k+1,x,cs,hw,hc=>by
  have eo:=qB (cs:=cs) (ws:=ws) hw hc;cases ho:aU x cs ws (.lg .copy) with
  |on n x' cs'=>
   have e1:=cj (rs:=aI h t m (.lg .copy)) (at_:=3) rfl ho;have e2:=cj (rs:=aI h t m (.lg .shift)) (at_:=3) rfl (eo▸ho);rw[cb e1,cb e2];have hn:(n=1)\/(n=0/\x'.w=1/\(x'.t<=x'.h\/x'.l=0)):=by
    have ho:ofM (a9 x cs ws)=.on n x' cs':=ho;unfold a9 hm at ho
    split at ho
    ·cases ho;exact .inl rfl
    ·split at ho
     ·split at ho
      ·cases ho
       by_cases e:x.l+ -1=0
       ·exact .inl (if_pos e)
       ·exact .inr ⟨if_neg e,hw,by dsimp only;omega⟩
      ·cases ho
     ·cases ho
   rcases hn with rfl|⟨rfl,w',c'⟩
   ·rw[iV (by rfl),iV (by rfl)]
   ·exact rP hl k w' c'
  |no d c=>
   rw[cK (rs:=aI h t m (.lg .copy)) (by
    unfold mS;rw[show (aI h t m (.lg .copy))[(3:Int).toNat]? =some (.lg .copy) from rfl];dsimp only;rw[ho];exact fE),cK (rs:=aI h t m (.lg .shift)) (by
    unfold mS;rw[show (aI h t m (.lg .shift))[(3:Int).toNat]? =some (.lg .shift) from rfl];dsimp only;rw[<-eo,ho];exact fE)]
  |nf b i=>exact absurd ho (by show ofM (a9 x cs ws)≠_;cases a9 x cs ws<;>exact λe=>by cases e)
def g9 (n60:N<=60)(h0:0<=h)(h1:h<=60)(t0:0<=t)(t1:t<=60)(m0:0<=m)(m1:m<=60)(hc:t<=h\/m=0):bW N (λb=>aV (aI h t m (.lg .copy)) (aH N) b 0 (cF mt) cs) (λb=>aV (aI h t m (.lg .shift)) (aH N) b 0 (cF mt) cs) .al:=
 qv (P:=λs1 s2=>bW N s1 s2 .al) h0 nofun t0 nofun m0 nofun λs1 s2 a b c=>Dl a λk=>by
  rw[b,c];exact rP (by rw[aR];exact n60) k rfl hc
def fL {d:Str}(h0:0<=i)(h1:i<(N:Int)):ah (aH N) d i=true:=by
 rw[EW,decide_eq_true h0,decide_eq_true h1];rfl
def G4 (ho:aU x3 cs ws r=.on n x' cs'):aV (aI h t m r) ws 1 3 x3 cs=(x',cs'):=cb (cj (rs:=aI h t m r) (at_:=3) rfl ho)
def GQ {b1 b2:Bx}{c1 c2:List Int}(h0:0<=h)(h1:h<=60)(t0:0<=t)(t1:t<=60)(m0:0<=m)(m1:m<=60){n1 n2:Int}(o1:aU ⟨h,t,m,1,5,mt⟩ cs (aH N) r1=.on n1 b1 c1)(o2:aU ⟨h,t,m,1,5,mt⟩ cs (aH N) r2=.on n2 b2 c2)(hb:b1.h≠b2.h):bW N (λb=>aV (aI h t m r1) (aH N) b 0 (cF mt) cs) (λb=>aV (aI h t m r2) (aH N) b 0 (cF mt) cs) (.bx 4 "here"):=
 qv (P:=λs1 s2=>bW N s1 s2 (.bx 4 "here")) h0 nofun t0 nofun m0 nofun λs1 s2 a b c=>⟨a,0,rfl,by rw[b 1,c 1,G4 o1,G4 o2];exact λe=>hb (Option.some.inj e),λi h=>absurd h (Nat.not_lt_zero _)⟩
def xV (m0:m≠0)(a1:0<=h)(a2:h<(N:Int))(a3:0<=t)(a4:t<(N:Int)):∃ c,aU ⟨h,t,m,1,5,mt⟩ cs (aH N) (.lg .copy)=.on (fin (m+ -1)) ⟨h+1,t+1,m+ -1,1,5,mt⟩ c:=by
 show ∃ c,ofM (a9 _ _ _)=_;unfold a9 hm;rw[if_neg m0,if_pos (fL a1 a2),if_pos (fL a3 a4)];exact ⟨_,rfl⟩
def kI (m0:m≠0)(ht:h<t)(a1:0<=h+m-1)(a2:h+m-1<(N:Int))(a3:0<=t+m-1)(a4:t+m-1<(N:Int)):aU ⟨h,t,m,1,5,mt⟩ cs (aH N) (.lg .shift)=.on (fin (m+ -1)) ⟨h,t,m+ -1,1,5,mt⟩ (cs.set (t+m-1).toNat (gt cs (h+m-1))):=by
 show ofM (aT _ _ _)=_;unfold aT hm;rw[if_neg m0,if_neg (by dsimp only;omega),if_pos (fL a1 a2),if_pos (fL a3 a4)]
 rfl
def xT (m0:2<=m)(a1:0<=h)(a2:h+m-1<(N:Int)):∃ c,aU ⟨h,t,m,1,5,mt⟩ cs (aH N) (.lg .turn)=.on (fin (m+ -2)) ⟨h+1,t,m+ -2,1,5,mt⟩ c:=by
 show ∃ c,ofM (cB _ _ _)=_;unfold cB xm;rw[if_neg (by dsimp only;omega),if_neg (by dsimp only;omega),if_pos (fL a1 nofun),if_pos (fL nofun a2),if_pos (fL a1 nofun),if_pos (fL nofun a2)];exact ⟨_,rfl⟩
def nN (n60:N<=60)(h0:0<=h)(ht:h<t)(m0:0<m)(hm:t+m<=(N:Int)):bW N (λb=>aV (aI h t m (.lg .copy)) (aH N) b 0 (cF mt) cs) (λb=>aV (aI h t m (.lg .shift)) (aH N) b 0 (cF mt) cs) (.bx 4 "here"):=by
 obtain ⟨c,hc⟩:=xV (N:=N) (m:=m) (h:=h) (t:=t) (mt:=mt) (cs:=cs) nofun nofun nofun nofun nofun;exact GQ h0 nofun nofun nofun nofun nofun hc (kI nofun ht nofun nofun nofun nofun) (by dsimp only;omega)
def pZ (n60:N<=60)(h0:0<=h)(m0:2<=m)(hm:h+m<=(N:Int)):bW N (λb=>aV (aI h 0 m (.lg .turn)) (aH N) b 0 (cF mt) cs) (λb=>aV (aI h 0 m (.hop 0 none)) (aH N) b 0 (cF mt) cs) (.bx 4 "here"):=by
 obtain ⟨c,hc⟩:=xT (N:=N) (m:=m) (h:=h) (t:=0) (mt:=mt) (cs:=cs) nofun nofun nofun;exact GQ h0 nofun nofun nofun nofun nofun hc (n2:=1) (b2:=⟨h,0,m,1,5,mt⟩) (c2:=cs) rfl (by dsimp only;omega)
end
def ui {l:List α}{n:Nat}{a:α}(h:l[n]? =some a):l.set n a=l:=by
 refine ext_getElem? λi=>?_
 rw[getElem?_set]
 split
 ·subst_vars
  rw[h,if_pos (List.getElem?_eq_some_iff.mp h).1]
 ·rfl
section
variable {ws:List Str}{x:Bx}{cs:List Int}{r r1 r2:Rw}{N:Nat}{i h t m mt v:Int}
def rj (h1:1<=n)(ho:aU x cs ws r=.on n x cs):∀ k,aV [r] ws k 0 x cs=(x,cs)
 |0=>rfl
 |k+1=>by
  rw[cb (cj (rs:=[r]) (at_:=0) rfl ho)];exact iV (by rw[getElem?_eq_none];simp;omega)
abbrev By (r:Rw):Prop:=Rw.ok r/\bA r=false/\∀ mt cs ws,(mt=0\/mt=1)->aU (cF mt) cs ws r=.on 1 (cF mt) cs
def vU (hm:mt=0\/mt=1)(h1:By r1)(h2:By r2):bW N (λb=>aV [r1] (aH N) b 0 (cF mt) cs) (λb=>aV [r2] (aH N) b 0 (cF mt) cs) .al:=λb=>by
 dsimp only;rw[rj (by decide) (h1.2.2 mt cs _ hm),rj (by decide) (h2.2.2 mt cs _ hm)]
def xQ:By (.sp (.add .s 0)):=⟨⟨by decide,by decide⟩,rfl,λ_ _ _ _=>rfl⟩
def xP:By (.sp (.set .s 5)):=⟨⟨by decide,by decide⟩,rfl,λ_ _ _ _=>rfl⟩
def rQ:By (.sp (.take .m .m)):=⟨True.intro,rfl,λmt _ _ h=>by rcases h with rfl|rfl<;>rfl⟩
def en:By (.hop 0 none):=⟨⟨⟨by decide,by decide⟩,True.intro⟩,rfl,λ_ _ _ _=>rfl⟩
def su:By (.hop 0 (some 1)):=⟨⟨⟨by decide,by decide⟩,.inr rfl⟩,rfl,λmt _ _ h=>by rcases h with rfl|rfl<;>rfl⟩
def ot {a b c:Int}(n60:N<=60)(a0:(N:Int)<=a)(a1:a<=100)(b0:1<=b)(b1:b<=100)(c0:0<=c):bW N (λk=>aV [.sp (.set .t a),.sp (.set .l b),.lg .fill,.sp (.write .s)] (aH N) k 0 (cF mt) cs) (λk=>aV [.sp (.set .t a),.sp (.set .l b),.hop c none] (aH N) k 0 (cF mt) cs) .al:=by
 have e1:=cj (rs:=[.sp (.set .t a),.sp (.set .l b),.lg .fill,.sp (.write .s)]) (at_:=0) (x:=cF mt) (cs:=cs) (ws:=aH N) rfl (bX (rh nofun nofun));have e2:=cj (rs:=[.sp (.set .t a),.sp (.set .l b),.lg .fill,.sp (.write .s)]) (at_:=1) (x:=⟨0,a,0,1,5,mt⟩) (cs:=cs) (ws:=aH N) rfl (bX (rR nofun nofun));have d1:=cj (rs:=[.sp (.set .t a),.sp (.set .l b),.hop c none]) (at_:=0) (x:=cF mt) (cs:=cs) (ws:=aH N) rfl (bX (rh nofun nofun));have d2:=cj (rs:=[.sp (.set .t a),.sp (.set .l b),.hop c none]) (at_:=1) (x:=⟨0,a,0,1,5,mt⟩) (cs:=cs) (ws:=aH N) rfl (bX (rR nofun nofun));have st:(mS [.sp (.set .t a),.sp (.set .l b),.lg .fill,.sp (.write .s)] 2 ⟨0,a,b,1,5,mt⟩ cs (aH N)).w≠"on":=by
  show (match ofM (cA ⟨0,a,b,1,5,mt⟩ cs (aH N)) with| .on n x' cs'=>IW.mk "on" _ x' cs'|_=>⟨"stop",2,_,cs⟩).w≠_;unfold cA;rw[if_neg (by dsimp only;omega),if_neg (by dsimp only;rw[EW,decide_eq_false (by omega:¬ a<(N:Int)),Bool.and_false];decide)];exact fE
 have d3:mS [.sp (.set .t a),.sp (.set .l b),.hop c none] 2 ⟨0,a,b,1,5,mt⟩ cs (aH N)=⟨"on",min (2+(1+c)) 3,⟨0,a,b,1,5,mt⟩,cs⟩:=cj rfl rfl;have f1:∀ k,aV [.sp (.set .t a),.sp (.set .l b),.lg .fill,.sp (.write .s)] (aH N) (k+1) 0 (cF mt) cs=aV [.sp (.set .t a),.sp (.set .l b),.lg .fill,.sp (.write .s)] (aH N) k 1 ⟨0,a,0,1,5,mt⟩ cs:=λk=>cb e1
 have f2:∀ k,aV [.sp (.set .t a),.sp (.set .l b),.lg .fill,.sp (.write .s)] (aH N) (k+1) 1 ⟨0,a,0,1,5,mt⟩ cs=aV [.sp (.set .t a),.sp (.set .l b),.lg .fill,.sp (.write .s)] (aH N) k 2 ⟨0,a,b,1,5,mt⟩ cs:=λk=>cb e2
 have g1:∀ k,aV [.sp (.set .t a),.sp (.set .l b),.hop c none] (aH N) (k+1) 0 (cF mt) cs=aV [.sp (.set .t a),.sp (.set .l b),.hop c none] (aH N) k 1 ⟨0,a,0,1,5,mt⟩ cs:=λk=>cb d1
 have g2:∀ k,aV [.sp (.set .t a),.sp (.set .l b),.hop c none] (aH N) (k+1) 1 ⟨0,a,0,1,5,mt⟩ cs=aV [.sp (.set .t a),.sp (.set .l b),.hop c none] (aH N) k 2 ⟨0,a,b,1,5,mt⟩ cs:=λk=>cb d2
 intro k
 match k with
 |0=>rfl
 |1=>exact (f1 0).trans (g1 0).symm
 |k+2=>
  refine ((f1 (k+1)).trans (f2 k)).trans (Eq.trans ?_ ((g1 (k+1)).trans (g2 k)).symm);rw[cK st k];cases k with
  |zero=>rfl
  |succ k=>
   rw[cb d3];exact (iV (by rw[show (min (2+(1+c)) 3).toNat=3 by omega];rfl)).symm
def map_put {a:Nat}(hC:C.length=N):((aM N).set a v).map (ev C)=C.set a (ev C v):=by
 rw[List.map_set,show (aM N).map (ev C)=C from hC▸qu]
def mJ {a:Nat}(hC:C.length=N)(ha:a<N):ph C ((aM N).set a v) (aM N) ↔ gt C (a:Int)≠ev C v:=by
 unfold ph;rw[map_put hC,show (aM N).map (ev C)=C from hC▸qu];have e:C[a]? =some (gt C (a:Int)):=by unfold gt;rw[Int.toNat_natCast,getElem?_eq_getElem nofun];rfl
 refine ⟨λh e2=>h ?_,λh e2=>h ?_⟩
 ·rw[<-e2];exact ui e
 ·have:(C.set a (ev C v))[a]? =C[a]? :=by rw[e2]
  rw[getElem?_set_self nofun,e] at this;exact (Option.some.inj this).symm
def lT {j:Int}:gt (stK N 0) j=0:=by
 unfold gt stK;rw[getElem?_replicate]
 split<;>rfl
def gS {m:Nat}{j:Int}(hm:m<N)(hj:0<=j):gt (stK N (m+1)) j=if j=((N-1-m:Nat):Int) then 1 else 0:=by
 show ((List.replicate N (0:Int)).set (N-1-m) 1)[j.toNat]?.getD 0=_;rw[getElem?_set]
 by_cases e:j=((N-1-m:Nat):Int)
 ·rw[if_pos nofun,if_pos (by simp;omega),if_pos e];rfl
 ·rw[if_neg nofun,if_neg e,getElem?_replicate]
  split<;>rfl
def vR {a:Nat}(ha:a<N)(hd:ph (stK N k) ((aM N).set a v) (aM N)):(((aM N).set a v).map (ev (stK N k)))[a]? ≠((aM N).map (ev (stK N k)))[a]? /\∀ i,i<a->(((aM N).set a v).map (ev (stK N k)))[i]? =((aM N).map (ev (stK N k)))[i]? :=by
 have hd2:=(mJ bH ha).mp hd;have em:(aM N).map (ev (stK N k))=stK N k:=by
  have:=qu (cs:=stK N k)
  rwa [bH] at this
 rw[map_put bH,em];have e:(stK N k)[a]? =some (gt (stK N k) (a:Int)):=by unfold gt;rw[Int.toNat_natCast,getElem?_eq_getElem (by rw[bH];exact ha)];rfl
 refine ⟨?_,λi hi=>getElem?_set_ne nofun⟩;rw[getElem?_set_self (by rw[bH];exact ha),e];exact λh=>hd2 (Option.some.inj h).symm
def rG {s1 s2:Nat->Bx×List Int}{b a:Nat}{y:Bx}(ha:a<N)(hb:∀ i,i<b->s1 i=s2 i) (e1:s1 b=(y,(aM N).set a v)) (e2:s2 b=(y,aM N)) (hd:gt (stK N k) (a:Int)≠ev (stK N k) v) (hl:∀ i,i<k->gt (stK N i) (a:Int)=ev (stK N i) v):bW N s1 s2 (.ce b k a):=by
 have hd:=(mJ (v:=v) bH ha).mpr hd;obtain ⟨c1,c2⟩:=vR ha hd;exact ⟨hb,by rw[e1,e2],by rw[e1,e2];exact hd,by rw[e1,e2];exact λi hi h=>(mJ bH ha).mp h (hl i hi),by rw[e1,e2];exact c1,by rw[e1,e2];exact c2⟩
def yM {a p:Nat}(n60:N<=60)(hp:p<a)(ha:a<N):bW N (λb=>aV (aI (p:Int) (a:Int) 1 (.lg .shift)) (aH N) b 0 (cF mt) (aM N)) (λb=>aV (aI (p:Int) (a:Int) 1 (.lg .turn)) (aH N) b 0 (cF mt) (aM N)) (.ce 4 (N-a) a):=by
 have o1:=kI (N:=N) (m:=1) (h:=(p:Int)) (t:=(a:Int)) (mt:=mt) (cs:=aM N) (by decide) nofun nofun nofun nofun nofun;rw[show ((a:Int)+1-1).toNat=a by omega,show (p:Int)+1-1=(p:Int) by omega,show gt (aM N) (p:Int)= -1-(p:Int) by
  unfold gt aM;rw[Int.toNat_natCast,getElem?_map,List.getElem?_range nofun]
  rfl] at o1
 have o2:aU ⟨(p:Int),(a:Int),1,1,5,mt⟩ (aM N) (aH N) (.lg .turn)=.on 1 ⟨(p:Int),(a:Int),0,1,5,mt⟩ (aM N):=rfl;refine qv (P:=λs1 s2=>bW N s1 s2 (.ce 4 (N-a) a)) nofun nofun nofun nofun (by decide) (by decide) λs1 s2 e b c=>?_
 refine rG (v:= -1-(p:Int)) (y:=⟨(p:Int),(a:Int),0,1,5,mt⟩) ha e (by rw[b 1,G4 o1];rfl) (by rw[c 1,G4 o2]) ?_ (λi hi=>?_)
 ·rw[show N-a=(N-1-a)+1 by omega,ev,if_pos nofun,gS nofun nofun,gS nofun nofun,if_pos nofun,if_neg nofun]
  decide
 ·cases i with
  |zero=>rw[ev,if_pos nofun,lT,lT]
  |succ i=>rw[ev,if_pos nofun,gS nofun nofun,gS nofun nofun,if_neg nofun,if_neg nofun]
def n6 {a:Nat}(n60:N<=60)(ha:a<N)(v0:0<=v)(v1:v<=2000):bW N (λb=>aV [.sp (.set .t (a:Int)),.sp (.set .s v),.sp (.write .s)] (aH N) b 0 (cF mt) (aM N)) (λb=>aV [.sp (.set .t (a:Int)),.sp (.set .s v),.hop 0 none] (aH N) b 0 (cF mt) (aM N)) (.ce 3 (if v=0 then N-a else 0) a):=by
 have e1:=λr=>cj (rs:=[.sp (.set .t (a:Int)),.sp (.set .s v),r]) (at_:=0) (x:=cF mt) (cs:=aM N) (ws:=aH N) rfl (bX (rh nofun nofun))
 have e2:=λr=>cj (rs:=[.sp (.set .t (a:Int)),.sp (.set .s v),r]) (at_:=1) (x:=⟨0,(a:Int),0,1,5,mt⟩) (cs:=aM N) (ws:=aH N) rfl (bX (GS v0 nofun))
 have f1:∀ r k,aV [.sp (.set .t (a:Int)),.sp (.set .s v),r] (aH N) (k+1) 0 (cF mt) (aM N)=aV [.sp (.set .t (a:Int)),.sp (.set .s v),r] (aH N) k 1 ⟨0,(a:Int),0,1,5,mt⟩ (aM N):=λr k=>cb (e1 r)
 have f2:∀ r k,aV [.sp (.set .t (a:Int)),.sp (.set .s v),r] (aH N) (k+1) 1 ⟨0,(a:Int),0,1,5,mt⟩ (aM N)=aV [.sp (.set .t (a:Int)),.sp (.set .s v),r] (aH N) k 2 ⟨0,(a:Int),0,1,v,mt⟩ (aM N):=λr k=>cb (e2 r)
 have o1:aU ⟨0,(a:Int),0,1,v,mt⟩ (aM N) (aH N) (.sp (.write .s))=.on 1 ⟨0,(a:Int),0,1,v,mt⟩ ((aM N).set a v):=by
  show sX (if (decide (0<=v)&&decide (v<=1000000000))=true then (if ah (aH N) "put" (a:Int)=true then .on _ ((aM N).set (a:Int).toNat v) else .no "put" _) else .nf .s v)=_;rw[if_pos (by rw[decide_eq_true v0,decide_eq_true nofun];rfl),if_pos (fL nofun nofun),Int.toNat_natCast]
  rfl
 have g1:aV [.sp (.set .t (a:Int)),.sp (.set .s v),.sp (.write .s)] (aH N) 1 2 ⟨0,(a:Int),0,1,v,mt⟩ (aM N)=(⟨0,(a:Int),0,1,v,mt⟩,(aM N).set a v):=cb (cj (at_:=2) rfl o1);refine rG (v:=v) (y:=⟨0,(a:Int),0,1,v,mt⟩) ha (λi hi=>?_) ((f1 _ 2).trans ((f2 _ 1).trans g1)) ((f1 _ 2).trans (f2 _ 1)) ?_ (λi hi=>?_)
 ·rcases (by omega:i=0\/i=1\/i=2) with rfl|rfl|rfl
  ·rfl
  ·exact (f1 _ 0).trans (f1 _ 0).symm
  ·have A:∀ r,aV [.sp (.set .t (a:Int)),.sp (.set .s v),r] (aH N) 2 0 (cF mt) (aM N)=(⟨0,(a:Int),0,1,v,mt⟩,aM N):=λr=>(f1 r 1).trans (f2 r 0)
   exact (A _).trans (A _).symm
 ·by_cases h:v=0
  ·rw[if_pos h,show N-a=(N-1-a)+1 by omega,ev,if_neg nofun,gS nofun nofun,if_pos nofun,h]
   decide
  ·rw[if_neg h,ev,if_neg nofun,lT];exact λe=>h e.symm
 ·rw[ev,if_neg nofun]
  by_cases h:v=0
  ·rw[if_pos h] at hi;cases i with
   |zero=>rw[lT,h]
   |succ i=>rw[gS nofun nofun,if_neg nofun,h]
  ·rw[if_neg h] at hi
   omega
end
structure GJ (N:Nat) (S1 S2 Od:List (Addr×Rw)) (o:Al):Prop where
 s1:∀ p ∈ S1,p ∈ Od
 s2:∀ p ∈ S2,p ∈ Od
 n1:1<=S1.length/\S1.length<=24
 n2:1<=S2.length/\S2.length<=24
 ok:∀ p ∈ Od,p.2.ok/\bA p.2=false
 cm:∀ mt,(mt=0\/mt=1)->bW N (λb=>aV (S1.map (·.2)) (aH N) b 0 (cF mt) (aM N)) (λb=>aV (S2.map (·.2)) (aH N) b 0 (cF mt) (aM N)) o
abbrev il (R:Rt)(N:Nat)(h:Addr)(m:Int)(O:List aw)(Q:VK):Prop:=∀ P L1 L2 t (S1 S2 Od:List (Addr×Rw)) o H',GJ N S1 S2 Od o->Sep (pt P (.lst [.ref L1,.ref L2,.ref t])::pt L1 (.lst (S1.map qV))::pt L2 (.lst (S2.map qV))::gg N t o::hand h (m+20)::(Od.map (ye R)++O)) H'->Q (.ref P) H'
section
variable {h:Addr}{m:Int}{N:Nat}{a b c:Int}
def iT (ro:Ro K R)(hk:5<=k)(a0:0<=a)(a1:a<=60)(b0:0<=b)(b1:b<=60)(c0:0<=c)(c1:c<=60)(z:Sep O H)(q:∀ L d1 d2 d3 H',Sep (pt L (.lst [.ref d1,.ref d2,.ref d3])::ao R d1 (.sp (.set .h a))::ao R d2 (.sp (.set .t b))::ao R d3 (.sp (.set .l c))::O) H'->Q (.ref L) H'):aa tab R k qr [.int a,.int b,.int c] H Q E:=by
 refine wc (d:=jx) nofun rfl rfl ?_;left;refine ⟨rfl,?_⟩;left;intro d1 x1 g1 g2 g3;refine hG (n:=.h) (i:=a) ro nofun nofun nofun (bP z g1 g2 g3) (λH1 z1=>⟨rfl,?_⟩);left;refine ⟨rfl,?_⟩;left;intro d2 x2 g1 g2 g3;refine hG (n:=.t) (i:=b) ro nofun nofun nofun (bP z1 g1 g2 g3) (λH2 z2=>⟨rfl,?_⟩);left;refine ⟨rfl,?_⟩;left;intro d3 x3 g1 g2 g3;refine hG (n:=.l) (i:=c) ro nofun nofun nofun (bP z2 g1 g2 g3) (λH3 z3=>⟨rfl,?_⟩);left;refine aj z3 (Nat.le_of_ble_eq_true rfl) (λL H4 z4=>q L d1 d2 d3 H4 ?_);have z5:Sep (pt L (.lst [.ref d1,.ref d2,.ref d3])::ao R d3 (.sp (.set .l c))::ao R d2 (.sp (.set .t b))::ao R d1 (.sp (.set .h a))::O) H4:=z4;exact z5.sub (by ac_nf)
def qZ {PL:Addr}{ps:List Nat}(hk:1<=k)(n0:1<=N)(n60:N<=60)(hp:ps=[]\/∃ p,p<N/\ps=[p]) (z:Sep O H) (pp:ag (pt PL (.lst (ps.map λ(i:Nat)=>V.int (i:Int)))) O Δ) (q:∀ C k H',(ps=[]/\k=0\/∃ p,ps=[p]/\k=N-p)->Sep (pt C (.lst ((stK N k).map V.int))::O) H'->Q (.ref C) H'):aa tab R k nM [.int (N:Int),.ref PL] H Q E:=by
 refine wc (d:=hW) nofun rfl rfl ?_;left;refine aj z (Nat.le_of_ble_eq_true rfl) (λl0 H1 z1=>?_);left;refine oz z1 z1.at nofun nofun (by decide) (λC H2 z2=>?_);rw[rep0,Int.toNat_natCast] at z2;left;refine ⟨rfl,?_⟩;refine DT (z2.get (.there (.there pp))) ?_;refine rq (xs:=ps.map λ(i:Nat)=>V.int (i:Int)) (λj U H=>∃ u cs,U=[some (.int (N:Int)),some (.ref PL),some (.ref C),u]/\(j=0->cs=stK N 0)/\(∀ p,j=1->ps=[p]->cs=stK N (N-p))/\Sep (pt C (.lst (cs.map V.int))::pt l0 (.lst [.int 0])::O) H) ⟨_,stK N 0,rfl,λ_=>rfl,λ_ h=>(by cases h),z2⟩ (λj U H ⟨_,_,_,_,_,zz⟩=>bg.of (zz.get (.there (.there pp)))) ?_ ?_
 ·rintro j y U H hy ⟨u,cs,rfl,hc,_,zz⟩;rcases hp with rfl|⟨p,hp,rfl⟩
  ·cases hy
  ·have hj:j=0:=by
    have:=(List.getElem?_eq_some_iff.mp hy).1;simp at this;exact this
   subst hj;cases hy;have hc:=hc rfl;subst hc;left;refine vQ (i:=(p:Int)) (j:=p) (ys:=(stK N (N-p)).map V.int) zz .here (vD nofun (by rw[length_map,bH];omega)) ?_ (λH3 z3=>⟨_,stK N (N-p),rfl,λh=>absurd h (by decide),λp' _ e=>by cases e;rfl,z3⟩);show ((List.replicate N (0:Int)).map V.int).set p (.int 1)=_;rw[<-List.map_set,show N-p=(N-1-p)+1 by omega];show ((List.replicate N (0:Int)).set p 1).map V.int=((List.replicate N (0:Int)).set (N-1-(N-1-p)) 1).map V.int;rw[show N-1-(N-1-p)=p by omega]
 ·rintro U H ⟨u,cs,rfl,hc0,hc1,zz⟩;left;rcases hp with rfl|⟨p,hp,rfl⟩
  ·have:=hc0 rfl;subst this;exact q C 0 H (.inl ⟨rfl,rfl⟩) (zz.sub (.cons .here (.drop .refl)))
  ·have:=hc1 p rfl rfl;subst this;exact q C (N-p) H (.inr ⟨p,rfl,rfl⟩) (zz.sub (.cons .here (.drop .refl)))
def cq {b:Bn}(h0:0<=i)(h1:i<=2000):Rw.ok (.sp (.set b i))/\bA (.sp (.set b i))=false:=⟨⟨by omega,by omega⟩,rfl⟩
def nj {w:Wd}(h:bA (.lg w)=false):Rw.ok (.lg w)/\bA (.lg w)=false:=⟨True.intro,h⟩
def xO {t0 l C u t:Addr}{b:Nat}{nm:Str}(z:Sep (pt t (.tup [.str "parted",.int (b:Int),.ref C,.ref u])::tu u [.str "box",.str nm]::pt C (.lst ((List.replicate N (0:Int)).map V.int))::O) H):Sep (gg N t (.bx b nm)::O) H:=fz (C,u) (z.sub (.cons .here (.cons (.there .here) (.cons .here .refl))))
def d7 {D:Ends}{E:St->XK}{t:Addr}{o:Al}(ro:Ro K R)(hk:6<=k)(a0:0<=a)(a1:a<=60)(b0:0<=b)(b1:b<=60)(c0:0<=c)(c1:c<=60)(hm:m<=1099500000000)(cm:∀ mt,(mt=0\/mt=1)->bW N (λk=>aV (aI a b c (.lg .copy)) (aH N) k 0 (cF mt) (aM N)) (λk=>aV (aI a b c (.lg .shift)) (aH N) k 0 (cF mt) (aM N)) o) (z:Sep (gg N t o::hand h (m+20)::O) H) (q:il R N h m O D.rt):
  wB (Bp 5 cD.body) ⟨tab,R,aa tab R (k-1),true⟩ D E [some (.ref h),some (.int (N:Int)),some (.int c),some (.int a),some (.int b),some (.ref t)] H:=by
 left;refine ⟨rfl,?_⟩;refine iT ro nofun a0 a1 b0 b1 c0 c1 z (λL d1 d2 d3 H1 z1=>?_);left;refine tZ z1 (λd4 dx H2 z2=>?_);have z2:Sep (ao R d4 (.lg .copy)::pt L (.lst [.ref d1,.ref d2,.ref d3])::ao R d1 (.sp (.set .h a))::ao R d2 (.sp (.set .t b))::ao R d3 (.sp (.set .l c))::gg N t o::hand h (m+20)::O) H2:=sQ (c:=vp) z2;left;refine aj z2 (Nat.le_of_ble_eq_true rfl) (λl1 H3 z3=>?_);left;refine cV z3 (z3.get (.there (.there .here))) z3.at (Nat.le_of_ble_eq_true rfl) (λL1 H4 z4=>?_);left;refine ⟨rfl,?_⟩;refine iT ro nofun a0 a1 b0 b1 c0 c1 z4 (λL' e1 e2 e3 H5 z5=>?_);left;refine tZ z5 (λe4 dx H6 z6=>?_);have z6:Sep (ao R e4 (.lg .shift)::pt L' (.lst [.ref e1,.ref e2,.ref e3])::ao R e1 (.sp (.set .h a))::ao R e2 (.sp (.set .t b))::ao R e3 (.sp (.set .l c))::pt L1 (.lst [.ref d1,.ref d2,.ref d3,.ref d4])::pt l1 (.lst [.ref d4])::ao R d4 (.lg .copy)::pt L (.lst [.ref d1,.ref d2,.ref d3])::ao R d1 (.sp (.set .h a))::ao R d2 (.sp (.set .t b))::ao R d3 (.sp (.set .l c))::gg N t o::hand h (m+20)::O) H6:=sQ (c:=lp) z6;left;refine aj z6 (Nat.le_of_ble_eq_true rfl) (λl2 H7 z7=>?_);left;refine cV z7 (z7.get (.there (.there .here))) z7.at (Nat.le_of_ble_eq_true rfl) (λL2 H8 z8=>?_);left;refine aj z8 (Nat.le_of_ble_eq_true rfl) (λP H9 z9=>?_);have z9:Sep (pt P (.lst [.ref L1,.ref L2,.ref t])::pt L2 (.lst [.ref e1,.ref e2,.ref e3,.ref e4])::pt l2 (.lst [.ref e4])::ao R e4 (.lg .shift)::pt L' (.lst [.ref e1,.ref e2,.ref e3])::ao R e1 (.sp (.set .h a))::ao R e2 (.sp (.set .t b))::ao R e3 (.sp (.set .l c))::pt L1 (.lst [.ref d1,.ref d2,.ref d3,.ref d4])::pt l1 (.lst [.ref d4])::ao R d4 (.lg .copy)::pt L (.lst [.ref d1,.ref d2,.ref d3])::ao R d1 (.sp (.set .h a))::ao R d2 (.sp (.set .t b))::ao R d3 (.sp (.set .l c))::gg N t o::hand h (m+20)::O) H9:=z9;have z10:Sep (pt P (.lst [.ref L1,.ref L2,.ref t])::pt L1 (.lst [.ref d1,.ref d2,.ref d3,.ref d4])::pt L2 (.lst [.ref e1,.ref e2,.ref e3,.ref e4])::gg N t o::hand h (m+20)::ao R d1 (.sp (.set .h a))::ao R d2 (.sp (.set .t b))::ao R d3 (.sp (.set .l c))::ao R d4 (.lg .copy)::ao R e1 (.sp (.set .h a))::ao R e2 (.sp (.set .t b))::ao R e3 (.sp (.set .l c))::ao R e4 (.lg .shift)::O) H9:=z9.sub (by ac_nf);refine q P L1 L2 t [(d1,.sp (.set .h a)),(d2,.sp (.set .t b)),(d3,.sp (.set .l c)),(d4,.lg .copy)] [(e1,.sp (.set .h a)),(e2,.sp (.set .t b)),(e3,.sp (.set .l c)),(e4,.lg .shift)] [(d1,.sp (.set .h a)),(d2,.sp (.set .t b)),(d3,.sp (.set .l c)),(d4,.lg .copy),(e1,.sp (.set .h a)),(e2,.sp (.set .t b)),(e3,.sp (.set .l c)),(e4,.lg .shift)] o H9 ⟨λp hp=>?_,λp hp=>?_,⟨Nat.le_of_ble_eq_true rfl,Nat.le_of_ble_eq_true rfl⟩,⟨Nat.le_of_ble_eq_true rfl,Nat.le_of_ble_eq_true rfl⟩,λp hp=>?_,cm⟩ z10
 ·simp only[mem_cons,not_mem_nil,or_false] at hp;rcases hp with rfl|rfl|rfl|rfl<;>simp
 ·simp only[mem_cons,not_mem_nil,or_false] at hp;rcases hp with rfl|rfl|rfl|rfl<;>simp
 ·simp only[mem_cons,not_mem_nil,or_false] at hp;rcases hp with rfl|rfl|rfl|rfl|rfl|rfl|rfl|rfl<;>first|exact cq nofun nofun|exact nj rfl
def wz (ro:Ro K R)(hk:6<=k)(n0:2<=N)(n60:N<=60)(hm:m<=1099500000000)(z:Sep (hand h m::O) H)(q:il R N h m O Q):aa tab R k ki [.ref h,.int (N:Int)] H Q E:=by
 refine wc (d:=cD) nofun rfl rfl ?_;walk_at "gd";rename_i c H1 c0 c1 z1 a H2 a0 a1 z2 b H3 b0 b1 z3 t0 H4 z4;have z5:Sep (pt t0 (.tup [.str "alike"])::hand h (m+20)::O) H4:=(dq (n:=m+20) (z4.pull (A:=hand h _) (by symm)) nofun).sub (by ac_nf);have z5:Sep (gg N t0 .al::hand h (m+20)::O) H4:=z5;clear z z1 z2 z3;refine cC (λh1=>?_) (λh1=>?_)
 ·left;refine cC (λh2=>?_) (λh2=>?_)
  ·left;refine aj z5.drop (Nat.le_of_ble_eq_true rfl) (λl H5 z6=>?_);left;refine oz z6 z6.at nofun nofun (by decide) (λC H6 z7=>?_);rw[rep0,Int.toNat_natCast] at z7;left;refine az z7 (Nat.le_of_ble_eq_true rfl) (λu H7 z8=>?_);left;refine az z8.toT (Nat.le_of_ble_eq_true rfl) (λt H8 z9=>?_);refine d7 (k:=k) (b:=b) (D:={ nx:=λ_ H'=>Q .non H',rt:=Q }) ro hk a0 nofun b0 nofun c0 nofun hm (λmt _=>nN n60 a0 nofun nofun nofun) (xO (t0:=t) (l:=t) (b:=4) (nm:="here") (z9.sub (.cons .here (.cons .here (.cons .here (.drop .refl)))))) q
  ·left;exact d7 (k:=k) (D:={ nx:=λ_ H'=>Q .non H',rt:=Q }) ro hk a0 nofun b0 nofun c0 nofun hm (λmt _=>g9 n60 a0 nofun b0 nofun c0 nofun nofun) z5 q
 ·left;refine bb rfl ?_;exact d7 (k:=k) (D:={ nx:=λ_ H'=>Q .non H',rt:=Q }) ro hk a0 nofun b0 nofun c0 nofun hm (λmt _=>g9 n60 a0 nofun b0 nofun c0 nofun nofun) z5 q
end
section
variable {h:Addr}{m:Int}{N:Nat}
def tH (ro:Ro K R)(hk:6<=k)(n0:2<=N)(n60:N<=60)(hm:m<=1099500000000)(z:Sep (hand h m::O) H)(q:il R N h m O Q):aa tab R k jM [.ref h,.int (N:Int)] H Q E:=by
 refine wc (d:=dE) nofun rfl rfl ?_;walk_at "gd";rename_i a H1 a0 a1 z1;intro d1 x1 g1 g2 g3;refine hG (n:=.t) (i:=(N:Int)+a) ro nofun nofun nofun (bP z1 g1 g2 g3) (λH2 z2=>⟨rfl,?_⟩);have z2:=z2.pull (.there .here);walk_at "gd";rename_i b H3 b0 b1 z3;intro d2 x2 g1 g2 g3;refine hG (n:=.l) (i:=1+b) ro nofun nofun nofun (bP z3 g1 g2 g3) (λH4 z4=>⟨rfl,?_⟩);clear z z1 z2 z3;left;refine aj z4 (Nat.le_of_ble_eq_true rfl) (λL H5 z5=>?_);left;refine tZ z5 (λd3 dx H6 z6=>?_);have z6:=sQ (c:=wq) z6;left;refine ⟨rfl,?_⟩;left;intro d4 x4 g1 g2 g3;refine BE (n:=.s) ro nofun (bP z6 g1 g2 g3) (λH7 z7=>⟨rfl,?_⟩);left;refine aj z7 (Nat.le_of_ble_eq_true rfl) (λl1 H8 z8=>?_);left;refine cV z8 (z8.get (.there (.there (.there .here)))) z8.at (Nat.le_of_ble_eq_true rfl) (λL1 H9 z9=>?_);have z9:Sep (pt L1 (.lst [.ref d1,.ref d2,.ref d3,.ref d4])::pt l1 (.lst [.ref d3,.ref d4])::ao R d4 (.sp (.write .s))::ao R d3 (.lg .fill)::pt L (.lst [.ref d1,.ref d2])::ao R d2 (.sp (.set .l (1+b)))::hand h (m+1+1)::ao R d1 (.sp (.set .t ((N:Int)+a)))::O) H9:=z9;have z9:=z9.pull (A:=hand h _) (by symm);clear z4 z5 z6 z7 z8;left;refine ⟨rfl,?_⟩;walk_at "gd";rename_i c HA c0 c1 zA;intro e3 x4 g1 g2 g3;refine aF (vs':=[.ref e3,.int c,oV none]) rfl ?_;refine kK (n:=c) (o:=none) ro nofun c0 nofun True.intro (bP zA g1 g2 g3) (λHB zB=>⟨rfl,?_⟩);left;refine aj zB (Nat.le_of_ble_eq_true rfl) (λl2 HC zC=>?_);left;refine cV zC (zC.get (.there (.there (.there (.there (.there (.there (.there .here)))))))) zC.at (Nat.le_of_ble_eq_true rfl) (λL2 HD zD=>?_);left;refine az zD (Nat.le_of_ble_eq_true rfl) (λt HE zE=>?_);left;refine aj zE (Nat.le_of_ble_eq_true rfl) (λP HF zF=>?_);have zF:Sep (pt P (.lst [.ref L1,.ref L2,.ref t])::pt t (.tup [.str "alike"])::pt L2 (.lst [.ref d1,.ref d2,.ref e3])::pt l2 (.lst [.ref e3])::ao R e3 (.hop c none)::hand h (m+1+1+1)::pt L1 (.lst [.ref d1,.ref d2,.ref d3,.ref d4])::pt l1 (.lst [.ref d3,.ref d4])::ao R d4 (.sp (.write .s))::ao R d3 (.lg .fill)::pt L (.lst [.ref d1,.ref d2])::ao R d2 (.sp (.set .l (1+b)))::ao R d1 (.sp (.set .t ((N:Int)+a)))::O) HF:=zF;have zG:=(dq (n:=m+20) (zF.pull (A:=hand h _) (by symm)) nofun).sub (Γ':=pt P (.lst [.ref L1,.ref L2,.ref t])::pt L1 (.lst [.ref d1,.ref d2,.ref d3,.ref d4])::pt L2 (.lst [.ref d1,.ref d2,.ref e3])::pt t (.tup [.str "alike"])::hand h (m+20)::ao R d1 (.sp (.set .t ((N:Int)+a)))::ao R d2 (.sp (.set .l (1+b)))::ao R d3 (.lg .fill)::ao R d4 (.sp (.write .s))::ao R e3 (.hop c none)::O) (by ac_nf);refine q P L1 L2 t [(d1,.sp (.set .t ((N:Int)+a))),(d2,.sp (.set .l (1+b))),(d3,.lg .fill),(d4,.sp (.write .s))] [(d1,.sp (.set .t ((N:Int)+a))),(d2,.sp (.set .l (1+b))),(e3,.hop c none)] [(d1,.sp (.set .t ((N:Int)+a))),(d2,.sp (.set .l (1+b))),(d3,.lg .fill),(d4,.sp (.write .s)),(e3,.hop c none)] .al HF ⟨λp hp=>?_,λp hp=>?_,⟨Nat.le_of_ble_eq_true rfl,Nat.le_of_ble_eq_true rfl⟩,⟨Nat.le_of_ble_eq_true rfl,Nat.le_of_ble_eq_true rfl⟩,λp hp=>?_,λmt _=>ot n60 nofun nofun nofun nofun c0⟩ zG
 ·simp only[mem_cons,not_mem_nil,or_false] at hp;rcases hp with rfl|rfl|rfl|rfl<;>simp
 ·simp only[mem_cons,not_mem_nil,or_false] at hp;rcases hp with rfl|rfl|rfl<;>simp
 ·simp only[mem_cons,not_mem_nil,or_false] at hp;rcases hp with rfl|rfl|rfl|rfl|rfl
  ·exact cq nofun nofun
  ·exact cq nofun nofun
  ·exact nj rfl
  ·exact ⟨True.intro,rfl⟩
  ·exact ⟨⟨⟨c0,by show c<=24;omega⟩,True.intro⟩,rfl⟩
def vi (ro:Ro K R)(hk:6<=k)(n0:2<=N)(n60:N<=60)(hm:m<=1099500000000)(z:Sep (hand h m::O) H)(q:il R N h m O Q):aa tab R k j0 [.ref h,.int (N:Int)] H Q E:=by
 refine wc (d:=eY) nofun rfl rfl ?_;walk_at "gd";rename_i b H1 b0 b1 z1 a H2 a0 a1 z2;refine iT ro nofun a0 nofun (by decide) (by decide) nofun nofun z2 (λL d1 d2 d3 H3 z3=>?_);clear z z1 z2;left;refine tZ z3 (λd4 dx H4 z4=>?_);have z4:=sQ (c:=qe) z4;left;refine aj z4 (Nat.le_of_ble_eq_true rfl) (λl1 H5 z5=>?_);left;refine cV z5 (z5.get (.there (.there .here))) z5.at (Nat.le_of_ble_eq_true rfl) (λL1 H6 z6=>?_);left;refine ⟨rfl,?_⟩;left;intro e4 x4 g1 g2 g3;refine aF (vs':=[.ref e4,.int 0,oV none]) rfl ?_;refine kK (n:=0) (o:=none) ro nofun (by decide) (by decide) True.intro (bP z6 g1 g2 g3) (λH7 z7=>⟨rfl,?_⟩);left;refine aj z7 (Nat.le_of_ble_eq_true rfl) (λl2 H8 z8=>?_);left;refine cV z8 (z8.get (.there (.there (.there (.there (.there .here)))))) z8.at (Nat.le_of_ble_eq_true rfl) (λL2 H9 z9=>?_);left;refine aj z9 (Nat.le_of_ble_eq_true rfl) (λl HA zA=>?_);left;refine oz zA zA.at nofun nofun (by decide) (λC HB zB=>?_);rw[rep0,Int.toNat_natCast] at zB;left;refine az zB (Nat.le_of_ble_eq_true rfl) (λu HC zC=>?_);left;refine az zC.toT (Nat.le_of_ble_eq_true rfl) (λt HD zD=>?_);left;refine aj zD (Nat.le_of_ble_eq_true rfl) (λP HE zE=>?_);have zE:=xO (t0:=P) (l:=P) (b:=4) (nm:="here") (zE.sub (.cons (.there .here) (.cons (.there .here) (.cons (.there .here) .refl))));have zE:Sep (gg N t (.bx 4 "here")::pt P (.lst [.ref L1,.ref L2,.ref t])::pt l (.lst [.int 0])::pt L2 (.lst [.ref d1,.ref d2,.ref d3,.ref e4])::pt l2 (.lst [.ref e4])::ao R e4 (.hop 0 none)::pt L1 (.lst [.ref d1,.ref d2,.ref d3,.ref d4])::pt l1 (.lst [.ref d4])::ao R d4 (.lg .turn)::pt L (.lst [.ref d1,.ref d2,.ref d3])::ao R d1 (.sp (.set .h a))::ao R d2 (.sp (.set .t 0))::ao R d3 (.sp (.set .l (2+b)))::hand h (m+1+1)::O) HE:=zE;have zG:=(dq (n:=m+20) (zE.pull (A:=hand h _) (by symm)) nofun).sub (Γ':=pt P (.lst [.ref L1,.ref L2,.ref t])::pt L1 (.lst [.ref d1,.ref d2,.ref d3,.ref d4])::pt L2 (.lst [.ref d1,.ref d2,.ref d3,.ref e4])::gg N t (.bx 4 "here")::hand h (m+20)::ao R d1 (.sp (.set .h a))::ao R d2 (.sp (.set .t 0))::ao R d3 (.sp (.set .l (2+b)))::ao R d4 (.lg .turn)::ao R e4 (.hop 0 none)::O) (by ac_nf);refine q P L1 L2 t [(d1,.sp (.set .h a)),(d2,.sp (.set .t 0)),(d3,.sp (.set .l (2+b))),(d4,.lg .turn)] [(d1,.sp (.set .h a)),(d2,.sp (.set .t 0)),(d3,.sp (.set .l (2+b))),(e4,.hop 0 none)] [(d1,.sp (.set .h a)),(d2,.sp (.set .t 0)),(d3,.sp (.set .l (2+b))),(d4,.lg .turn),(e4,.hop 0 none)] _ HE ⟨λp hp=>?_,λp hp=>?_,⟨Nat.le_of_ble_eq_true rfl,Nat.le_of_ble_eq_true rfl⟩,⟨Nat.le_of_ble_eq_true rfl,Nat.le_of_ble_eq_true rfl⟩,λp hp=>?_,λmt _=>pZ n60 a0 nofun nofun⟩ zG
 ·simp only[mem_cons,not_mem_nil,or_false] at hp;rcases hp with rfl|rfl|rfl|rfl<;>simp
 ·simp only[mem_cons,not_mem_nil,or_false] at hp;rcases hp with rfl|rfl|rfl|rfl<;>simp
 ·simp only[mem_cons,not_mem_nil,or_false] at hp;rcases hp with rfl|rfl|rfl|rfl|rfl
  ·exact cq nofun nofun
  ·exact cq nofun nofun
  ·exact cq nofun nofun
  ·exact nj rfl
  ·exact ⟨en.1,rfl⟩
end
section
variable {h:Addr}{m:Int}{N:Nat}
def Bt {C u t:Addr}{b kk c:Nat}(z:Sep (pt t (.tup [.str "parted",.int (b:Int),.ref C,.ref u])::tu u [.str "cell",.int (c:Int)]::pt C (.lst ((stK N kk).map V.int))::O) H):Sep (gg N t (.ce b kk c)::O) H:=fz (C,u) (z.sub (.cons .here (.cons (.there .here) (.cons .here .refl))))
def FV (ro:Ro K R)(hk:6<=k)(n0:2<=N)(n60:N<=60)(hm:m<=1099500000000)(z:Sep (hand h m::O) H)(q:il R N h m O Q):aa tab R k gL [.ref h,.int (N:Int)] H Q E:=by
 refine wc (d:=cM) nofun rfl rfl ?_;walk_at "gd";rename_i b H1 b0 b1 z1 c H2 c0 c1 z2;obtain ⟨a,ha⟩:=Int.eq_ofNat_of_zero_le (a:=1+b) nofun;rw[ha];obtain ⟨p,rfl⟩:=Int.eq_ofNat_of_zero_le c0;refine iT ro nofun nofun nofun nofun nofun (by decide) (by decide) z2 (λL d1 d2 d3 H3 z3=>?_);clear z z1 z2;left;refine tZ z3 (λd4 dx H4 z4=>?_);have z4:=sQ (c:=lp) z4;left;refine aj z4 (Nat.le_of_ble_eq_true rfl) (λl1 H5 z5=>?_);left;refine cV z5 (z5.get (.there (.there .here))) z5.at (Nat.le_of_ble_eq_true rfl) (λL1 H6 z6=>?_);left;refine tZ z6 (λe4 dx H7 z7=>?_);have z7:=sQ (c:=qe) z7;left;refine aj z7 (Nat.le_of_ble_eq_true rfl) (λl2 H8 z8=>?_);left;refine cV z8 (z8.get (.there (.there (.there (.there (.there .here)))))) z8.at (Nat.le_of_ble_eq_true rfl) (λL2 H9 z9=>?_);left;refine ⟨rfl,?_⟩;left;refine aj z9 (Nat.le_of_ble_eq_true rfl) (λl HA zA=>?_);left;refine qZ (ps:=[a]) nofun nofun n60 (.inr ⟨a,by omega,rfl⟩) zA .here (λC kk HB hkk zB=>?_);have hkk:kk=N-a:=by
  rcases hkk with ⟨e,_⟩|⟨p',e,e2⟩
  ·cases e
  ·cases e;exact e2
 subst hkk;left;refine az zB (Nat.le_of_ble_eq_true rfl) (λu HC zC=>?_);left;refine az zC.toT (Nat.le_of_ble_eq_true rfl) (λt HD zD=>?_);left;refine aj zD (Nat.le_of_ble_eq_true rfl) (λP HE zE=>?_);have zE:=Bt (b:=4) (kk:=N-a) (c:=a) (zE.sub (.cons (.there .here) (.cons (.there .here) (.cons (.there .here) .refl))));have zE:Sep (gg N t (.ce 4 (N-a) a)::pt P (.lst [.ref L1,.ref L2,.ref t])::pt l (.lst [.int (a:Int)])::pt L2 (.lst [.ref d1,.ref d2,.ref d3,.ref e4])::pt l2 (.lst [.ref e4])::ao R e4 (.lg .turn)::pt L1 (.lst [.ref d1,.ref d2,.ref d3,.ref d4])::pt l1 (.lst [.ref d4])::ao R d4 (.lg .shift)::pt L (.lst [.ref d1,.ref d2,.ref d3])::ao R d1 (.sp (.set .h (p:Int)))::ao R d2 (.sp (.set .t (a:Int)))::ao R d3 (.sp (.set .l 1))::hand h (m+1+1)::O) HE:=zE;have zG:=(dq (n:=m+20) (zE.pull (A:=hand h _) (by symm)) nofun).sub (Γ':=pt P (.lst [.ref L1,.ref L2,.ref t])::pt L1 (.lst [.ref d1,.ref d2,.ref d3,.ref d4])::pt L2 (.lst [.ref d1,.ref d2,.ref d3,.ref e4])::gg N t (.ce 4 (N-a) a)::hand h (m+20)::ao R d1 (.sp (.set .h (p:Int)))::ao R d2 (.sp (.set .t (a:Int)))::ao R d3 (.sp (.set .l 1))::ao R d4 (.lg .shift)::ao R e4 (.lg .turn)::O) (by ac_nf);refine q P L1 L2 t [(d1,.sp (.set .h (p:Int))),(d2,.sp (.set .t (a:Int))),(d3,.sp (.set .l 1)),(d4,.lg .shift)] [(d1,.sp (.set .h (p:Int))),(d2,.sp (.set .t (a:Int))),(d3,.sp (.set .l 1)),(e4,.lg .turn)] [(d1,.sp (.set .h (p:Int))),(d2,.sp (.set .t (a:Int))),(d3,.sp (.set .l 1)),(d4,.lg .shift),(e4,.lg .turn)] _ HE ⟨λp hp=>?_,λp hp=>?_,⟨Nat.le_of_ble_eq_true rfl,Nat.le_of_ble_eq_true rfl⟩,⟨Nat.le_of_ble_eq_true rfl,Nat.le_of_ble_eq_true rfl⟩,λp hp=>?_,λmt _=>yM n60 nofun nofun⟩ zG
 ·simp only[mem_cons,not_mem_nil,or_false] at hp;rcases hp with rfl|rfl|rfl|rfl<;>simp
 ·simp only[mem_cons,not_mem_nil,or_false] at hp;rcases hp with rfl|rfl|rfl|rfl<;>simp
 ·simp only[mem_cons,not_mem_nil,or_false] at hp;rcases hp with rfl|rfl|rfl|rfl|rfl
  ·exact cq nofun nofun
  ·exact cq nofun nofun
  ·exact cq nofun nofun
  ·exact nj rfl
  ·exact nj rfl
def Ib:gZ [v] none (some (b2i c))=if c=true then [v] else []:=by cases c<;>rfl
def sU (ro:Ro K R)(hk:6<=k)(n0:2<=N)(n60:N<=60)(hm:m<=1099500000000)(z:Sep (hand h m::O) H)(q:il R N h m O Q):aa tab R k jw [.ref h,.int (N:Int)] H Q E:=by
 refine wc (d:=ei) nofun rfl rfl ?_;walk_at "gd";rename_i b H1 b0 b1 z1 r1 H2 r10 r11 z2 l3 H3 z3 r4 H4 r40 r41 z4;obtain ⟨w,e2,v,rfl,v0,v1⟩:=Gw (xs:=[.int 0,.int 1,.int (1+r1)]) (P:=inR 0 1001) (r:=r4) r40 (by simpa using r41) (Jt (.mk (by decide) (by decide)) (.mk (by decide) (by decide)) (.mk nofun nofun));refine iO (by grind) e2 ?_;obtain ⟨a,rfl⟩:=Int.eq_ofNat_of_zero_le b0;have z5:Sep (hand h (m+10)::O) H4:=(dq (n:=m+10) (z4.pull (A:=hand h _) (by symm)) nofun).sub (by ac_nf);clear z z1 z2 z3 z4;left;refine ⟨rfl,?_⟩;left;intro d1 x1 g1 g2 g3;refine hG (n:=.t) (i:=(a:Int)) ro nofun nofun nofun (bP z5 g1 g2 g3) (λH5 z6=>⟨rfl,?_⟩);left;refine ⟨rfl,?_⟩;left;intro d2 x2 g1 g2 g3;refine hG (n:=.s) (i:=v) ro nofun nofun nofun (bP z6 g1 g2 g3) (λH6 z7=>⟨rfl,?_⟩);left;refine aj z7 (Nat.le_of_ble_eq_true rfl) (λL H7 z8=>?_);clear z5 z6 z7;left;refine ⟨rfl,?_⟩;left;refine aj z8 (Nat.le_of_ble_eq_true rfl) (λl4 H8 z9=>?_);right;refine rk ?_;left;refine Fz z9 z9.at (λl5 H9 zA=>?_);rw[Ib] at zA;have hps:(if jT (.int v) (.int 0)=true then [V.int (a:Int)] else [])=(if v=0 then [a] else []).map (λ(i:Nat)=>V.int (i:Int)):=by
  by_cases e:v=0
  ·rw[if_pos (Gn e),if_pos e];rfl
  ·rw[if_neg (by rw[FY e];decide),if_neg e];rfl
 rw[hps] at zA;left;refine qZ (ps:=if v=0 then [a] else []) nofun nofun n60 (by by_cases e:v=0<;>simp[e];omega) zA .here (λC kk HB hkk zB=>?_);have hkk:kk=if v=0 then N-a else 0:=by
  by_cases e:v=0
  ·rw[if_pos e] at hkk⊢;rcases hkk with ⟨e,_⟩|⟨p',e,e2⟩
   ·cases e
   ·cases e;exact e2
  ·rw[if_neg e] at hkk⊢;rcases hkk with ⟨_,e⟩|⟨p',e,e2⟩
   ·exact e
   ·cases e
 clear z8 z9 zA;left;refine ⟨rfl,?_⟩;left;intro d3 x3 g1 g2 g3;refine BE (n:=.s) ro nofun (bP zB g1 g2 g3) (λHC zC=>⟨rfl,?_⟩);left;refine aj zC (Nat.le_of_ble_eq_true rfl) (λl1 HD zD=>?_);left;refine cV zD (zD.get (.there (.there (.there (.there (.there .here)))))) zD.at (Nat.le_of_ble_eq_true rfl) (λL1 HE zE=>?_);left;refine ⟨rfl,?_⟩;left;intro e3 x4 g1 g2 g3;refine aF (vs':=[.ref e3,.int 0,oV none]) rfl ?_;refine kK (n:=0) (o:=none) ro nofun (by decide) (by decide) True.intro (bP zE g1 g2 g3) (λHF zF=>⟨rfl,?_⟩);left;refine aj zF (Nat.le_of_ble_eq_true rfl) (λl2 HG zG=>?_);left;refine cV zG (zG.get (.there (.there (.there (.there (.there (.there (.there (.there .here))))))))) zG.at (Nat.le_of_ble_eq_true rfl) (λL2 HI zI=>?_);clear zB zC zD zE zF zG;left;refine az zI (Nat.le_of_ble_eq_true rfl) (λu HJ zJ=>?_);left;refine az zJ.toT (Nat.le_of_ble_eq_true rfl) (λt HK zK=>?_);left;refine aj zK (Nat.le_of_ble_eq_true rfl) (λP HL zL=>?_);have zL:Sep (pt P (.lst [.ref L1,.ref L2,.ref t])::pt t (.tup [.str "parted",.int 3,.ref C,.ref u])::tu u [.str "cell",.int (a:Int)]::pt L2 (.lst [.ref d1,.ref d2,.ref e3])::pt l2 (.lst [.ref e3])::ao R e3 (.hop 0 none)::pt L1 (.lst [.ref d1,.ref d2,.ref d3])::pt l1 (.lst [.ref d3])::ao R d3 (.sp (.write .s))::pt C (.lst ((stK N kk).map V.int))::pt l5 (.lst ((if v=0 then [a] else []).map (λ(i:Nat)=>V.int (i:Int))))::pt l4 (.lst [.int (a:Int)])::pt L (.lst [.ref d1,.ref d2])::ao R d2 (.sp (.set .s v))::ao R d1 (.sp (.set .t (a:Int)))::hand h (m+10)::O) HL:=zL;have zM:Sep (gg N t (.ce 3 kk a)::pt P (.lst [.ref L1,.ref L2,.ref t])::pt L2 (.lst [.ref d1,.ref d2,.ref e3])::pt l2 (.lst [.ref e3])::ao R e3 (.hop 0 none)::pt L1 (.lst [.ref d1,.ref d2,.ref d3])::ao R d3 (.sp (.write .s))::ao R d2 (.sp (.set .s v))::ao R d1 (.sp (.set .t (a:Int)))::hand h (m+10)::O) HL:=Bt (b:=3) (kk:=kk) (c:=a) (zL.sub (Γ':=pt t (.tup [.str "parted",.int 3,.ref C,.ref u])::tu u [.str "cell",.int (a:Int)]::pt C (.lst ((stK N kk).map V.int))::pt P (.lst [.ref L1,.ref L2,.ref t])::pt L2 (.lst [.ref d1,.ref d2,.ref e3])::pt l2 (.lst [.ref e3])::ao R e3 (.hop 0 none)::pt L1 (.lst [.ref d1,.ref d2,.ref d3])::ao R d3 (.sp (.write .s))::ao R d2 (.sp (.set .s v))::ao R d1 (.sp (.set .t (a:Int)))::hand h (m+10)::O) (by ac_nf));have zN:=(dq (n:=m+20) (zM.pull (A:=hand h _) (by symm)) nofun).sub (Γ':=pt P (.lst [.ref L1,.ref L2,.ref t])::pt L1 (.lst [.ref d1,.ref d2,.ref d3])::pt L2 (.lst [.ref d1,.ref d2,.ref e3])::gg N t (.ce 3 kk a)::hand h (m+20)::ao R d1 (.sp (.set .t (a:Int)))::ao R d2 (.sp (.set .s v))::ao R d3 (.sp (.write .s))::ao R e3 (.hop 0 none)::O) (by ac_nf);subst hkk;refine q P L1 L2 t [(d1,.sp (.set .t (a:Int))),(d2,.sp (.set .s v)),(d3,.sp (.write .s))] [(d1,.sp (.set .t (a:Int))),(d2,.sp (.set .s v)),(e3,.hop 0 none)] [(d1,.sp (.set .t (a:Int))),(d2,.sp (.set .s v)),(d3,.sp (.write .s)),(e3,.hop 0 none)] _ HL ⟨λp hp=>?_,λp hp=>?_,⟨Nat.le_of_ble_eq_true rfl,Nat.le_of_ble_eq_true rfl⟩,⟨Nat.le_of_ble_eq_true rfl,Nat.le_of_ble_eq_true rfl⟩,λp hp=>?_,λmt _=>n6 n60 nofun v0 nofun⟩ zN
 ·simp only[mem_cons,not_mem_nil,or_false] at hp;rcases hp with rfl|rfl|rfl<;>simp
 ·simp only[mem_cons,not_mem_nil,or_false] at hp;rcases hp with rfl|rfl|rfl<;>simp
 ·simp only[mem_cons,not_mem_nil,or_false] at hp;rcases hp with rfl|rfl|rfl|rfl
  ·exact cq nofun nofun
  ·exact cq nofun nofun
  ·exact ⟨True.intro,rfl⟩
  ·exact ⟨en.1,rfl⟩
end
section
variable {h:Addr}{m:Int}{N:Nat}
def Ep (ro:Ro K R)(hk:6<=k)(n0:2<=N)(n60:N<=60)(hm:m<=1099500000000)(z:Sep (hand h m::O) H)(q:il R N h m O Q):aa tab R k pq [.ref h] H Q E:=by
 refine wc (d:=hZ) nofun rfl rfl ?_;left;refine ⟨rfl,?_⟩;left;intro d1 x1 g1 g2 g3;refine Ge (n:=.s) (i:=0) ro nofun (by decide) (by decide) (bP z g1 g2 g3) (λH1 z1=>⟨rfl,?_⟩);left;refine ⟨rfl,?_⟩;left;intro d2 x2 g1 g2 g3;refine aF (vs':=[.ref d2,.int 0,oV none]) rfl ?_;refine kK (n:=0) (o:=none) ro nofun (by decide) (by decide) True.intro (bP z1 g1 g2 g3) (λH2 z2=>⟨rfl,?_⟩);left;refine ⟨rfl,?_⟩;left;intro d3 x3 g1 g2 g3;refine FU (n:=.m) (m:=.m) ro nofun (bP z2 g1 g2 g3) (λH3 z3=>⟨rfl,?_⟩);left;refine ⟨rfl,?_⟩;left;intro d4 x4 g1 g2 g3;refine aF (vs':=[.ref d4,.int 0,oV (some 1)]) rfl ?_;refine kK (n:=0) (o:=some 1) ro nofun (by decide) (by decide) (.inr rfl) (bP z3 g1 g2 g3) (λH4 z4=>⟨rfl,?_⟩);left;refine ⟨rfl,?_⟩;left;intro d5 x5 g1 g2 g3;refine hG (n:=.s) (i:=5) ro nofun (by decide) (by decide) (bP z4 g1 g2 g3) (λH5 z5=>⟨rfl,?_⟩);left;refine ⟨rfl,?_⟩;left;intro d6 x6 g1 g2 g3;refine aF (vs':=[.ref d6,.int 0,oV none]) rfl ?_;refine kK (n:=0) (o:=none) ro nofun (by decide) (by decide) True.intro (bP z5 g1 g2 g3) (λH6 z6=>⟨rfl,?_⟩);left;refine aj z6 (Nat.le_of_ble_eq_true rfl) (λL H7 z7=>?_);have z7:Sep (pt L (.lst [.ref d1,.ref d2,.ref d3,.ref d4,.ref d5,.ref d6])::ao R d6 (.hop 0 none)::ao R d5 (.sp (.set .s 5))::ao R d4 (.hop 0 (some 1))::ao R d3 (.sp (.take .m .m))::ao R d2 (.hop 0 none)::ao R d1 (.sp (.add .s 0))::hand h m::O) H7:=z7;have z8:=z7.pull (A:=hand h m) (by symm);clear z z1 z2 z3 z4 z5 z6 z7;have pick:∀ {r:Int},0<=r->r<6->∃ p:Addr×Rw,mL [V.ref d1,.ref d2,.ref d3,.ref d4,.ref d5,.ref d6] r=some (qV p)/\p ∈ [(d6,Rw.hop 0 none),(d5,.sp (.set .s 5)),(d4,.hop 0 (some 1)),(d3,.sp (.take .m .m)),(d2,.hop 0 none),(d1,.sp (.add .s 0))]/\By p.2:=λ{r} h0 h1=>by
  rcases (by omega:r=0\/r=1\/r=2\/r=3\/r=4\/r=5) with rfl|rfl|rfl|rfl|rfl|rfl
  ·exact ⟨(d1,_),rfl,by simp,xQ⟩
  ·exact ⟨(d2,_),rfl,by simp,en⟩
  ·exact ⟨(d3,_),rfl,by simp,rQ⟩
  ·exact ⟨(d4,_),rfl,by simp,su⟩
  ·exact ⟨(d5,_),rfl,by simp,xP⟩
  ·exact ⟨(d6,_),rfl,by simp,en⟩
 walk_at "gd";rename_i r1 H8 r10 r11 z9;obtain ⟨p1,e1,m1,i1⟩:=pick r10 r11;refine iO (by grind) e1 ?_;left;refine aj z9 (Nat.le_of_ble_eq_true rfl) (λL1 H9 zA=>?_);have zA:=zA.pull (A:=hand h _) (by symm);clear z8 z9;walk_at "gd";rename_i r2 HA r20 r21 zB;obtain ⟨p2,e2,m2,i2⟩:=pick r20 r21;refine iO (by grind) e2 ?_;left;refine aj zB (Nat.le_of_ble_eq_true rfl) (λL2 HB zC=>?_);left;refine az zC (Nat.le_of_ble_eq_true rfl) (λt HC zD=>?_);left;refine aj zD (Nat.le_of_ble_eq_true rfl) (λP HD zE=>?_);have zG:=(dq (n:=m+20) (zE.pull (A:=hand h _) (by symm)) nofun).sub (Γ':=pt P (.lst [.ref L1,.ref L2,.ref t])::pt L1 (.lst [qV p1])::pt L2 (.lst [qV p2])::pt t (.tup [.str "alike"])::hand h (m+20)::ao R d6 (.hop 0 none)::ao R d5 (.sp (.set .s 5))::ao R d4 (.hop 0 (some 1))::ao R d3 (.sp (.take .m .m))::ao R d2 (.hop 0 none)::ao R d1 (.sp (.add .s 0))::O) (by ac_nf);refine q P L1 L2 t [p1] [p2] [(d6,Rw.hop 0 none),(d5,.sp (.set .s 5)),(d4,.hop 0 (some 1)),(d3,.sp (.take .m .m)),(d2,.hop 0 none),(d1,.sp (.add .s 0))] .al HD ⟨λp hp=>?_,λp hp=>?_,⟨Nat.le_of_ble_eq_true rfl,Nat.le_of_ble_eq_true rfl⟩,⟨Nat.le_of_ble_eq_true rfl,Nat.le_of_ble_eq_true rfl⟩,λp hp=>?_,λmt hmt=>vU hmt i1 i2⟩ zG
 ·rw[mem_singleton.mp hp];exact m1
 ·rw[mem_singleton.mp hp];exact m2
 ·simp only[mem_cons,not_mem_nil,or_false] at hp;rcases hp with rfl|rfl|rfl|rfl|rfl|rfl
  ·exact ⟨en.1,rfl⟩
  ·exact ⟨xP.1,rfl⟩
  ·exact ⟨su.1,rfl⟩
  ·exact ⟨rQ.1,rfl⟩
  ·exact ⟨en.1,rfl⟩
  ·exact ⟨xQ.1,rfl⟩
def DS {w:Int}(ro:Ro K R)(hk:7<=k)(n0:2<=N)(n60:N<=60)(hm:m<=1099500000000)(z:Sep (hand h m::O) H)(q:il R N h m O Q):aa tab R k oq [.ref h,.int w,.int (N:Int)] H Q E:=by
 refine wc (d:=ik) nofun rfl rfl ?_;right;refine bM (λ_=>?_) (λ_=>?_)
 ·right;exact wz ro nofun n0 n60 hm z q
 right;refine bM (λ_=>?_) (λ_=>?_)
 ·right;exact Ep ro nofun n0 n60 hm z q
 right;refine bM (λ_=>?_) (λ_=>?_)
 ·right;exact sU ro nofun n0 n60 hm z q
 right;refine bM (λ_=>?_) (λ_=>?_)
 ·right;exact FV ro nofun n0 n60 hm z q
 right;refine bM (λ_=>?_) (λ_=>?_)
 ·right;exact vi ro nofun n0 n60 hm z q
 right;exact tH ro nofun n0 n60 hm z q
end
def ou {S Od:List (Addr×Rw)}(h:∀ p ∈ S,p ∈ Od):cy R (Od.map (ye R)++O) (S.map qV) (S.map (·.2)):=by
 refine ⟨by simp,λi r e=>?_⟩;rw[getElem?_map] at e;obtain ⟨⟨a,r'⟩,g,rfl⟩:=Option.map_eq_some_iff.mp e;obtain ⟨Δ,hp⟩:=cJ (f:=ye R) (x:=(a,r')) (l:=Od) (h _ (mem_of_getElem? g));exact ⟨a,_,by rw[getElem?_map,g];rfl,hp O⟩
def wJ {t1 t2:Addr}{o:Al}{Δ1 Δ2:List aw}(z:Sep O H)(p1:ag (gg N t1 o) O Δ1)(p2:ag (gg N t2 o) Δ1 Δ2)(q:Q (.bl false) H):d8 R.K true (.ref t1) (.ref t2) H Q:=by
 have z1:=(z.pull p1).pull (.there p2);cases o with
 |al=>
  have z2:Sep (pt t2 (.tup [.str "alike"])::pt t1 (.tup [.str "alike"])::Δ2) H:=z1;exact jC (gU (n:=0) (z2.get (.there .here)) z2.at rfl λj x y f1 f2=>by
   rw[f1] at f2;cases f2;rcases j with _|j
   ·cases f1;exact aO (t:="str") rfl
   ·simp at f1) (by decide) (λe=>Sep.ne z2 e.symm) q
 |bx b nm=>
  obtain ⟨⟨C2,u2⟩,y2⟩:=gf z1;obtain ⟨⟨C1,u1⟩,y1⟩:=gf (y2.pull (.there (.there (.there .here))));have y:Sep (pt t1 (.tup [.str "parted",.int (b:Int),.ref C1,.ref u1])::pt C1 (.lst ((stK N 0).map V.int))::tu u1 [.str "box",.str nm]::pt t2 (.tup [.str "parted",.int (b:Int),.ref C2,.ref u2])::pt C2 (.lst ((stK N 0).map V.int))::tu u2 [.str "box",.str nm]::Δ2) H:=y1;refine jC (gU (n:=1) y.at (y.get (.there (.there (.there .here)))) rfl λj x z f1 f2=>?_) (by decide) (Sep.ne (y.sub (Γ':=pt t1 (.tup [.str "parted",.int (b:Int),.ref C1,.ref u1])::pt t2 (.tup [.str "parted",.int (b:Int),.ref C2,.ref u2])::[]) (.cons .here (.cons (.there (.there .here)) .nil)))) q;rcases j with _|_|_|_|j
  ·cases f1;cases f2;exact aO (t:="str") rfl
  ·cases f1;cases f2;exact aO (t:="int") rfl
  ·cases f1;cases f2;exact mR (n:=0) (y.get (.there .here)) (y.get (.there (.there (.there (.there .here))))) λx hx=>by
    obtain ⟨i,_,rfl⟩:=List.mem_map.mp hx;exact ⟨"int",rfl⟩
  ·cases f1;cases f2;exact gU (n:=0) (y.fq (.there (.there .here))) (y.fq (.there (.there (.there (.there (.there .here)))))) rfl λj x y f1 f2=>by
    rw[f1] at f2;cases f2;rcases j with _|_|j
    ·cases f1;exact aO (t:="str") rfl
    ·cases f1;exact aO (t:="str") rfl
    ·simp at f1
  ·simp at f1
 |ce b k c=>
  obtain ⟨⟨C2,u2⟩,y2⟩:=gf z1;obtain ⟨⟨C1,u1⟩,y1⟩:=gf (y2.pull (.there (.there (.there .here))));have y:Sep (pt t1 (.tup [.str "parted",.int (b:Int),.ref C1,.ref u1])::pt C1 (.lst ((stK N k).map V.int))::tu u1 [.str "cell",.int (c:Int)]::pt t2 (.tup [.str "parted",.int (b:Int),.ref C2,.ref u2])::pt C2 (.lst ((stK N k).map V.int))::tu u2 [.str "cell",.int (c:Int)]::Δ2) H:=y1;refine jC (gU (n:=1) y.at (y.get (.there (.there (.there .here)))) rfl λj x z f1 f2=>?_) (by decide) (Sep.ne (y.sub (Γ':=pt t1 (.tup [.str "parted",.int (b:Int),.ref C1,.ref u1])::pt t2 (.tup [.str "parted",.int (b:Int),.ref C2,.ref u2])::[]) (.cons .here (.cons (.there (.there .here)) .nil)))) q;rcases j with _|_|_|_|j
  ·cases f1;cases f2;exact aO (t:="str") rfl
  ·cases f1;cases f2;exact aO (t:="int") rfl
  ·cases f1;cases f2;exact mR (n:=0) (y.get (.there .here)) (y.get (.there (.there (.there (.there .here))))) λx hx=>by
    obtain ⟨i,_,rfl⟩:=List.mem_map.mp hx;exact ⟨"int",rfl⟩
  ·cases f1;cases f2;exact gU (n:=0) (y.fq (.there (.there .here))) (y.fq (.there (.there (.there (.there (.there .here)))))) rfl λj x y f1 f2=>by
    rw[f1] at f2;cases f2;rcases j with _|_|j
    ·cases f1;exact aO (t:="str") rfl
    ·cases f1;exact aO (t:="int") rfl
    ·simp at f1
  ·simp at f1
def Iv {mt:Int}(h:mt=0\/mt=1):(cF mt).ok:=⟨⟨(by decide:(-1000000000:Int)<=0),(by decide:(0:Int)<=1000000000)⟩,⟨(by decide:(-1000000000:Int)<=0),(by decide:(0:Int)<=1000000000)⟩,⟨(by decide:(0:Int)<=0),(by decide:(0:Int)<=1000000000)⟩,.inl rfl,⟨(by decide:(0:Int)<=5),(by decide:(5:Int)<=1000000000)⟩,h⟩
def Em (ro:Ro K R)(hk:15<=k):∀ vs H Q E,hR K 63 vs H Q E->aa tab R k BW vs H Q E:=by
 rintro vs H Q E ⟨a,is,rfl,hS,h63,hQ⟩;refine wc (d:=xG) nofun rfl rfl ?_;right;rw[<-ro.hK] at hS;refine DM nofun Sep.nil hS h63 (λh H1 hs1=>?_);right;refine md (λj U H=>∃ u2 u3 u4 u5 u6 u7 u8,U=[some (.ref a),some (.ref h),u2,u3,u4,u5,u6,u7,u8]/\Sep [hand h (100*(j:Int))] H) ?_ ?_ ?_
 ·exact ⟨_,_,_,_,_,_,_,rfl,dq hs1 nofun⟩
 ·rintro j U H hj ⟨u2,u3,u4,u5,u6,u7,u8,rfl,z⟩;have hj2:j<4:=hj;clear hs1;walk_at "gd";rename_i w H2 w0 w1 z2 s H3 s0 s1 z3;obtain ⟨N,hN⟩:=Int.eq_ofNat_of_zero_le (a:=2+s) nofun;rw[hN];refine DS ro nofun nofun nofun nofun z3 (λP L1 L2 t S1 S2 Od o H4 g z4=>?_);clear z z2 z3;left;refine ⟨P,_,rfl,.inr (bg.of z4.at),rfl,?_⟩;have z5:=z4.drop.pull (A:=hand h _) (.there (.there (.there .here)));clear z4;left;refine ⟨rfl,?_⟩;walk_at "gd";rename_i mt H5 mt0 mt1 z6;have hmt:mt=0\/mt=1:=by omega
  intro B dx g1 g2 g3;refine uO ro nofun (Iv hmt) (bP z6 g1 g2 g3) (λH6 z7=>⟨rfl,?_⟩);have z7:Sep (ay R B (cF mt)::hand h (100*(j:Int)+1+1+20+1)::pt L1 (.lst (S1.map qV))::pt L2 (.lst (S2.map qV))::gg N t o::(Od.map (ye R)++[])) H6:=z7;clear z5 z6;have n1:1<=(S1.map (·.2)).length/\(S1.map (·.2)).length<=24:=by rw[length_map];exact g.n1
  have n2:1<=(S2.map (·.2)).length/\(S2.map (·.2)).length<=24:=by rw[length_map];exact g.n2
  have okS:∀ {S:List (Addr×Rw)},(∀ p ∈ S,p ∈ Od)->(∀ r ∈ S.map (·.2),Rw.ok r)/\(S.map (·.2)).any bA=false:=λ{S} hs=>⟨λr hr=>by
   obtain ⟨p,hp,rfl⟩:=List.mem_map.mp hr;exact (g.ok p (hs p hp)).1,any_eq_false.mpr λr hr=>by
   obtain ⟨p,hp,rfl⟩:=List.mem_map.mp hr;rw[(g.ok p (hs p hp)).2]
   decide⟩
  have d1:=ou (R:=R) (O:=[]) g.s1;have d2:=ou (R:=R) (O:=[]) g.s2;left;refine ⟨rfl,?_⟩;refine lC (L1:=L1) (L2:=L2) (B:=B) (N:=N) (rs1:=S1.map (·.2)) (rs2:=S2.map (·.2)) (O:=hand h (100*(j:Int)+1+1+20+1)::gg N t o::(Od.map (ye R)++[])) ro nofun n1 n2 (okS g.s1).1 (okS g.s2).1 (okS g.s1).2 (okS g.s2).2 d1.more.more d2.more.more nofun nofun (z7.sub (by ac_nf)) (λt1 o1 H7 ho z8=>?_);have eo:=ho.det (g.cm mt hmt);subst eo;clear z7;left;refine wJ z8 .here (.there (.there (.there (.there .here)))) ?_;left;refine bb rfl ?_;left;refine ⟨rfl,?_⟩;refine lC (L1:=L2) (L2:=L1) (B:=B) (N:=N) (rs1:=S2.map (·.2)) (rs2:=S1.map (·.2)) (O:=hand h (100*(j:Int)+1+1+20+1)::gg N t o1::(Od.map (ye R)++[])) ro nofun n2 n1 (okS g.s2).1 (okS g.s1).1 (okS g.s2).2 (okS g.s1).2 d2.more.more d1.more.more nofun nofun (z8.drop.sub (by ac_nf)) (λt2 o2 H8 ho2 z9=>?_);have eo:=ho2.det ho.symm;subst eo;clear z8;left;refine wJ z9 .here (.there (.there (.there (.there .here)))) ?_;left;refine bb rfl ?_;left;refine ⟨rfl,?_⟩;refine iY z9 (z9.get (.there (.there .here))) (λL3 H9 zA=>?_);left;refine lC (L1:=L1) (L2:=L3) (B:=B) (N:=N) (rs1:=S1.map (·.2)) (rs2:=S1.map (·.2)) (O:=hand h (100*(j:Int)+1+1+20+1)::(Od.map (ye R)++[])) ro nofun n1 n1 (okS g.s1).1 (okS g.s1).1 (okS g.s1).2 (okS g.s1).2 d1.more d1.more nofun nofun (zA.sub (.cons (.there (.there (.there .here))) (.cons .here (.cons (.there (.there .here)) (.cons (.there (.there .here)) (.drop (.drop (.drop .refl)))))))) (λt3 o3 HA ho3 zB=>?_);have eo:=ho3.det (o':=.al) (λ_=>rfl);subst eo;clear z9 zA;left;refine az zB (Nat.le_of_ble_eq_true rfl) (λt4 HB zC=>?_);have zC:Sep (gg N t4 .al::gg N t3 .al::pt L1 (.lst (S1.map qV))::pt L3 (.lst (S1.map qV))::ay R B (cF mt)::hand h (100*(j:Int)+1+1+20+1)::(Od.map (ye R)++[])) HB:=zC;left;refine wJ zC (.there .here) .here ?_;left;refine bb rfl ?_;clear zB;left;refine ⟨rfl,?_⟩;left;refine ae aS zC (.there (.there (.there (.there .here)))) rfl rfl ?_;left;refine mC ro nofun zC (.there (.there (.there (.there .here)))) (λt5 HC zD=>?_);left;have zD2:Sep (tu t5 [.int 0,.int 0,.int 0,.int 1,.int 5,.int mt]::gg N t4 .al::gg N t3 .al::pt L1 (.lst (S1.map qV))::pt L3 (.lst (S1.map qV))::ay R B (cF mt)::hand h (100*(j:Int)+1+1+20+1)::(Od.map (ye R)++[])) HC:=zD;refine HP zD2 zD2.atT (λh=>(by decide:¬ (HT.bz 6 0 none=0/\HT.bz 6 6 (some 5)=6)) h) (λt6 HD zE=>?_);have zE:Sep (pt t6 (.tup [.int 0,.int 0,.int 0,.int 1,.int 5])::tu t5 [.int 0,.int 0,.int 0,.int 1,.int 5,.int mt]::gg N t4 .al::gg N t3 .al::pt L1 (.lst (S1.map qV))::pt L3 (.lst (S1.map qV))::ay R B (cF mt)::hand h (100*(j:Int)+1+1+20+1)::(Od.map (ye R)++[])) HD:=zE;left;refine az zE (Nat.le_of_ble_eq_true rfl) (λt7 HE zF=>?_);left;refine Cm (ns:=[0,0,0,1,5]) (zF.get (.there .here)) zF.at ?_;left;refine bb rfl ?_;exact ⟨_,_,_,_,_,_,_,rfl,(dq (n:=100*((j+1:Nat):Int)) (zF.pull (A:=hand h _) (by symm)) nofun).sub (.cons .here .nil)⟩
 ·rintro U H ⟨u2,u3,u4,u5,u6,u7,u8,rfl,z⟩;right;exact hQ H
def uU (ro:Ro K R):∀ vs H Q E,hR K 63 vs H Q E->aa tab R 15 BW vs H Q E:=Em ro (Nat.le_refl _)
end
def walk {l:W.OpenLaw}{q:Program}{loose:List Str}{XP:(Str->Option Value)->Heap->Prop}{YP:World->Heap->Prop}{d:DefRec}{K:Params->W.Frag}(hn:l.most=some 63)(hdf:d.params.defaults=[])
    (hY:∀ (w:World) (h:Heap),YP w h->(K w.params).In h)
    (F:∀ (w:World) (mg:JT) (fa:Addr) (h:Heap),(K w.params).In h->h.Ns mainGlobals mg->mg d.name=some (.ref fa)->
      ∃ fd:FuncData,(∀ (s:Shared) (u:Value),BindsTo s fd ⟨[u],[]⟩ [("_law_script",u)])/\∀ base:Heap,(K w.params).In base->base.Ns mainGlobals mg->cU l.prog w (K w.params) mg base (w4 l.prog w) 30 fa fd ["_law_script"] (hR (K w.params) 63)):
    W.WalkO q loose XP YP l.row.toRowW d [] (λf vs=>PySem.call f vs):=
  L2.A0 (n:=63) (k:=30) (x:="_law_script") (CX:=λw=>w4 l.prog w) (sp:=λw=>hR (K w.params) 63) hn (by decide) hdf ⟨rfl,by decide,by decide⟩ hY F (λ_ _ a ns hl _ hS=>⟨a,ns,rfl,hS,hl,λ_=>rfl⟩) λ_ _ _ _ _ z=>v8 z
abbrev Ju:List (Str×V):=[("BOUND",.int 1000000000),("MOST_ROWS",.int 24),("MOST_CELLS",.int 60),("MOST_HOPPED",.int 24),("NAMES",.ref 201)]
end My
open PySem PySem.W PyProof.Rows
set_option maxRecDepth 100000 in
set_option maxHeartbeats 0 in
theorem PySem.Challenge.cw_haulbell_k87_known_pairs_holds : PySem.Challenge.rw_haulbell_k87_known_pairs.Holds := by
  refine holds_law My.F9 fun said=>?_
  refine W.holds_open (loose:=My.wL) (N:=18484)
    (q:=My.nu My.pr)
    (Yf:=fun s=>My.G9.map s.heap.get?)
    (Ya:=fun w=>(My.K0 w.params).map fun p=>some p.2)
    (Xt:=fun s=>xlAt (My.nu My.pr) [] s&&recOk PySem.Challenge.rw_haulbell_k87_known_pairs.row.records s)
    (XP:=XL (My.nu My.pr) [])
    (YP:=InK My.K0) My.Fn
    (InK.of (as:=My.G9) fun _=>by kernel_rfl) InK.keeps
    (fun s e=>xl_of s (Bool.and_eq_true_iff.mp e).1)
    XL.keeps (by rfl) (by rfl) (by rfl)
    (fun s e=>recFacts_of (Bool.and_eq_true_iff.mp e).2)
    (by rfl) (by assumption) (by decide+kernel)
    ⟨rfl,rfl,rfl,rfl,rfl,by decide+kernel⟩ ?hw ?hc
  case hw=>w_witness2
  refine My.walk (l:=PySem.Challenge.rw_haulbell_k87_known_pairs) rfl rfl (fun w h Y=>Y) ?F
  case F=>
    intro w mg fa h KX G hmg;exact L3.AR KX G hmg (T:=My.tab) (fs:=My.JC) (cs:=My.JB) (gs:=My.Ju) (d:=My.xG) (fl:=102) (k:=15) (by kernel_rfl) (by kernel_rfl) (by kernel_rfl) rfl rfl rfl (My.uU ⟨rfl,by kernel_rfl,by kernel_rfl,by kernel_rfl,by kernel_rfl,⟨201,by kernel_rfl,L3.CC (by kernel_rfl)⟩⟩)
