import PyProof.Rows.All
import Wide.All
import OpenK.AllK
import Wide.FinOn
import PySem.Challenge.RW_haulbell_k76_no_members
import Lean
import PyProof.EqAt
import PyProof.EqKinds
import PyProof.TupleCall
import PyProof.EnumStmt
import PyProof.NeKinds
import PyProof.ExcAttrAll.ValueError
import PyProof.ExcInit
import PyProof.StationsW
import PyProof.NsDelKeeps
import PyProof.InstStoreFacts
import PyProof.ZipIter
import PyProof.IsiBase
import PyProof.AttrMiss
import KE.KDictOf
import KE.KDictList
import PyProof.InstEq
import PyProof.StrOps2
import KE.LcSums
set_option linter.all false
set_option maxRecDepth 100000
set_option Elab.async false
set_option compiler.extract_closed false
theorem My.kleA {a b k:Nat}(h:a<=k)(e:Nat.ble (b+1) a=true):b<=k-1:=Nat.le_sub_one_of_lt (Nat.lt_of_lt_of_le (Nat.le_of_ble_eq_true e) h)
theorem My.kleB {a b k:Nat}(h:a<=k)(e:Nat.ble b a=true):b<=k:=Nat.le_trans (Nat.le_of_ble_eq_true e) h
set_option hygiene false
local macro_rules| `(tactic|sleep $n:num)=>`(tactic|((conv at h=>lhs;whnf);iterate $n (split at h;rotate_left;cases h)))
set_option hygiene true
local macro_rules|`(command|abbrev $i:declId $s:optDeclSig $v:declVal)=>`(command|noncomputable def $i:declId $s:optDeclSig $v:declVal)
local macro_rules|`(command|def $i:declId $b:bracketedBinder* :$t $v:declVal)=>`(command|theorem $i:declId $b:bracketedBinder* :$t $v:declVal)
local macro_rules|`(nofun)=>`(by first|exact My.kleA (by assumption) (by rfl)|exact My.kleB (by assumption) (by rfl)|lia|omega)
noncomputable abbrev My.pr:PySem.Program:=PySem.Challenge.rw_haulbell_k76_no_members.row.prog
open PySem PySem.W in
set_option maxHeartbeats 0 in
def My.HP:PySem.Challenge.rw_haulbell_k76_no_members.wellSaid=true:=by
  rewrite [Fast.te9446332074065402090]
  kernel_rfl
namespace L2
open PySem PySem.Spec
abbrev inClass (s:Stmt)(j:Nat):Stmt:=match s with
  | .ClassDef _ _ _ body _ _ _ _ _ _ _=>body.getD j (.Pass ⟨0,0,0,0⟩)
  |_=>.Pass ⟨0,0,0,0⟩
abbrev uJ (s:Stmt):Arguments:=match s with
  | .FunctionDef _ a _ _ _ _ _ _ _ _=>a
  |_=>{ posonlyargs:=[],args:=[],vararg:=none,kwonlyargs:=[],kw_defaults:=[],kwarg:=none,defaults:=[] }
abbrev uG (s:Stmt):List Stmt:=match s with
  | .FunctionDef _ _ b _ _ _ _ _ _ _=>b
  |_=>[]
abbrev rN (s:Stmt):Scope:=match s with
  | .FunctionDef _ _ _ _ _ _ sc _ _ _=>sc
  |_=>{ kind:=.function,names:=[],isGenerator:=false,isCoroutine:=false }
end L2
namespace My
open PySem L2 PySem.W
abbrev top (i:Nat):Stmt:=PySem.Challenge.pw_haulbell_k76_no_members.main.body.getD i (.Pass ⟨0,0,0,0⟩)
abbrev tq (i j:Nat):Stmt:=inClass (top i) j
/-- the top's run on a tree -/
abbrev mj (tb:String->Option Builtin)(p:Program)(w:World)(m:Nat)(ann:Option Value):Nat->SharedT->Thread->Option SharedT
  |0,_,_=>none
  |n+1,s,t=>match through t with
    |true=>some s
    |false=>match stepOk m ann t with
      |false=>none
      |true=>match stepT (denote tb) p w s t with
        |some r=>mj tb p w m ann n r.1 r.2
        |none=>none
def uq {tb:String->Option Builtin}{p:Program}{w:World}{m:Nat}{ann:Option Value}:∀ {n:Nat}{s s':SharedT}{t:Thread},mj tb p w m ann n s t=some s'->topRun tb p w m ann n s.abs t=some s'.abs
  |0,_,_,_,h=>by cases h
  |n+1,s,s',t,h=>by
    unfold mj at h;unfold topRun;cases a:through t
    · rw[a] at h;dsimp only at h⊢
      cases b:stepOk m ann t
      · rw[b] at h;cases h
      · rw[b] at h;dsimp only at h⊢
        cases c:stepT (denote tb) p w s t with
        |none=>rw[c] at h;cases h
        |some r=>rw[c] at h;rw[stepT_spec c];exact uq h
    · rw[a] at h;cases h;rfl
abbrev G0:Nat->BT->List Obj->BT
  |_,t,[]=>t
  |n,t,o::os=>G0 (n+1) (t.ins n o) os
abbrev yu (P:Params):BT:=G0 0 .nil (boot_heap P).objs.toList
abbrev JN (P:Params)(os:OsState):SharedT:=⟨yu P,11,(boot_heap P).life,Array.mk [],boot_drawn,boot_toks,os⟩
def wJ {p q:Program}{loose:List Str}{Xt:Shared->Bool}{α:Type}{Yf:Shared->α}{Ya:World->α}{N:Nat}(e:opening p=plainProg p.main.scope.names)(hN:Nat.ble 600 N=true)(f:∀ s,fenceModules? p s=some s)
    (h0:∀ P,absHeap (yu P) 11 (boot_heap P).life=boot_heap P) (h1:∀ P,((boot_heap P).isNs mainGlobals,(boot_heap P).objs.size,(boot_heap P).nsMap mainGlobals "__annotations__")=(true,11,some (.ref 6)))
    (run:∀ (w:World) (os:OsState),(mj treeTable p w 11 (some (.ref 6)) N (JN w.params os) (topStub p)).map (λs=>(staticsOk (importedModules p.main.body) (boot_heap w.params) s.abs.heap&&namesBound p s.abs.heap&&gensDone s.abs&&laidKept (boot_heap w.params) s.abs.heap,
      openSeen q loose (importedModules p.main.body) Xt true s.abs,Yf s.abs))=some (true,openGood q loose,Ya w)):LeftO p q loose Xt Yf Ya N:=λw=>by
  obtain ⟨⟨hp,gs,d,k,os⟩,e1,e2⟩:=Option.map_eq_some_iff.mp (boot_open e hN f w);obtain ⟨rfl,rfl,rfl,rfl⟩:hp=boot_heap w.params/\gs=Array.mk []/\d=boot_drawn/\k=boot_toks:=by simpa using e2
  obtain ⟨z1,z2,z3⟩:_/\_/\_:=by simpa only [Prod.mk.injEq] using h1 w.params
  obtain ⟨s,r,l⟩:=Option.map_eq_some_iff.mp (run w os);obtain ⟨l1,l2,l3⟩:_/\_/\_:=by simpa only [Prod.mk.injEq] using l
  have r1:=uq r;have a0:(JN w.params os).abs=⟨boot_heap w.params,Array.mk [],boot_drawn,boot_toks,os⟩:=by
    show (⟨absHeap (yu w.params) 11 (boot_heap w.params).life,Array.mk [],boot_drawn,boot_toks,os⟩:Shared)=_;rw[h0]
  rw[a0] at r1;unfold openEnds;rw[e1];have t:topFrom treeTable p w N ⟨boot_heap w.params,Array.mk [],boot_drawn,boot_toks,os⟩=some s.abs:=by
    unfold topFrom;dsimp only;rw[z1,z2,z3,r1];show (match staticsOk (importedModules p.main.body) (boot_heap w.params) s.abs.heap&&namesBound p s.abs.heap&&gensDone s.abs&&laidKept (boot_heap w.params) s.abs.heap with|true=>some s.abs|false=>none)=some s.abs;rw[l1]
  show (topFrom treeTable p w N _).map _=_;rw[t];exact congrArg some (Prod.ext l2 l3)
abbrev JS:List Addr:=2::3::30::31::47::48::50::51::66::67::69::70::85::86::88::89::104::105::107::108::123::124::126::127::142::143::145::146::161::162::164::165::180::181::183::184::199::200::202::203::211::212::218::219::220::226::227::233::234::240::241::249::255::256::262::263::269::270::274::275::281::282::284::285::295::296::302::303::312::313::330::331::337::338::344::345::347::348::363::364::370::371::377::378::380::381::396::397::403::404::410::411::413::414::429::430::436::437::443::444::446::447::462::463::469::470::476::477::479::480::488::489::495::496::502::503::511::517::518::524::525::531::532::538::539::545::546::552::553::559::560::578::579::585::586::588::589::599::600::606::607::620::621::627::628::634::635::655::656::662::663::669::670::683::684::686::687::697::698::704::705::711::712::716::717::723::724::730::731::737::738::749::750::756::757::763::764::770::771::777::778::784::785::791::792::796::797::803::804::813::814::824::825::831::832::840::846::847::853::854::860::861::863::864::872::873::879::880::886::887::893::894::900::901::907::908::921::922::928::929::931::932::947::948::954::955::957::958::973::974::980::981::983::984::999::1000::1006::1007::1009::1010::1025::1026::1032::1033::1035::1036::1051::1052::1058::1059::1061::1062::1070::1071::1077::1078::1084::1085::1091::1092::1098::1099::1105::1106::1112::1113::1119::1120::1126::1127::1133::1134::1140::1141::1147::1148::1154::1155::1161::1162::1166::1167::1171::1172::1178::1179::1183::1184::1188::1189::1195::1196::1202::1203::1209::1210::1214::1215::1221::1222::1228::1229::1233::1234::[]
abbrev Mg:List Addr:=48::67::86::105::124::143::162::181::200::212::219::227::234::241::256::263::270::275::282::296::303::331::338::345::364::371::378::397::404::411::430::437::444::463::470::477::489::496::503::518::525::532::539::546::553::560::579::586::600::607::621::628::635::656::663::670::684::698::705::712::717::724::731::738::750::757::764::771::778::785::792::797::804::825::832::847::854::861::873::880::887::894::901::908::922::929::948::955::974::981::1000::1007::1026::1033::1052::1059::1071::1078::1085::1092::1099::1106::1113::1120::1127::1134::1141::1148::1155::1162::1167::1172::1179::1184::1189::1196::1203::1210::1215::1222::1229::1234::[]
abbrev L9:List Addr:=[31,51,70,89,108,127,146,165,184,203,285,313,348,381,414,447,480,589,687,814,864,932,958,984,1010,1036,1062]
abbrev runK (tb:String->Option Builtin)(p:Program)(w:World)(m:Nat)(ann:Option Value):Nat->SharedT->Thread->Option (SharedT×Thread)
  |0,s,t=>some (s,t)
  |n+1,s,t=>match through t with
    |true=>none
    |false=>match stepOk m ann t with
      |false=>none
      |true=>match stepT (denote tb) p w s t with
        |some r=>runK tb p w m ann n r.1 r.2
        |none=>none
def dD {tb:String->Option Builtin}{p:Program}{w:World}{m:Nat}{ann:Option Value}{k:Nat}:∀ {n:Nat}{s:SharedT}{t:Thread}{r:SharedT×Thread},runK tb p w m ann n s t=some r->mj tb p w m ann (n+k) s t=mj tb p w m ann k r.1 r.2
  |0,s,t,r,h=>by
    rw[Nat.zero_add];cases h
    rfl
  |n+1,s,t,r,h=>by
    rw[Nat.succ_add];unfold runK at h;conv=>lhs;unfold mj
    cases a:through t
    · rw[a] at h;dsimp only at h⊢
      cases b:stepOk m ann t
      · rw[b] at h;cases h
      · rw[b] at h;dsimp only at h⊢
        cases c:stepT (denote tb) p w s t with
        |none=>rw[c] at h;cases h
        |some r=>rw[c] at h;exact dD h
    · rw[a] at h;cases h
abbrev kT (x y:Str)(s:Stmt):Obj:=⟨.none,none,.func { name:=x,qualname:=y,params:=uJ s,body:=.stmts (uG s),scope:=rN s,globals:=builtinsNs,closure:=[],defaults:=.none,kwdefaults:=.none },#[]⟩
abbrev bo (P:Params)(i:Nat):Obj:=(boot_heap P).objs.toList.getD i ⟨.none,none,.plain,#[]⟩
abbrev iP (p:Program):Env:={ scope:=p.main.scope,locals:=mainNs,globals:=mainNs,cells:=[],code:=.ref 13,frame:=some 14 }
abbrev Ls:Frame:=.ret (λx=>Sem.bind (match x with| .ok f=>Sem.pure f| .error e=>Sem.raise e) (λ_=>ret .none)) none false [] (.builtin "claim.caller" {}) default []
abbrev AX (p:Program)(X:List Stmt):Sem Fin:=Sem.bind (Sem.onRaise (execs X (iP p)) (leaving (iP p))) (λa=>Sem.pure (Fin.done a))
abbrev kM (p:Program)(X:List Stmt)(q:Pos):Thread:=⟨AX p X,.body (behindTheImports p) (iP p),q,[Ls]⟩
def xP {tb:String->Option Builtin}{p:Program}(h:blockStart (behindTheImports p) (iP p)=Sem.pure ()):denote tb (.body (behindTheImports p) (iP p))=AX p (behindTheImports p):=by
  show Sem.bind (blockStart (behindTheImports p) (iP p)) (λ_=>AX p (behindTheImports p))=_;rw[h]
  rfl
abbrev o0:Obj:=⟨.type "tuple",none,.seq #[] 0,#[]⟩
abbrev oN:Obj:=⟨.none,none,.fields #[],#[]⟩
abbrev oL:List Str->Nat->List Value
  | [],_=>[]
  |x::r,t=>.str x t::oL r (t+1)
abbrev oS (l:List Str)(t:Nat):Obj:=⟨.type "tuple",none,.seq (Array.mk (oL l t)) 0,#[]⟩
abbrev oI (l c a:Nat):Obj:=⟨.none,none,.fields #[.int l 0,.int c 0,.ref a],#[]⟩
abbrev oK (x:Str)(t l r:Nat):Obj:=⟨.type "code",none,.fields #[.str x t,.str x (t+1),.str "/claim/cut.py" (t+2),.int l 0,.int 0 0,.int 0 0,.int 0 0,.int 0 0,.ref r,.bool false,.int 181 0,.ref (r+1),.none,.none,.none,.none,.int (t+3:Nat) 0,.int l 0,.str "/claim/cut.py" (t+4)],#[]⟩
abbrev oC (x y:Str)(t l n r u:Nat):Obj:=⟨.type "code",none,.fields #[.str x t,.str y (t+1),.str "/claim/cut.py" (t+2),.int l 0,.int n 0,.int 0 0,.int 0 0,.int 3 0,.ref r,.bool true,.int 181 0,.ref (r+1),.none,.ref (r+2),.ref (r+3),.ref (r+4),.int u 0,.int l 0,.str "/claim/cut.py" (u+1)],#[]⟩
abbrev oF (x y:Str)(s:Stmt)(m:Str)(t c:Nat)(d:Value:=.none):Obj:=⟨.type "function",none,.func (fnOf x y (uJ s) (uG s) (rN s) d .none .none (.str m t) none (.ref c) .none),#[]⟩
abbrev oR (a b:Nat)(m:Str)(t:Nat):Obj:=⟨.type "frame",none,.plain,#[some (.ref a),some (.ref 3),some (.ref b),none,some (.str m t),none,some (.ref 0)]⟩
abbrev oX (x:Str)(b m:List Value)(n:Addr)(s:List Value)(r t u:Nat)(w:String):Obj:=⟨.type "type",none,.cls ⟨x,b,m,n,x,true,[],s,false,none,false⟩,#[some (.ref r),none,some (.str x t),some (.str x u),some (.builtin w),some (.bool true)]⟩
abbrev oU (a:Addr):Obj:=⟨.type "super",none,.fields #[.ref a,.ref a,.ref a],#[]⟩
abbrev oJ (a:Addr):Obj:=⟨.type "builtin_function_or_method",none,.fields #[.builtin "object.__init_subclass__",.ref a],#[]⟩
abbrev oP:Obj:=⟨.type "builtin_function_or_method",none,.fields #[.builtin "type.__prepare__",.type "type"],#[]⟩
abbrev oQ (a:Addr):Obj:=⟨.type "tuple",none,.seq #[.ref a] 0,#[]⟩
abbrev fG (x y:Str)(s:Stmt)(m:Str)(mt:Nat)(l:List Str)(t ln n a:Nat)(r:List Obj):List Obj:=o0::oN::oS l (t+3)::o0::kT x y s::oC x y t ln n a (t+3+l.length)::oF x y s m mt (a+5)::r
abbrev oW:List (Nat×Obj)->List Obj->List Obj
  | [],l=>l
  |x::r,l=>(oW r l).set x.1 x.2
abbrev eV (x:Str)(t:Tok)(v:Value)(P:Params):DictEntry:=⟨PyData.keyHash P x,.str x t,v⟩
abbrev eM (t:Nat)(m:Str)(u:Nat):Params->DictEntry:=eV "__module__" t (.str m u)
abbrev eQ (t:Nat)(m:Str)(u:Nat):Params->DictEntry:=eV "__qualname__" t (.str m u)
abbrev eF (t l u:Nat):Params->DictEntry:=eV "__firstlineno__" t (.int l u)
abbrev eS (t a:Nat):Params->DictEntry:=eV "__static_attributes__" t (.ref a)
abbrev eN (t:Nat):Params->DictEntry:=eV "__doc__" t .none
abbrev eR (x:Str)(t a:Nat):Params->DictEntry:=eV x t (.ref a)
abbrev oD (P:Params)(es:List (Params->DictEntry))(n:Nat):Obj:=⟨.type "dict",none,.dict (Array.mk (es.map λf=>f P)) n,#[]⟩
abbrev LS (P:Params):List Obj:=
bo P 0::
bo P 1::
bo P 2::
bo P 3::
bo P 4::
bo P 5::
bo P 6::
bo P 7::
bo P 8::
bo P 9::
bo P 10::
o0::
oN::
oK "<module>" 182 1 11::
oR 13 3 "__main__" 164::[]
abbrev LN (x y:Str)(t l n r:Nat):Obj:=⟨.type "code",none,.fields #[.str x t,.str y (t+1),.str "/claim/cut.py" (t+2),.int l 0,.int n 0,.int 0 0,.int 0 0,.int 3 0,.ref r,.bool true,.int 181 0,.ref (r+1),.none,.none,.none,.ref (r+2),.int (t+3:Nat) 0,.int l 0,.str "/claim/cut.py" (t+4)],#[]⟩
abbrev oG (x b:String)(v:Value)(a t:Nat):Obj:=⟨.type "getset_descriptor",none,.fields #[.str (Str.ofString x) t,.ref a,.builtin b,v],#[]⟩
@[reducible]def Mt:Type:=Str×Str×List Str×Nat×Nat×List (Obj×Nat)
abbrev Dw (a t:Nat)(s:Stmt)(m:Str×Nat)(x y:Str)(l:List Str)(ln n:Nat)(d:Value):List Obj:=match l with
  | []=>o0::oN::kT x y s::LN x y t ln n a::oF x y s m.1 m.2 (a+3) d::[]
  |_=>o0::oN::oS l (t+3)::o0::kT x y s::oC x y t ln n a (t+3+l.length)::oF x y s m.1 m.2 (a+5) d::[]
abbrev LD (a t:Nat)(s:Stmt)(m:Str×Nat)(q:Mt):List Obj:=match q.2.2.2.2.2 with
  | []=>Dw a t s m q.1 q.2.1 q.2.2.1 q.2.2.2.1 q.2.2.2.2.1 .none
  |d::_=>d.1::Dw (a+1) (t+d.2) s m q.1 q.2.1 q.2.2.1 q.2.2.2.1 q.2.2.2.2.1 (.ref a)
abbrev Dx (q:Mt)(a:Nat):Nat:=match q.2.2.1 with
  | []=>a+5+q.2.2.2.2.2.length
  |_=>a+7+q.2.2.2.2.2.length
abbrev IB (q:Mt)(t:Nat):Nat:=match q.2.2.2.2.2 with
  | []=>t+6+q.2.2.1.length
  |d::_=>t+d.2+6+q.2.2.1.length
abbrev Lp (i:Nat)(m:Str×Nat):Nat->List Mt->Nat->Nat->(List Obj->Nat->Nat->List Obj)
  |_,[],_,_=>λr _ _=>r
  |j,q::l,a,t=>λr x y=>LD a t (inClass (top i) j) m q++Lp i m (j+1) l (Dx q a) (IB q t) r x y
abbrev Ln:List Mt->Nat->Nat
  | [],a=>a
  |q::l,a=>Ln l (Dx q a)
abbrev Ly:List Mt->Nat->Nat
  | [],a=>a
  |q::l,a=>Ly l (IB q a)
abbrev LH:List Mt->Nat->Nat->List (Params->DictEntry)->List (Params->DictEntry)
  | [],_,_,r=>r
  |q::l,a,t,r=>eR q.1 (IB q t-1) (Dx q a-1)::LH l (Dx q a) (IB q t) r
abbrev Lw:List Mt->Nat->List Value
  | [],_=>[]
  |q::l,a=>.int q.2.2.2.1 0::.int 4 0::.ref (Dx q a-2)::Lw l (Dx q a)
@[reducible]def It:Type:=(Params->List Obj)×List (Params->DictEntry)×List Value
abbrev iF (a t i:Nat)(m:Str×Nat)(x:Str)(l:List Str)(ln n:Nat)(d:List (Obj×Nat):=[]):It:=(λ_=>LD a t (top i) m (x,x,l,ln,n,d),eR x (IB (x,x,l,ln,n,d) t-1) (Dx (x,x,l,ln,n,d) a-1)::[],.int ln 0::.int 0 0::.ref (Dx (x,x,l,ln,n,d) a-2)::[])
abbrev iR (o:Params->List Obj):It:=(o,[],[])
abbrev iE (x:Str)(t:Nat)(v:Value):It:=(λ_=>[],[eV x t v],[])
abbrev iC (a T i:Nat)(m:Str×Nat)(x:Str)(ln:Nat)(ms:List Mt)(st:List Str)(sub:List Value:=[]) (br:Nat:=0) (mro:List Value:=[]) (w:String:=""):It:=
  let b:=Ln ms (a+7)
  let s:=Ly ms (T+12)
  let e:=s+st.length
  let h (z:List (Params->DictEntry)):=eF (T+11) ln (T+10)::LH ms (a+7) (T+12) (eS e b::z)
  let o (y:List (Params->DictEntry)) (z k:Obj) (n:Nat) (r:List Obj) (P:Params):List Obj:=z::oP::oD P (eM (T+7) m.1 m.2::eQ (T+9) x (T+8)::h []) (4+ms.length)::o0::⟨.none,none,.fields (Array.mk (Lw ms (a+7))),#[]⟩::oK x (T+2) ln (a+3)::oR (a+5) (a+2) m.1 m.2::Lp i m 0 ms (a+7) (T+12) ((match st with| []=>o0|_=>oS st s)::oD P (eM (T+7) m.1 m.2::h y) n::k::r) 0 0
  match br with
  |0=>(o [eR "__dict__" (e+2) (b+3),eR "__weakref__" (e+4) (b+4),eN (e+5)] o0 ⟨.type "type",none,.cls ⟨x,[.type "object"],[.ref (b+2),.type "object"],b+1,x,true,[],sub,false,none,false⟩,#[none,none,some (.str x T),some (.str x (T+8)),some (.builtin "object.__new__"),some (.bool true)]⟩ 4 [oG "__dict__" "function.__dict__" (.builtin "function.__dict__#set") (b+2) (e+1),oG "__weakref__" "ExceptionGroup.__weakref__" .none (b+2) (e+3),oU (b+2),oJ (b+2)],eR x (e+7) (b+2)::[],.int ln 0::.int 0 0::.ref (a+5)::[])
  |_=>(o [eN (e+1)] (oQ br) (oX x [.ref br] (.ref (b+2)::.ref br::mro) (b+1) sub a T (T+8) w) 2 [oU (b+2),oJ (b+2)],eR x (e+3) (b+2)::[],.int ln 0::.int 0 0::.ref (a+5)::[])
abbrev JF (P:Params)(nm:Str)(nt n:Nat)(l:List It):List Obj:=bo P 0::bo P 1::bo P 2::oD P (eV "__name__" 165 (.str nm nt)::eN 166::eV "__package__" 167 .none::eV "__loader__" 168 (.builtin "__main__.__loader__#opaque")::eV "__spec__" 169 .none::eR "__annotations__" 170 6::eR "__builtins__" 171 4::eV "__file__" 173 (.str "/claim/cut.py" 172)::eV "__cached__" 174 .none::l.flatMap (·.2.1)) n::bo P 4::bo P 5::bo P 6::bo P 7::bo P 8::bo P 9::bo P 10::o0::⟨.none,none,.fields (Array.mk (l.flatMap (·.2.2))),#[]⟩::oK "<module>" 182 1 11::oR 13 3 "__main__" 164::l.flatMap (·.1 P)
abbrev LR:Str×Nat:=("__main__",164)
abbrev Bp:Str×Nat:=("haulbell.errors",194)
abbrev Lv:Str×Nat:=("haulbell.wholes",443)
abbrev JG:Str×Nat:=("haulbell.boxes",461)
abbrev Ds:Str×Nat:=("haulbell.deeds",566)
abbrev JD:Str×Nat:=("haulbell.machine",816)
abbrev KR:Str×Nat:=("haulbell.store",961)
abbrev LA:Str×Nat:=("haulbell.stretches",1087)
abbrev JC:Str×Nat:=("haulbell.parts",1109)
abbrev LB:Str×Nat:=("haulbell.crew",1148)
abbrev Gv:Str×Nat:=("haulbell.hops",1263)
abbrev jS:Str×Nat:=("haulbell.longs",1325)
abbrev b6:Str×Nat:=("law_haulbell_k76_no_members",1579)
abbrev Bh (a T i:Nat)(m:Str×Nat)(x:Str)(ln:Nat)(ms:List Mt)(st:List Str)(sub:List Value:=[]):It:=iC a T i m x ln ms st sub 31 [.type "ValueError",.type "Exception",.type "BaseException",.type "object"] "ValueError.__new__"
abbrev xg (a T i:Nat)(m:Str×Nat)(x:Str)(ln:Nat)(ms:List Mt)(st:List Str)(sub:List Value:=[]):It:=iC a T i m x ln ms st sub 313 [.type "object"] "object.__new__"
abbrev CZ:List It:=
iF 15 187 0 LR "_wall" ["k"] 1 1::
iE "HaulError" 213 (.ref 31)::
iR (λP=>[⟨.type "tuple",none,.seq #[.type "ValueError"] 0,#[]⟩,oP,oD P [eM 203 "haulbell.errors" 194,eQ 205 "HaulError" 204,eF 207 5 206,eS 208 29] 4,o0,oN,oK "HaulError" 198 5 25,oR 27 24 "haulbell.errors" 194,o0,oD P [eM 203 "haulbell.errors" 194,eF 207 5 206,eS 208 29,eR "__weakref__" 210 32,eN 211] 3,oX "HaulError" [.type "ValueError"] [.ref 31,.type "ValueError",.type "Exception",.type "BaseException",.type "object"] 30 [.ref 51,.ref 70,.ref 89,.ref 108,.ref 127,.ref 146,.ref 165,.ref 184,.ref 203] 22 196 204 "ValueError.__new__",⟨.type "getset_descriptor",none,.fields #[.str "__weakref__" 209,.ref 31,.builtin "ExceptionGroup.__weakref__",.none],#[]⟩,oU 31,oJ 31])::
Bh 35 214 3 Bp "NoStore" 7 [("__init__","NoStore.__init__",["self","at"],9,2,[])] ["at"]::
Bh 54 239 4 Bp "Stop" 12 [("__init__","Stop.__init__",["self","deed","cell"],14,3,[])] ["cell","deed"]::
Bh 73 266 5 Bp "NoFit" 18 [("__init__","NoFit.__init__",["self","box","number"],20,3,[])] ["box","number"]::
Bh 92 293 6 Bp "NoBox" 24 [("__init__","NoBox.__init__",["self","box"],26,2,[])] ["box"]::
Bh 111 318 7 Bp "NoDeed" 29 [("__init__","NoDeed.__init__",["self","word"],31,2,[])] ["word"]::
Bh 130 343 8 Bp "NoRows" 34 [("__init__","NoRows.__init__",["self","at"],36,2,[])] ["at"]::
Bh 149 368 9 Bp "NoPlace" 39 [("__init__","NoPlace.__init__",["self","at"],41,2,[])] ["at"]::
Bh 168 393 10 Bp "NoPart" 44 [("__init__","NoPart.__init__",["self","at"],46,2,[])] ["at"]::
Bh 187 418 11 Bp "NoMember" 49 [("__init__","NoMember.__init__",["self","k"],51,2,[])] ["k"]::
iE "BOUND" 446 (.int 1000000000 445)::
iF 206 447 14 Lv "is_whole" ["thing"] 56 1::
iF 213 454 15 Lv "is_content" ["thing"] 58 1::
iE "NAMES" 469 (.ref 220)::
iR (λ_=>[oS ["here","there","left","way","sign","met"] 463])::
iF 221 470 18 JG "is_box" ["thing"] 62 1::
iF 228 477 19 JG "is_number" ["thing"] 64 1::
iF 235 484 20 JG "fits" ["box","thing"] 66 2::
iC 242 492 21 JG "Boxes" 74 [("__init__","Boxes.__init__",["self","here","there","left","way","sign","met","handed","box","number"],76,7,[(⟨.type "tuple",none,.seq #[.int 0 504,.int 0 505,.int 0 506,.int 1 507,.int 0 508,.int 0 509] 0,#[]⟩,6)]),("holds","Boxes.holds",["self","box"],83,2,[]),("give","Boxes.give",["self","box","number"],88,3,[]),("told","Boxes.told",[],95,1,[]),("copied","Boxes.copied",["self","other"],98,1,[])] ["numbers"]::
iF 290 568 23 Ds "check_box" ["word","box"] 103 2::
iF 297 576 24 Ds "check_number" ["word","number"] 106 2::
iC 304 584 0 Ds "Deed" 109 [] [] [.ref 348,.ref 381,.ref 414,.ref 447,.ref 480,.ref 864,.ref 932,.ref 958,.ref 984,.ref 1010,.ref 1036,.ref 1062]::
xg 318 604 26 Ds "Set" 111 [("__init__","Set.__init__",["self","box","number"],113,3,[]),("step","Set.step",["self","boxes","store"],119,3,[]),("words","Set.words",["self"],123,1,[])] ["box","number"]::
xg 351 647 27 Ds "Add" 125 [("__init__","Add.__init__",["self","box","number"],127,3,[]),("step","Add.step",["self","boxes","store"],133,3,[]),("words","Add.words",["self"],137,1,[])] ["box","number"]::
xg 384 690 28 Ds "Take" 139 [("__init__","Take.__init__",["self","box","other"],141,3,[]),("step","Take.step",["self","boxes","store"],147,3,[]),("words","Take.words",["self"],151,1,[])] ["box","other"]::
xg 417 733 29 Ds "Read" 153 [("__init__","Read.__init__",["self","box"],155,2,[]),("step","Read.step",["self","boxes","store"],159,3,[]),("words","Read.words",["self"],163,1,[])] ["box"]::
xg 450 774 30 Ds "Write" 165 [("__init__","Write.__init__",["self","box"],167,2,[]),("step","Write.step",["self","boxes","store","number"],171,3,[]),("words","Write.words",["self"],178,1,[])] ["box"]::
iE "MOST_ROWS" 819 (.int 24 818)::
iF 483 820 33 JD "check_rows" ["rows","at","thing"] 182 1::
iF 490 829 34 JD "check_place" ["at","many"] 188 2::
iF 497 837 35 JD "tried" ["deed","boxes","store","stop","refusal"] 191 3::[]
abbrev lr:List It:=
iC 504 848 36 JD "Machine" 198 [("__init__","Machine.__init__",["self","rows","store","boxes","at"],200,5,[(⟨.type "tuple",none,.seq #[.int 0 860] 0,#[]⟩,1)]),("ended","Machine.ended",["self"],208,1,[]),("step_on","Machine.step_on",["self","store","by"],211,2,[]),("step","Machine.step",["self"],220,1,[]),("run","Machine.run",["self","most","steps"],223,2,[]),("why","Machine.why",["self","cause"],233,1,[]),("state","Machine.state",["self"],241,1,[]),("leaves","Machine.leaves",["self"],244,1,[]),("leave","Machine.leave",["self","low","behind","word"],247,4,[]),("rows","Machine.rows",[],250,1,[]),("copied","Machine.copied",["self"],253,1,[])] ["at","boxes","deeds","store"]::
iE "MOST_CELLS" 964 (.int 60 963)::
iF 594 965 39 KR "check_cells" ["cells","at","thing"] 257 1::
iF 601 974 40 KR "is_within" ["low","behind","size"] 263 3::
iC 608 983 41 KR "Store" 265 [("__init__","Store.__init__",["self","cells"],267,2,[]),("size","Store.size",["self"],272,1,[]),("told","Store.told",["self"],275,1,[]),("leaves","Store.leaves",["self"],278,1,[]),("leave","Store.leave",["self","low","behind","word"],281,4,[]),("may","Store.may",["self","deed","cell"],284,3,[]),("look","Store.look",["self","cell"],291,2,[]),("put","Store.put",["self","cell","content"],296,3,[]),("restore","Store.restore",["self","cell","content"],301,3,[]),("copied","Store.copied",["self","other"],304,1,[])] ["contents","permits"]::
iF 692 1089 43 LA "shared" ["one","other","low","behind"] 310 2::
iF 699 1099 44 LA "apart" ["stretches","place","stretch","earlier"] 316 1::
iE "MOST_MEMBERS" 1112 (.int 4 1111)::
iE "THINGS_OF_A_MEMBER" 1114 (.int 4 1113)::
iF 706 1115 48 JC "is_member" ["thing"] 325 1::
iF 713 1122 49 JC "are_members" [] 327 1::
iF 718 1128 50 JC "is_part" ["part","size"] 331 2::
iF 725 1136 51 JC "parts_of" ["members","size","parts","at","member","part"] 333 2::
iF 732 1150 53 LB "machine_on" ["cells","part","member"] 344 3::
iC 739 1159 54 LB "Crew" 346 [("__init__","Crew.__init__",[],348,3,[]),("check_member","Crew.check_member",["self","k"],353,2,[]),("machine_of","Crew.machine_of",["self","k"],357,2,[]),("step","Crew.step",["self","k"],361,2,[]),("run","Crew.run",["self","k","most"],364,3,[]),("why","Crew.why",["self","k"],367,2,[]),("state","Crew.state",["self","k"],370,2,[]),("go","Crew.go",[],373,2,[]),("floor","Crew.floor",["self","cells","part","machine"],378,1,[]),("leave","Crew.leave",["self","low","behind","word"],384,4,[])] ["ground","machines","parts"]::
iE "MOST_HOPPED" 1266 (.int 24 1265)::
iF 819 1267 57 Gv "is_many" ["thing"] 388 1::
iF 826 1274 58 Gv "is_on" ["thing"] 390 1::
xg 833 1281 59 Gv "Hop" 392 [("__init__","Hop.__init__",["self","many","on"],394,3,[(⟨.type "tuple",none,.seq #[.none] 0,#[]⟩,0)]),("step","Hop.step",["self","boxes","store"],400,3,[]),("words","Hop.words",["self","told"],405,1,[])] ["many","on"]::
iF 867 1327 61 jS "more" ["boxes","box","by"] 411 3::
iF 874 1336 62 jS "go_by_way" ["boxes","box"] 413 2::
iF 881 1344 63 jS "less_left" ["boxes","by"] 415 2::
iF 888 1352 64 jS "ask_put" ["store","cell"] 418 2::
iF 895 1360 65 jS "haul" ["store","source","target","content"] 421 3::
iF 902 1370 66 jS "exchange" ["store","one","other","first","second"] 424 3::
xg 909 1381 67 jS "Copy" 431 [("step","Copy.step",["self","boxes","store"],433,3,[]),("words","Copy.words",["self"],441,1,[])] []::[]
abbrev Jw:List It:=
xg 935 1413 68 jS "Fill" 443 [("step","Fill.step",["self","boxes","store"],445,3,[]),("words","Fill.words",["self"],452,1,[])] []::
xg 961 1445 69 jS "Seek" 454 [("step","Seek.step",["self","boxes","store"],456,3,[]),("words","Seek.words",["self"],467,1,[])] []::
xg 987 1477 70 jS "Match" 469 [("step","Match.step",["self","boxes","store","content"],471,3,[]),("words","Match.words",["self"],484,1,[])] []::
xg 1013 1510 71 jS "Shift" 486 [("step","Shift.step",["self","boxes","store","left","here","there"],488,3,[]),("words","Shift.words",["self"],502,1,[])] []::
xg 1039 1545 72 jS "Turn" 504 [("step","Turn.step",["self","boxes","store","left","here"],506,3,[]),("words","Turn.words",["self"],517,1,[])] []::
iF 1065 1581 74 b6 "_law_hand" ["_law_script","_law_cells","_law_fold","_law_cell"] 520 1::
iF 1072 1591 75 b6 "_law_draw" ["_law_hand_here","_law_many","_law_rest","_law_cell","_law_one","_law_two"] 526 2::
iF 1079 1603 76 b6 "_law_whole" ["_law_thing"] 542 1::
iF 1086 1610 77 b6 "_law_odd" ["_law_hand_here","_law_low","_law_high","_law_way"] 544 3::
iF 1093 1620 78 b6 "_law_spec" ["_law_hand_here","_law_size","_law_way","_law_names","_law_box","_law_pick"] 555 2::
iF 1100 1632 79 b6 "_law_deed" ["_law_spec_here","_law_word"] 573 1::
iF 1107 1640 80 b6 "_law_long" ["_law_word"] 588 1::
iF 1114 1647 81 b6 "_law_let" ["_law_leaves","_law_deed_here","_law_cell"] 600 3::
iF 1121 1656 82 b6 "_law_reach" ["_law_spec_here","_law_boxes","_law_here","_law_there","_law_left","_law_word","_law_far"] 604 2::
iF 1128 1669 83 b6 "_law_fits" ["_law_box","_law_number"] 627 2::
iF 1135 1677 84 b6 "_law_barred" ["_law_spec_here","_law_boxes","_law_leaves","_law_looks","_law_puts","_law_cell"] 635 3::
iF 1142 1689 85 b6 "_law_step" ["_law_spec_here","_law_boxes","_law_cells","_law_leaves","_law_barred_here","_law_word","_law_number"] 646 4::
iF 1149 1702 86 b6 "_law_moved" ["_law_word","_law_boxes","_law_cells","_law_here","_law_there","_law_left","_law_way","_law_size","_law_content"] 669 3::
iF 1156 1717 87 b6 "_law_looked" ["_law_word","_law_boxes","_law_cells","_law_here","_law_there","_law_left","_law_way","_law_other"] 698 3::
iF 1163 1731 88 b6 "_law_floor" [] 716 2::
iF 1168 1737 89 b6 "_law_six" [] 718 2::
iF 1173 1743 90 b6 "_law_parts" ["_law_hand_here","_law_size","_law_parts_here","_law_low","_law_k","_law_behind"] 725 2::
iF 1180 1755 91 b6 "_law_members" [] 734 3::
iF 1185 1761 92 b6 "_law_crew" [] 740 2::
iF 1190 1767 93 b6 "_law_worlds" ["_law_cells","_law_members_here","_law_worlds_here","_law_low","_law_behind","_law_specs","_law_six_here"] 746 2::
iF 1197 1780 94 b6 "_law_goes" ["_law_specs","_law_world","_law_told_here"] 751 2::
iF 1204 1789 95 b6 "_law_member_stands" ["_law_found","_law_world"] 759 2::
iF 1211 1797 96 b6 "_law_stands" [] 763 4::
iF 1216 1803 97 b6 "_law_told" ["_law_crew_here","_law_door","_law_k","e","_law_others"] 772 3::
iF 1223 1814 98 b6 "_law_alike" ["_law_found","_law_thing"] 790 2::[]
abbrev LY (P:Params):List Obj:=oW [(12,⟨.none,none,.fields #[.int 1 0,.int 0 0,.ref 20,.int 5 0,.int 0 0,.ref 27,.int 7 0,.int 0 0,.ref 40,.int 12 0,.int 0 0,.ref 59,.int 18 0,.int 0 0,.ref 78,.int 24 0,.int 0 0,.ref 97,.int 29 0,.int 0 0,.ref 116,.int 34 0,.int 0 0,.ref 135,.int 39 0,.int 0 0,.ref 154,.int 44 0,.int 0 0,.ref 173,.int 49 0,.int 0 0,.ref 192,.int 56 0,.int 0 0,.ref 211,.int 58 0,.int 0 0,.ref 218,.int 62 0,.int 0 0,.ref 226,.int 64 0,.int 0 0,.ref 233,.int 66 0,.int 0 0,.ref 240,.int 74 0,.int 0 0,.ref 247,.int 103 0,.int 0 0,.ref 295,.int 106 0,.int 0 0,.ref 302,.int 109 0,.int 0 0,.ref 309,.int 111 0,.int 0 0,.ref 323,.int 125 0,.int 0 0,.ref 356,.int 139 0,.int 0 0,.ref 389,.int 153 0,.int 0 0,.ref 422,.int 165 0,.int 0 0,.ref 455,.int 182 0,.int 0 0,.ref 488,.int 188 0,.int 0 0,.ref 495,.int 191 0,.int 0 0,.ref 502],#[]⟩),(313,⟨.type "type",none,.cls ⟨"Deed",[.type "object"],[.ref 313,.type "object"],312,"Deed",true,[],[.ref 348,.ref 381,.ref 414,.ref 447,.ref 480],false,none,false⟩,#[none,none,some (.str "Deed" 584),some (.str "Deed" 592),some (.builtin "object.__new__"),some (.bool true)]⟩)] (JF P "haulbell.machine" 816 40 CZ)
abbrev Md (P:Params):List Obj:=oW [(12,⟨.none,none,.fields #[.int 1 0,.int 0 0,.ref 20,.int 5 0,.int 0 0,.ref 27,.int 7 0,.int 0 0,.ref 40,.int 12 0,.int 0 0,.ref 59,.int 18 0,.int 0 0,.ref 78,.int 24 0,.int 0 0,.ref 97,.int 29 0,.int 0 0,.ref 116,.int 34 0,.int 0 0,.ref 135,.int 39 0,.int 0 0,.ref 154,.int 44 0,.int 0 0,.ref 173,.int 49 0,.int 0 0,.ref 192,.int 56 0,.int 0 0,.ref 211,.int 58 0,.int 0 0,.ref 218,.int 62 0,.int 0 0,.ref 226,.int 64 0,.int 0 0,.ref 233,.int 66 0,.int 0 0,.ref 240,.int 74 0,.int 0 0,.ref 247,.int 103 0,.int 0 0,.ref 295,.int 106 0,.int 0 0,.ref 302,.int 109 0,.int 0 0,.ref 309,.int 111 0,.int 0 0,.ref 323,.int 125 0,.int 0 0,.ref 356,.int 139 0,.int 0 0,.ref 389,.int 153 0,.int 0 0,.ref 422,.int 165 0,.int 0 0,.ref 455,.int 182 0,.int 0 0,.ref 488,.int 188 0,.int 0 0,.ref 495,.int 191 0,.int 0 0,.ref 502,.int 198 0,.int 0 0,.ref 509,.int 257 0,.int 0 0,.ref 599,.int 263 0,.int 0 0,.ref 606,.int 265 0,.int 0 0,.ref 613,.int 310 0,.int 0 0,.ref 697,.int 316 0,.int 0 0,.ref 704,.int 325 0,.int 0 0,.ref 711,.int 327 0,.int 0 0,.ref 716,.int 331 0,.int 0 0,.ref 723,.int 333 0,.int 0 0,.ref 730,.int 344 0,.int 0 0,.ref 737,.int 346 0,.int 0 0,.ref 744,.int 388 0,.int 0 0,.ref 824,.int 390 0,.int 0 0,.ref 831,.int 392 0,.int 0 0,.ref 838,.int 411 0,.int 0 0,.ref 872,.int 413 0,.int 0 0,.ref 879,.int 415 0,.int 0 0,.ref 886,.int 418 0,.int 0 0,.ref 893,.int 421 0,.int 0 0,.ref 900,.int 424 0,.int 0 0,.ref 907,.int 431 0,.int 0 0,.ref 914],#[]⟩),(313,⟨.type "type",none,.cls ⟨"Deed",[.type "object"],[.ref 313,.type "object"],312,"Deed",true,[],[.ref 348,.ref 381,.ref 414,.ref 447,.ref 480,.ref 864,.ref 932],false,none,false⟩,#[none,none,some (.str "Deed" 584),some (.str "Deed" 592),some (.builtin "object.__new__"),some (.bool true)]⟩)] (JF P "haulbell.longs" 1325 66 (CZ++lr))
abbrev LK (P:Params):List Obj:=oW [(12,⟨.none,none,.fields #[.int 1 0,.int 0 0,.ref 20,.int 5 0,.int 0 0,.ref 27,.int 7 0,.int 0 0,.ref 40,.int 12 0,.int 0 0,.ref 59,.int 18 0,.int 0 0,.ref 78,.int 24 0,.int 0 0,.ref 97,.int 29 0,.int 0 0,.ref 116,.int 34 0,.int 0 0,.ref 135,.int 39 0,.int 0 0,.ref 154,.int 44 0,.int 0 0,.ref 173,.int 49 0,.int 0 0,.ref 192,.int 56 0,.int 0 0,.ref 211,.int 58 0,.int 0 0,.ref 218,.int 62 0,.int 0 0,.ref 226,.int 64 0,.int 0 0,.ref 233,.int 66 0,.int 0 0,.ref 240,.int 74 0,.int 0 0,.ref 247,.int 103 0,.int 0 0,.ref 295,.int 106 0,.int 0 0,.ref 302,.int 109 0,.int 0 0,.ref 309,.int 111 0,.int 0 0,.ref 323,.int 125 0,.int 0 0,.ref 356,.int 139 0,.int 0 0,.ref 389,.int 153 0,.int 0 0,.ref 422,.int 165 0,.int 0 0,.ref 455,.int 182 0,.int 0 0,.ref 488,.int 188 0,.int 0 0,.ref 495,.int 191 0,.int 0 0,.ref 502,.int 198 0,.int 0 0,.ref 509,.int 257 0,.int 0 0,.ref 599,.int 263 0,.int 0 0,.ref 606,.int 265 0,.int 0 0,.ref 613,.int 310 0,.int 0 0,.ref 697,.int 316 0,.int 0 0,.ref 704,.int 325 0,.int 0 0,.ref 711,.int 327 0,.int 0 0,.ref 716,.int 331 0,.int 0 0,.ref 723,.int 333 0,.int 0 0,.ref 730,.int 344 0,.int 0 0,.ref 737,.int 346 0,.int 0 0,.ref 744,.int 388 0,.int 0 0,.ref 824,.int 390 0,.int 0 0,.ref 831,.int 392 0,.int 0 0,.ref 838,.int 411 0,.int 0 0,.ref 872,.int 413 0,.int 0 0,.ref 879,.int 415 0,.int 0 0,.ref 886,.int 418 0,.int 0 0,.ref 893,.int 421 0,.int 0 0,.ref 900,.int 424 0,.int 0 0,.ref 907,.int 431 0,.int 0 0,.ref 914,.int 443 0,.int 0 0,.ref 940,.int 454 0,.int 0 0,.ref 966,.int 469 0,.int 0 0,.ref 992,.int 486 0,.int 0 0,.ref 1018,.int 504 0,.int 0 0,.ref 1044,.int 520 0,.int 0 0,.ref 1070,.int 526 0,.int 0 0,.ref 1077,.int 542 0,.int 0 0,.ref 1084,.int 544 0,.int 0 0,.ref 1091,.int 555 0,.int 0 0,.ref 1098,.int 573 0,.int 0 0,.ref 1105,.int 588 0,.int 0 0,.ref 1112,.int 600 0,.int 0 0,.ref 1119,.int 604 0,.int 0 0,.ref 1126,.int 627 0,.int 0 0,.ref 1133,.int 635 0,.int 0 0,.ref 1140,.int 646 0,.int 0 0,.ref 1147,.int 669 0,.int 0 0,.ref 1154,.int 698 0,.int 0 0,.ref 1161,.int 716 0,.int 0 0,.ref 1166,.int 718 0,.int 0 0,.ref 1171,.int 725 0,.int 0 0,.ref 1178,.int 734 0,.int 0 0,.ref 1183,.int 740 0,.int 0 0,.ref 1188,.int 746 0,.int 0 0,.ref 1195,.int 751 0,.int 0 0,.ref 1202,.int 759 0,.int 0 0,.ref 1209,.int 763 0,.int 0 0,.ref 1214,.int 772 0,.int 0 0,.ref 1221,.int 790 0,.int 0 0,.ref 1228],#[]⟩)] (JF P "law_haulbell_k76_no_members" 1579 96 (CZ++lr++Jw))
abbrev S0 (P:Params)(os:OsState):SharedT:=⟨G0 0 .nil (LS P),15,(boot_heap P).life,Array.mk [],boot_drawn,187,os⟩
abbrev q0:Pos:=⟨0,0,0,0⟩
abbrev S1 (P:Params)(os:OsState):SharedT:=⟨G0 0 .nil (LY P),504,(boot_heap P).life,Array.mk [],boot_drawn,848,os⟩
abbrev q1:Pos:=⟨191,0,197,43⟩
abbrev S2 (P:Params)(os:OsState):SharedT:=⟨G0 0 .nil (Md P),935,(boot_heap P).life,Array.mk [],boot_drawn,1413,os⟩
abbrev q2:Pos:=⟨431,0,442,23⟩
abbrev S3 (P:Params)(os:OsState):SharedT:=⟨G0 0 .nil (LK P),1230,(boot_heap P).life,Array.mk [],boot_drawn,1822,os⟩
abbrev q3:Pos:=⟨790,0,793,38⟩
abbrev LW (P:Params):List Obj:=JF P "law_haulbell_k76_no_members" 1579 97 (CZ++lr++Jw++[iF 1230 1822 99 b6 "law" [] 794 1])
abbrev K0 (P:Params):PySem.W.Frag:=JS.map λa=>(a,(LW P).getD a oN)
abbrev qL (p:Program):Program:=PySem.W.view p [99]
abbrev Aw:List Str:="_wall"::"HaulError"::"NoStore"::"Stop"::"NoFit"::"NoBox"::"NoDeed"::"NoRows"::"NoPlace"::"NoPart"::"NoMember"::"BOUND"::"is_whole"::"is_content"::"NAMES"::"is_box"::"is_number"::"fits"::"Boxes"::"check_box"::"check_number"::"Deed"::"Set"::"Add"::"Take"::"Read"::"Write"::"MOST_ROWS"::"check_rows"::"check_place"::"tried"::"Machine"::"MOST_CELLS"::"check_cells"::"is_within"::"Store"::"shared"::"apart"::"MOST_MEMBERS"::"THINGS_OF_A_MEMBER"::"is_member"::"are_members"::"is_part"::"parts_of"::"machine_on"::"Crew"::"MOST_HOPPED"::"is_many"::"is_on"::"Hop"::"more"::"go_by_way"::"less_left"::"ask_put"::"haul"::"exchange"::"Copy"::"Fill"::"Seek"::"Match"::"Shift"::"Turn"::"_law_hand"::"_law_draw"::"_law_whole"::"_law_odd"::"_law_spec"::"_law_deed"::"_law_long"::"_law_let"::"_law_reach"::"_law_fits"::"_law_barred"::"_law_step"::"_law_moved"::"_law_looked"::"_law_floor"::"_law_six"::"_law_parts"::"_law_members"::"_law_crew"::"_law_worlds"::"_law_goes"::"_law_member_stands"::"_law_stands"::"_law_told"::"_law_alike"::[]
end My
open PySem PySem.W in
set_option maxHeartbeats 0 in
def My.FT (w:World)(os:OsState):My.runK treeTable My.pr w 11 (some (.ref 6)) 12 (My.JN w.params os) (topStub My.pr)=some (My.S0 w.params os,⟨denote treeTable (.body (behindTheImports My.pr) (My.iP My.pr)),.body (behindTheImports My.pr) (My.iP My.pr),default,[My.Ls]⟩):=by
  delta My.pr;rewrite[Fast.te2368527892694137696,Fast.te14364793385576792824]
  kernel_rfl
open PySem PySem.W in
set_option maxHeartbeats 0 in
def My.Gy (w:World)(os:OsState)(B:List Stmt):My.runK treeTable My.pr w 11 (some (.ref 6)) 4907 (My.S0 w.params os) (My.kM My.pr (((behindTheImports My.pr).drop 0).take 36++B) My.q0)=some (My.S1 w.params os,My.kM My.pr B My.q1):=by
  delta My.pr;rewrite[Fast.te2368527892694137696,Fast.te14364793385576792824]
  kernel_rfl
open PySem PySem.W in
set_option maxHeartbeats 0 in
def My.EG (w:World)(os:OsState)(B:List Stmt):My.runK treeTable My.pr w 11 (some (.ref 6)) 2766 (My.S1 w.params os) (My.kM My.pr (((behindTheImports My.pr).drop 36).take 32++B) My.q1)=some (My.S2 w.params os,My.kM My.pr B My.q2):=by
  delta My.pr;rewrite[Fast.te2368527892694137696,Fast.te14364793385576792824]
  kernel_rfl
open PySem PySem.W in
set_option maxHeartbeats 0 in
def My.F9 (w:World)(os:OsState)(B:List Stmt):My.runK treeTable My.pr w 11 (some (.ref 6)) 2176 (My.S2 w.params os) (My.kM My.pr (((behindTheImports My.pr).drop 68).take 31++B) My.q2)=some (My.S3 w.params os,My.kM My.pr B My.q3):=by
  delta My.pr;rewrite[Fast.te2368527892694137696,Fast.te14364793385576792824]
  kernel_rfl
open PySem PySem.W in
set_option maxHeartbeats 0 in
def My.IC:LeftO My.pr (My.qL My.pr) My.Aw (λs=>xlAt (My.qL My.pr) [] s&&recOk PySem.Challenge.rw_haulbell_k76_no_members.row.records s) (λs=>My.JS.map s.heap.get?) (λw=>(My.K0 w.params).map λp=>some p.2) 19876:=by
  refine My.wJ (by kernel_rfl) rfl (λ_=>by kernel_rfl) (λ_=>by kernel_rfl) (λ_=>by kernel_rfl) λw os=>?_
  have d:denote treeTable (.body (behindTheImports My.pr) (My.iP My.pr))=My.AX My.pr (behindTheImports My.pr):=My.xP (by kernel_rfl);have e:My.mj treeTable My.pr w 11 (some (.ref 6)) (12+(4907+(2766+(2176+(10015))))) (My.JN w.params os) (topStub My.pr)=My.mj treeTable My.pr w 11 (some (.ref 6)) 10015 (My.S3 w.params os) (My.kM My.pr ((behindTheImports My.pr).drop 99) My.q3):=by
    rw[My.dD (My.FT w os)];dsimp only;rw[d];show My.mj treeTable My.pr w 11 (some (.ref 6)) _ (My.S0 w.params os) (My.kM My.pr ((behindTheImports My.pr).drop 0) My.q0)=_;rw[show (behindTheImports My.pr).drop 0=((behindTheImports My.pr).drop 0).take 36++(behindTheImports My.pr).drop 36 from by
      rw[show (behindTheImports My.pr).drop 36=((behindTheImports My.pr).drop 0).drop 36 by rw[List.drop_drop],List.take_append_drop],My.dD (My.Gy w os _)]
    rw[show (behindTheImports My.pr).drop 36=((behindTheImports My.pr).drop 36).take 32++(behindTheImports My.pr).drop 68 from by
      rw[show (behindTheImports My.pr).drop 68=((behindTheImports My.pr).drop 36).drop 32 by rw[List.drop_drop],List.take_append_drop],My.dD (My.EG w os _)]
    rw[show (behindTheImports My.pr).drop 68=((behindTheImports My.pr).drop 68).take 31++(behindTheImports My.pr).drop 99 from by
      rw[show (behindTheImports My.pr).drop 99=((behindTheImports My.pr).drop 68).drop 31 by rw[List.drop_drop],List.take_append_drop],My.dD (My.F9 w os _)]
  rw[show (19876:Nat)=12+(4907+(2766+(2176+(10015)))) from rfl,e]
  delta My.pr;rewrite[Fast.te4187177175401517315,Fast.te5923862056798008813,Fast.te2368527892694137696,Fast.te14364793385576792824]
  kernel_rfl
set_option Elab.async false
open List(mem_range filterMap_cons mem_cons_self mem_cons_of_mem mem_cons mem_append mem_append_left getElem?_set_self getElem?_set_ne mem_append_right size_toArray any_eq_false length_cons map_cons length_map append_nil nodup_cons of_mem_zip length_take getElem?_map take_sublist mem_of_getElem? length_append length_drop length_set all_cons any_cons replicate_succ flatten_cons append_assoc foldl_cons length_singleton nil_append find?_cons length_nil forIn_cons forIn_nil getElem?_eq_getElem getElem_mem drop_zero take_length lookup_cons take_of_length_le not_mem_nil length_zip set_comm all_eq_true length_eq_zero_iff zip_cons_cons zip_append take_append_drop mem_of_mem_take isEmpty_iff mem_singleton mem_or_eq_of_mem_set take_succ map_replicate getElem?_of_mem getElem?_take map_append map_drop map_take)
@[reducible]def MA:Type:=Option PySem.Value->PySem.Shared->Prop
@[reducible]def MB:Type:=Unit->PySem.Shared->Prop
@[reducible]def MC:Type:=PySem.Value->PySem.Shared->Prop
@[reducible]def MD:Type:=List (PySem.Addr×PySem.Obj)
@[reducible]def ME:Type:=PySem.Str->Option PySem.Value
namespace L2
open PySem PySem.Spec PyProof.Rows
@[reducible]def Key:=Sum Int Str
abbrev mL:Key->Value->Bool
 | .inl k,v=>Value.isInt k v
 | .inr x,v=>Value.isStrOf x v
abbrev La (w:World):Key->Int
 | .inl k=>hashInt k
 | .inr x=>hashStr w x
def aO:∀ {k:Key}{v:Value},mL k v=true->(∃ i t,k=Sum.inl i/\v=Value.int i t)\/(∃ x t,k=Sum.inr x/\v=Value.str x t)
 | .inl i,v,h=>by
  obtain ⟨t,e⟩:=Value.isInt_shape (k:=i) (v:=v) h;exact .inl ⟨i,t,rfl,e⟩
 | .inr x,v,h=>by
  obtain ⟨t,e⟩:=Value.isStrOf_shape (x:=x) (v:=v) h;exact .inr ⟨x,t,rfl,e⟩
def vR (i:Int)(t:Tok):mL (.inl i) (.int i t)=true:=by simp[mL,Value.isInt]
def vP (x:Str)(t:Tok):mL (.inr x) (.str x t)=true:=by simp[mL,Value.isStrOf]
def GV (a b:Int):decide ((Sum.inl a:Key)=Sum.inl b)=(a ==b):=by
 by_cases e:a=b
 ·subst e;simp
 ·have h:¬ (Sum.inl a:Key)=Sum.inl b:=λq=>e (Sum.inl.inj q)
  rw[decide_eq_false h];exact (beq_eq_false_iff_ne.mpr e).symm
def E3 (a b:Str):decide ((Sum.inr a:Key)=Sum.inr b)=decide (a=b):=by
 by_cases e:a=b
 ·subst e;simp
 ·have h:¬ (Sum.inr a:Key)=Sum.inr b:=λq=>e (Sum.inr.inj q)
  rw[decide_eq_false h,decide_eq_false e]
def Fp (a:Int)(b:Str):decide ((Sum.inl a:Key)=Sum.inr b)=false:=decide_eq_false (λq=>nomatch q)
def Fg (a:Str)(b:Int):decide ((Sum.inr a:Key)=Sum.inl b)=false:=decide_eq_false (λq=>nomatch q)
abbrev aw (prog:Program)(w:World):PySem.KeyKind prog w Key where
 is:=mL
 hash:=La w
 inj:=λv a b ha hb=>by
  rcases aO ha with ⟨i,t,rfl,rfl⟩|⟨x,t,rfl,rfl⟩
  ·rcases aO hb with ⟨j,u,rfl,e⟩|⟨y,u,rfl,e⟩
   ·injection e with e1 _;rw[e1]
   ·exact nomatch e
  ·rcases aO hb with ⟨j,u,rfl,e⟩|⟨y,u,rfl,e⟩
   ·exact nomatch e
   ·injection e with e1 _;rw[e1]
 byValue:=λk v h=>by
  rcases aO h with ⟨i,t,rfl,rfl⟩|⟨x,t,rfl,rfl⟩<;>rfl
 pyHash:=λhv h=>by
  rcases aO hv with ⟨i,t,rfl,rfl⟩|⟨x,t,rfl,rfl⟩
  ·exact wpAny_pyHash_int h
  ·exact wpAny_pyHash_str h
 eqBool:=λhu hv h=>by
  rcases aO hu with ⟨i,t,rfl,rfl⟩|⟨x,t,rfl,rfl⟩
  ·rcases aO hv with ⟨j,u,rfl,rfl⟩|⟨y,u,rfl,rfl⟩
   ·rw[GV] at h;exact wpAny_eqBool_int h
   ·rw[Fp] at h;exact SeqAt.EqAt.int_str i t y u _ _ _ _ h
  ·rcases aO hv with ⟨j,u,rfl,rfl⟩|⟨y,u,rfl,rfl⟩
   ·rw[Fg] at h;exact SeqAt.EqAt.str_int x t j u _ _ _ _ h
   ·rw[E3] at h;exact wpAny_eqBool_str h
 «strs»:=λk x t v h=>by
  rcases aO h with ⟨i,u,rfl,e⟩|⟨y,u,rfl,e⟩
  ·exact nomatch e
  ·injection e with e1 _
   subst e1;cases v<;>rfl
def pV (prog:Program)(w:World)(i:Int)(t:Tok):(aw prog w).is (.inl i) (.int i t)=true:=vR i t
def qY (prog:Program)(w:World)(x:Str)(t:Tok):(aw prog w).is (.inr x) (.str x t)=true:=vP x t
inductive V where
 |non|bl (b:Bool)|int (i:Int)|str (x:Str)|byt (b:Array UInt8)|flt (b:UInt64)|ref (a:Addr)|ty (n:String)
 deriving DecidableEq
abbrev RelV:V->Value->Prop
 | .non,u=>u=Value.none
 | .bl b,u=>u=Value.bool b
 | .int i,u=>∃ t,u=Value.int i t
 | .str x,u=>∃ t,u=Value.str x t
 | .byt b,u=>∃ t,u=Value.bytes b t
 | .flt b,u=>∃ t,u=Value.float b t
 | .ref a,u=>u=Value.ref a
 | .ty n,u=>u=Value.type n
@[reducible]def Vals:List V->List Value->Prop:=Paired RelV
variable {xs:List V}{us:List Value}
def Vals.length (r:Vals xs us):xs.length=us.length:=Paired.length r
def Vals.get:∀ {xs:List V}{us:List Value}{i:Nat}{x:V},Vals xs us->xs[i]? =some x->∃ u,us[i]? =some u/\RelV x u
 |_,_,_,_,.nil,e=>by simp at e
 |_,_,0,_,.cons r _,e=>by simp at e;subst e;exact ⟨_,rfl,r⟩
 |_,_,i+1,x,.cons _ t,e=>by
  obtain ⟨u,h1,h2⟩:=Vals.get (i:=i) (x:=x) t (by simpa using e);exact ⟨u,by simpa using h1,h2⟩
variable {u:Value}
def Vals.set {x:V}(r:RelV x u):∀ {xs:List V}{us:List Value}(i:Nat),Vals xs us->Vals (xs.set i x) (us.set i u)
 |_,_,_,.nil=>.nil
 |_,_,0,.cons _ t=>.cons r t
 |_,_,i+1,.cons q t=>.cons q (Vals.set r i t)
def Vals.append:∀ {xs ys:List V}{us ws:List Value},Vals xs us->Vals ys ws->Vals (xs++ys) (us++ws)
 |_,_,_,_,.nil,s=>s
 |_,_,_,_,.cons r t,s=>.cons r (Vals.append t s)
def Vals.take:∀ {xs:List V}{us:List Value}(n:Nat),Vals xs us->Vals (xs.take n) (us.take n)
 |_,_,0,_=>.nil
 |_,_,_+1,.nil=>.nil
 |_,_,n+1,.cons r t=>.cons r (Vals.take n t)
def Vals.drop:∀ {xs:List V}{us:List Value}(n:Nat),Vals xs us->Vals (xs.drop n) (us.drop n)
 |_,_,0,r=>r
 |_,_,_+1,.nil=>.nil
 |_,_,n+1,.cons _ t=>Vals.drop n t
abbrev di:Option V->Option Value->Prop
 |some v,some u=>RelV v u
 |none,none=>True
 |_,_=>False
abbrev KV {κ:Type}:List (κ×V)->List (κ×Value)->Prop:=Paired λ(p:κ×V) (q:κ×Value)=>p.1=q.1/\RelV p.2 q.2
abbrev kV:Key->V
 | .inl i=>.int i
 | .inr x=>.str x
inductive HO where
  |lst (xs:List V)
  |tup (xs:List V)
  |dK (kvs:List (Key×V))|dT (kvs:List (List Key×V))
  |set (S:Int->Bool) (n:Nat)
  |ins (C dx:Addr) (fs:List (Str×V))
  |own (x:Addr)
  |exc (C:Addr) (dx:Option Addr) (fs:List (Str×V)) (fr:Bool)
  |xd (fs:List (Str×V))
  |met (f x:Addr)
  |rng (lo hi:Int)
  |frz (o:Obj) (u:HO)
  |tbl (ps:Array Value)
  |ext (φ:Heap->Prop)
@[reducible]def Hp:=Addr->Option HO
abbrev upd (H:Hp)(a:Addr)(o:HO):Hp:=λb=>if b=a then some o else H b
variable {H:Hp}{a:Addr}{o:HO}
def av:upd H a o a=some o:=by unfold upd;rw[if_pos rfl]
variable {b:Addr}
def ai (h:b≠a):upd H a o b=H b:=by unfold upd;rw[if_neg h]
def Ct {u:HO}:upd (upd H a o) a u=upd H a u:=by
 funext b;unfold upd;split<;>rfl
def Iz {u:HO}(h:H a=some o)(h':H b=some u)(d:o≠u):a≠b:=by
 intro e;subst e;rw[h] at h';exact d (Option.some.inj h')
def aP (h:H a=some o)(h':H b=none):a≠b:=by
 intro e;subst e;rw[h] at h';cases h'
section
variable (P:Program) (w:World)
abbrev aA (H:Hp)(h:Heap)(a:Addr):HO->Prop
 | .lst xs=>xs.length<=sizeLine/\∃ (its:List Value) (n:Nat),Vals xs its/\h.get? a=some { cls:=.type "list",data:=.seq its.toArray n }
 | .tup xs=>xs.length<=sizeLine/\∃ its:List Value,Vals xs its/\IsTup h a its.toArray
 | .dK kvs=>kvs.length<=sizeLine/\(a ==sysModules)=false/\∃ vs,KV kvs vs/\h.DictOf (aw P w) a vs
 | .dT kvs=>kvs.length<=sizeLine/\(a ==sysModules)=false/\∃ xs:List (List Key×Addr×Value),
   Paired (λ(p:List Key×V) (q:List Key×Addr×Value)=>p.1=q.1/\H q.2.1=some (.tup (p.1.map kV))/\RelV p.2 q.2.2) kvs xs/\
   ∃ o es ep,h.get? a=some o/\o.ExactDict/\o.data=.dict es ep/\es.toList=xs.map (entryOfKey (tupleKind (aw P w)))/\(xs.map (·.1)).Nodup
 | .set S n=>h.SetOf (intKind P w) a S n
 | .ins C dx fs=>H dx=some (.own a)/\fs.length<=1000/\dx≠a/\h.get? a=some (W.instObj C dx)/\
   ∃ mA,h.Ns1 dx mA/\(∀ f,di (fs.lookup f) (mA f))/\PySem.Within mA (fs.map (·.1))
 | .exc C dx fs fr=>(∃ vs,h.get? a=some { cls:=.ref C,dict:=dx,data:=.fields vs }/\vs.size=6/\(fr=true->vs[1]? =some Value.none))/\
   ((dx=none/\fs=[])\/∃ d,dx=some d/\H d=some (.own a)/\fs.length<=1000/\d≠a/\∃ mA,h.Ns1 d mA/\(∀ f,di (fs.lookup f) (mA f))/\PySem.Within mA (fs.map (·.1)))
 | .own _=>∃ o,h.get? a=some o
 | .xd fs=>∃ mA,h.Ns1 a mA/\∀ f,di (fs.lookup f) (mA f)
 | .rng lo hi=>∃ t u v,h.get? a=some { cls:=.type "range",data:=.fields #[.int lo t,.int hi u,.int 1 v] }
 | .frz o u=>h.get? a=some o/\aA H h a u
 | .tbl ps=>h.get? a=some { cls:=.none,data:=.fields ps }
 | .met f x=>h.get? a=some (W.methodObj (.ref f) (.ref x))
 | .ext φ=>φ h/\(∃ o,h.get? a=some o)/\∀ h1 h2:Heap,φ h1->(∀ o,h1.get? a=some o->h2.get? a=some o)->φ h2
abbrev gb (H:Hp)(h:Heap):Prop:=∀ a o,H a=some o->aA P w H h a o
end
section
variable {P:Program}{w:World}{H H':Hp}{h h':Heap}{a:Addr}{o:HO}
def aA.lt (x:aA P w H h a o):a<h.objs.size:=by
 cases o with
 |lst xs=>obtain ⟨_,_,_,_,e⟩:=x;exact Heap.lt_size e
 |tup xs=>obtain ⟨_,_,_,p⟩:=x;exact p.lt
 |dK kvs=>obtain ⟨_,_,_,_,o,_,_,e,_⟩:=x;exact Heap.lt_size e
 |dT kvs=>obtain ⟨_,_,_,_,o,_,_,e,_⟩:=x;exact Heap.lt_size e
 |set S n=>obtain ⟨o,_,_,_,e,_⟩:=x;exact Heap.lt_size e
 |ins C dx fs=>obtain ⟨_,_,_,e,_⟩:=x;exact Heap.lt_size e
 |exc C dx fs fr=>obtain ⟨⟨_,e,_⟩,_⟩:=x;exact Heap.lt_size e
 |own y=>obtain ⟨_,e⟩:=x;exact Heap.lt_size e
 |xd fs=>obtain ⟨_,⟨_,_,_,e,_⟩,_⟩:=x;exact Heap.lt_size e
 |rng lo hi=>obtain ⟨_,_,_,e⟩:=x;exact Heap.lt_size e
 |frz ob u=>obtain ⟨e,_⟩:=x;exact Heap.lt_size e
 |tbl ps=>exact Heap.lt_size (show h.get? a=some _ from x)
 |met f y=>exact Heap.lt_size (show h.get? a=some _ from x)
 |ext φ=>obtain ⟨_,⟨_,e⟩,_⟩:=x;exact Heap.lt_size e
def Paired.Fo {α β:Type}{F G:α->β->Prop}:∀ {l₁:List α}{l₂:List β},Paired F l₁ l₂->(∀ a b,F a b->G a b)->Paired G l₁ l₂
 |_,_,.nil,_=>.nil
 |_,_,.cons r t,f=>.cons (f _ _ r) (Paired.Fo t f)
def aA.jR (x:aA P w H h a o)(k:∀ b u,(b=a\/H b=some (.own a))->h.get? b=some u->h'.get? b=some u)
  (ho:∀ b,H b=some (.own a)->H' b=some (.own a)) (ht:∀ b xs,H b=some (.tup xs)->H' b=some (.tup xs)):aA P w H' h' a o:=by
 induction o with
 |lst xs=>obtain ⟨z,its,n,r,e⟩:=x;exact ⟨z,its,n,r,k _ _ (.inl rfl) e⟩
 |tup xs=>obtain ⟨z,its,r,ob,e,c⟩:=x;exact ⟨z,its,r,ob,k _ _ (.inl rfl) e,c⟩
 |dK kvs=>obtain ⟨z,y,vs,r,ob,es,ep,e,c⟩:=x;exact ⟨z,y,vs,r,ob,es,ep,k _ _ (.inl rfl) e,c⟩
 |dT kvs=>
  obtain ⟨z,y,xs,r,ob,es,ep,e,c⟩:=x;exact ⟨z,y,xs,Paired.Fo r λp q z=>⟨z.1,ht _ _ z.2.1,z.2.2⟩,ob,es,ep,k _ _ (.inl rfl) e,c⟩
 |set S n=>obtain ⟨ob,es,ep,t,e,c⟩:=x;exact ⟨ob,es,ep,t,k _ _ (.inl rfl) e,c⟩
 |ins C dx fs=>
  obtain ⟨d,z,ne,e,mA,⟨od,es,ep,e2,c⟩,r⟩:=x;exact ⟨ho _ d,z,ne,k _ _ (.inl rfl) e,mA,⟨od,es,ep,k _ _ (.inr d) e2,c⟩,r⟩
 |exc C dx fs fr=>
  obtain ⟨⟨vs,e,z⟩,q⟩:=x;refine ⟨⟨vs,k _ _ (.inl rfl) e,z⟩,?_⟩;rcases q with q|⟨d,ed,d1,z1,ne,mA,⟨od,es,ep,e2,c⟩,r⟩
  ·exact .inl q
  ·exact .inr ⟨d,ed,ho _ d1,z1,ne,mA,⟨od,es,ep,k _ _ (.inr d1) e2,c⟩,r⟩
 |own y=>obtain ⟨ob,e⟩:=x;exact ⟨ob,k _ _ (.inl rfl) e⟩
 |xd fs=>obtain ⟨mA,⟨od,es,ep,e,c⟩,r⟩:=x;exact ⟨mA,⟨od,es,ep,k _ _ (.inl rfl) e,c⟩,r⟩
 |rng lo hi=>obtain ⟨t,u,v,e⟩:=x;exact ⟨t,u,v,k _ _ (.inl rfl) e⟩
 |frz ob u ih=>obtain ⟨e,q⟩:=x;exact ⟨k _ _ (.inl rfl) e,ih q⟩
 |tbl ps=>
  have e:h.get? a=some { cls:=.none,data:=.fields ps }:=x;show h'.get? a=some { cls:=.none,data:=.fields ps };exact k a _ (.inl rfl) e
 |met f y=>
  have e:h.get? a=some (W.methodObj (.ref f) (.ref y)):=x;show h'.get? a=some (W.methodObj (.ref f) (.ref y));exact k a _ (.inl rfl) e
 |ext φ=>obtain ⟨p,⟨o,e⟩,st⟩:=x;exact ⟨st _ _ p λo q=>k _ _ (.inl rfl) q,⟨o,k _ _ (.inl rfl) e⟩,st⟩
def gb.lt (x:gb P w H h)(e:H a=some o):a<h.objs.size:=(x a o e).lt
def gb.fresh (x:gb P w H h)(e:h.objs.size<=a):H a=none:=by
 cases q:H a with
 |none=>rfl
 |some u=>exact absurd (Nat.lt_of_lt_of_le (x.lt q) e) (Nat.lt_irrefl _)
def gb.kept (x:gb P w H h)(k:∀ b u,h.get? b=some u->h'.get? b=some u):gb P w H h':=λa o e=>
 (x a o e).jR (λb u _ q=>k b u q) (λ_ q=>q) λ_ _ q=>q
def gb.laid (x:gb P w H h)(k:∀ b u,h.get? b=some u->h'.get? b=some u) (hp:h.objs.size<=a) (new:aA P w (upd H a o) h' a o):gb P w (upd H a o) h':=λb u e=>by
 have hn:=x.fresh hp
 by_cases hb:b=a
 ·subst hb;rw[av] at e;cases e;exact new
 ·rw[ai hb] at e;exact (x b u e).jR (λc v _ q=>k c v q) (λc q=>by rw[ai (aP q hn)];exact q) λc xs q=>by rw[ai (aP q hn)];exact q
end
abbrev Rd (H:Hp)(a:Addr)(u:HO):Prop:=H a=some u\/∃ o,H a=some (.frz o u)
variable {P:Program}{w:World}{h:Heap}
def Rd.ok {u:HO}(r:Rd H a u)(x:gb P w H h):aA P w H h a u:=by
 rcases r with r|⟨o,r⟩
 ·exact x a u r
 ·obtain ⟨_,q⟩:=x a _ r;exact q
abbrev IT:Option HO->Prop
 |some (.lst _)=>True
 |some (.dK _)=>True
 |some (.dT _)=>True
 |some (.set _ _)=>True
 |some (.ins _ _ _)=>True
 |some (.exc _ _ _ _)=>True
 |some (.ext _)=>True
 |_=>False
section
variable {P:Program}{w:World}{H:Hp}{h h':Heap}{x e:Addr}{o':HO}
def gb.write (ok:gb P w H h)(mu:IT (H x))(he:e=x\/H e=some (.own x))(k:∀ b u,b≠e->h.get? b=some u->h'.get? b=some u) (heo:∃ u,h'.get? e=some u)
  (new:aA P w (upd H x o') h' x o'):gb P w (upd H x o') h':=λb u q=>by
 have nown:∀ c y,H c=some (.own y)->c≠x:=λc y r z=>by subst z;rw[r] at mu;exact mu
 have ntup:∀ c xs,H c=some (.tup xs)->c≠x:=λc xs r z=>by subst z;rw[r] at mu;exact mu
 by_cases hb:b=x
 ·subst hb;rw[av] at q;cases q;exact new
 ·rw[ai hb] at q
  by_cases hbe:b=e
  ·have q':H b=some (.own x):=by
    rcases he with z|z
    ·exact absurd (hbe.trans z) hb
    ·rw[hbe];exact z
   rw[q] at q';cases q';obtain ⟨v,hv⟩:=heo;exact ⟨v,by rw[hbe];exact hv⟩
  ·refine (ok b u q).jR (λc v hc r=>k c v ?_ r) (λc r=>by rw[ai (nown c b r)];exact r) λc xs r=>by rw[ai (ntup c xs r)];exact r
   rcases hc with rfl|hc
   ·exact hbe
   ·rintro rfl;rcases he with z|z
    ·exact nown c b hc z
    ·rw[hc] at z;cases z;exact hb rfl
end
structure Un (fs ex:List Addr) (H H':Hp) (h h':Heap):Prop where
 keep:∀ b o,h.get? b=some o->H b=none->b ∉ fs->b ∉ ex->h'.get? b=some o
 slot:∀ b o,h.get? b=some o->H b=none->b ∈ fs->b ∉ ex->∃ sl,h'.get? b=some { o with slots:=sl }
 free:∀ b o,h.get? b=some o->H b=none->b ∉ ex->H' b=none
 there:∀ b o,h.get? b=some o->b ∉ ex->∃ o',h'.get? b=some o'
 tups:∀ b xs,H b=some (.tup xs)->H' b=some (.tup xs)
 frzs:∀ b o u,H b=some (.frz o u)->H' b=some (.frz o u)
 tbls:∀ b ps,H b=some (.tbl ps)->∃ more,H' b=some (.tbl (ps++more))
section
variable {fs fs' ex ex':List Addr}{H H1 H2:Hp}{h h1 h2 h':Heap}{a x e:Addr}{o:HO}
def Un.any (u:Un fs ex H H1 h h1){ob:Obj}(q:h.get? b=some ob)(n:H b=none)(hx:b ∉ ex):∃ sl,h1.get? b=some { ob with slots:=sl }:=by
 by_cases hb:b ∈ fs
 ·exact u.slot b ob q n hb hx
 ·exact ⟨ob.slots,u.keep b ob q n hb hx⟩
def Un.kept (k:∀ b u,h.get? b=some u->h'.get? b=some u):Un fs ex H H h h':=
 ⟨λb ob q _ _ _=>k b ob q,λb ob q _ _ _=>⟨ob.slots,k b ob q⟩,λ_ _ _ n _=>n,λb ob q _=>⟨ob,k b ob q⟩,λ_ _ q=>q,λ_ _ _ q=>q,λ_ ps q=>⟨#[],by rw[q];simp⟩⟩
def Un.refl:Un fs ex H H h h:=Un.kept λ_ _ q=>q
def Un.laid (k:∀ b u,h.get? b=some u->h'.get? b=some u) (hp:h.objs.size<=a) (hn:H a=none):Un fs ex H (upd H a o) h h' where
 keep:=λb u q _ _ _=>k b u q
 slot:=λb u q _ _ _=>⟨u.slots,k b u q⟩
 free:=λb u q n _=>by rw[ai (Nat.ne_of_lt (Nat.lt_of_lt_of_le (Heap.lt_size q) hp))];exact n
 there:=λb u q _=>⟨u,k b u q⟩
 tups:=λb xs q=>by rw[ai (aP q hn)];exact q
 frzs:=λb u xs q=>by rw[ai (aP q hn)];exact q
 tbls:=λb ps q=>⟨#[],by rw[ai (aP q hn),q];simp⟩
def Un.write (mu:IT (H x))(he:e=x\/H e=some (.own x))(k:∀ b u,b≠e->h.get? b=some u->h'.get? b=some u) (heo:∃ u,h'.get? e=some u):Un fs ex H (upd H x o) h h':=by
 have hx:∀ b,H b=none->b≠x:=λb n z=>by subst z;rw[n] at mu;exact mu
 have hb:∀ b,H b=none->b≠e:=λb n z=>by
  subst z;rcases he with r|r
  ·exact hx b n r
  ·rw[n] at r;cases r
 have hm:∀ b u,H b=some u->¬ IT (some u)->b≠x:=λb u q nm z=>by subst z;rw[q] at mu;exact nm mu
 refine ⟨λb u q n _ _=>k b u (hb b n) q,λb u q n _ _=>⟨u.slots,k b u (hb b n) q⟩,λb u q n _=>by rw[ai (hx b n)];exact n,λb u q _=>?_,
  λb xs q=>by rw[ai (hm b _ q λz=>z)];exact q,λb u xs q=>by rw[ai (hm b _ q λz=>z)];exact q,λb ps q=>⟨#[],by rw[ai (hm b _ q λz=>z),q];simp⟩⟩
 by_cases hbe:b=e
 ·subst hbe;exact heo
 ·exact ⟨u,k b u hbe q⟩
end
abbrev D5 (h:Heap)(H:Hp):List Addr:=(List.range h.objs.size).filter λa=>(H a).isSome
abbrev nR (h:Heap)(H:Hp):Heap:=W.hideAll h (D5 h H)
def vw (h:Heap)(H:Hp):(nR h H).objs.size=h.objs.size:=W.hideAll_size _ _
def xB {o:Obj}(e:h.get? b=some o)(n:H b=none):(nR h H).get? b=some o:=
 W.hideAll_get _ e λhm=>by
  have q:(H b).isSome=true:=(List.mem_filter.mp hm).2;rw[n] at q;simp at q
def CQ {o:Obj}(e:(nR h H).get? b=some o):h.get? b=some o/\H b=none:=by
 have e':h.get? b=some o:=W.of_hideAll (D5 h H) e;refine ⟨e',?_⟩;cases q:H b with
 |none=>rfl
 |some x=>
  have hm:b ∈ D5 h H:=List.mem_filter.mpr ⟨mem_range.mpr (Heap.lt_size e'),by simp[q]⟩;have z:(nR h H).get? b=none:=W.hideAll_none (D5 h H) hm;rw[z] at e;cases e
structure Mod (K:W.Frag) (mg:ME) (base:Heap):Prop where
 kin:K.In base
 glob:base.Ns mainGlobals mg
 blt:∃ mb,base.Ns builtinsNs mb/\∀ x:Str,x≠"__name__"->mb x=bootBuiltins x
 nolimit:base.NoLimit
/-- the context:a def's body (or a comprehension's block) running. base:fixed through the whole law;s₀,H₀:the entry;outer:the frames whose slots others may change (a def's callers);stack:all frames that run;
  ex:iterators that were made ahead of the entry and are walked here (a comprehension's);fn:the names whose cells were made at the entry (a def:all;a comprehension's block:its own);calm:not within an except bD;pn:Y that every state bears;xe:what is wanted of an exception that leaves the code -/
structure Cx where
 prog:Program
 w:World
 K:W.Frag
 mg:Str->Option Value
 base:Heap
 A:Around
 N:List Str
 s₀:Shared
 H₀:Hp
 env:Env
 outer:List Env
 stack:List Env
 ex:List Addr
 fn:Str->Bool
 calm:Bool
 pn:List (Addr×Obj)
 xe:Value->Shared->Prop
abbrev nO (l:List Env):List Addr:=l.filterMap (·.frame)
noncomputable abbrev Cx.fs (X:Cx):List Addr:=nO X.outer
abbrev IF (sc:Scope)(x:Str):Prop:=sc.names.lookup x=some .local\/sc.names.lookup x=some .cell\/sc.names.lookup x=some .free
abbrev Loc (sc:Scope)(x:Str):Prop:=sc.names.lookup x=some .local\/sc.names.lookup x=some .cell
abbrev Look (env:Env)(h:Heap)(m:ME)(x:Str)(u:Value):Prop:=
 (env.kindOf x=some .local/\m x=some u)\/((env.kindOf x=some .cell\/env.kindOf x=some .free)/\∃ c,env.cells.lookup x=some c/\h.IsCell c (some u))
structure Cx.Ok (X:Cx):Prop where
 mod:Mod X.K X.mg X.base
 kind:X.env.scope.kind=.function
 glob:X.env.globals=mainGlobals
 blt:X.env.builtins=builtinsNs
 above:X.s₀.heap.objs.size<=X.env.locals
 inj:∀ x y c,X.env.cells.lookup x=some c->X.env.cells.lookup y=some c->x=y
 has:∀ x,(X.env.kindOf x=some .cell\/X.env.kindOf x=some .free)->∃ c,X.env.cells.lookup x=some c
 cab:∀ x c,X.fn x=true->X.env.cells.lookup x=some c->X.s₀.heap.objs.size<=c
 hd:X.calm=true->X.A.handled=none
 frames:X.A.frames=some X.stack
 stk:X.stack=X.outer\/(X.stack=X.env::X.outer/\X.env.frame=some X.env.locals)
 exf:∀ b ∈ X.ex,b≠X.env.locals/\∀ x c,X.env.cells.lookup x=some c->c≠b
 bs:∀ b o,X.base.get? b=some o->X.s₀.heap.get? b=some o/\X.H₀ b=none
 bsz:X.base.objs.size<=X.s₀.heap.objs.size
 noex:∀ b o,X.base.get? b=some o->b ∉ X.ex
 exfs:∀ b ∈ X.ex,b ∉ X.fs
 jI:X.s₀.heap.FunFrames X.base X.outer
 frf:∀ b ∈ X.fs,X.H₀ b=none
structure Inv (X:Cx) (Y:MD) (U:List (Option V)) (H:Hp) (s:Shared):Prop where
 ok:X.Ok
 os:s.os=X.s₀.os
 bare:AllBare s.gens
 base:Un X.fs X.ex X.H₀ H X.s₀.heap s.heap
 loc:∃ m,s.heap.Ns X.env.locals m/\∀ (i:Nat) (x:Str) (v:V),X.N[i]? =some x->U[i]? =some (some v)->IF X.env.scope x->∃ u,RelV v u/\Look X.env s.heap m x u
 cell:∀ x c,X.env.cells.lookup x=some c->∃ v,s.heap.IsCell c v
 free:H X.env.locals=none
 freeC:∀ x c,X.env.cells.lookup x=some c->H c=none
 pin:∀ p ∈ X.pn++Y,s.heap.get? p.1=some p.2/\H p.1=none/\p.1≠X.env.locals/\p.1 ∉ X.fs/\∀ v,p.2.data≠.cell v
 hok:gb X.prog X.w H s.heap
 len:U.length=X.N.length
variable {x:Str}{g':Array GenState}{ch:List Addr}{i:Nat}{M:Model}{A:Around}{E:MC}{v:V}
section
variable {X:Cx}{Y:MD}{U:List (Option V)}{H H':Hp}{s:Shared}{h':Heap}
def Cx.Ok.KZ (ok:X.Ok){o:Obj}(e:X.base.get? b=some o):b ∉ X.fs:=λhb=>by
 have:=(ok.jI.mem hb).1;rw[e] at this;cases this
def Inv.bs (I:Inv X Y U H s):∀ b o,X.base.get? b=some o->s.heap.get? b=some o/\H b=none:=λb o e=>
 ⟨I.base.keep b o (I.ok.bs b o e).1 (I.ok.bs b o e).2 (I.ok.KZ e) (I.ok.noex b o e),I.base.free b o (I.ok.bs b o e).1 (I.ok.bs b o e).2 (I.ok.noex b o e)⟩
def Inv.bk (I:Inv X Y U H s):∀ b o,X.base.get? b=some o->s.heap.get? b=some o:=λb o e=>(I.bs b o e).1
def Inv.mod (I:Inv X Y U H s):Mod X.K X.mg X.base:=I.ok.mod
def Inv.bQ (I:Inv X Y U H s):X.K.In s.heap:=I.ok.mod.kin.keeps I.bk
def Inv.lt (I:Inv X Y U H s):X.env.locals<s.heap.objs.size:=let ⟨_,hn,_⟩:=I.loc;hn.lt
def Inv.sz (I:Inv X Y U H s):X.s₀.heap.objs.size<=s.heap.objs.size:=Nat.le_trans I.ok.above (Nat.le_of_lt I.lt)
def Inv.KD (I:Inv X Y U H s)(h:s.heap.objs.size<=a):a ∉ X.fs:=λhb=>by
 obtain ⟨_,o,ho,_⟩:=I.ok.jI.mem hb;exact absurd (Nat.lt_of_lt_of_le (Heap.lt_size ho) (Nat.le_trans I.sz h)) (Nat.lt_irrefl _)
def Inv.Ad (I:Inv X Y U H s):∀ x c,X.env.cells.lookup x=some c->c≠X.env.locals:=λx c e z=>by
 obtain ⟨v,o,ho,hd⟩:=I.cell x c e;obtain ⟨m,⟨o',es,ep,ho',hd',_⟩,_⟩:=I.loc;rw[z,ho'] at ho;cases ho;rw[hd'] at hd;cases hd
def Inv.jI (I:Inv X Y U H s):s.heap.FunFrames X.base X.outer:=by
 have all:∀ (l:List Env),(∀ b ∈ nO l,b ∈ X.fs)->X.s₀.heap.FunFrames X.base l->s.heap.FunFrames X.base l:=by
  intro l
  induction l with
  |nil=>intro _ _;trivial
  |cons env r ih=>
   intro hs hl;obtain ⟨hk,⟨L,o,hf,hn,ho,hd⟩,hr⟩:=hl;have hL:L ∈ X.fs:=hs L (by unfold nO;rw[filterMap_cons,hf];exact mem_cons_self);obtain ⟨sl,e⟩:=I.base.slot L o ho (I.ok.frf L hL) hL λz=>I.ok.exfs L z hL
   exact ⟨hk,⟨L,_,hf,hn,e,hd⟩,ih (λb hb=>hs b (by unfold nO;rw[filterMap_cons,hf];exact mem_cons_of_mem _ hb)) hr⟩
 exact all X.outer (λ_ hb=>hb) I.ok.jI
def Inv.stack (I:Inv X Y U H s):s.heap.FunFrames X.base X.stack:=by
 rcases I.ok.stk with e|⟨e,hf⟩
 ·rw[e];exact I.jI
 ·rw[e];obtain ⟨m,hn,_⟩:=I.loc;refine .cons (by rw[I.ok.kind];decide) hf hn ?_ I.jI;exact Heap.get?_none_of_le (Nat.le_trans I.ok.bsz I.ok.above)
def Inv.iS (I:Inv X Y U H s):∀ b ∈ nO X.stack,b ∈ X.env.locals::X.fs:=λb hb=>by
 rcases I.ok.stk with e|⟨e,hf⟩
 ·rw[e] at hb;exact mem_cons_of_mem _ hb
 ·rw[e] at hb;unfold nO at hb;rw[filterMap_cons,hf] at hb;exact hb
def Inv.pA (I:Inv X Y U H s):∀ b ∈ nO X.stack,H b=none:=λb hb=>by
 rcases mem_cons.mp (I.iS b hb) with e|hb
 ·rw[e];exact I.free
 ·obtain ⟨_,o,ho,_⟩:=I.ok.jI.mem hb;exact I.base.free b o ho (I.ok.frf b hb) λz=>I.ok.exfs b z hb
def Inv.step {t':Nat}{d':Drawn}(I:Inv X Y U H s)
  (hch:∀ b ∈ ch,(b ∈ X.ex\/X.s₀.heap.objs.size<=b)/\b≠X.env.locals/\(∀ x c,X.env.cells.lookup x=some c->c≠b)/\∀ p ∈ X.pn++Y,p.1≠b)
  (keep:∀ b o,b≠X.env.locals->b ∉ X.fs->b ∉ ch->s.heap.get? b=some o->H b=none->h'.get? b=some o)
  (slot:∀ b o,b≠X.env.locals->b ∈ X.fs->b ∉ ch->s.heap.get? b=some o->H b=none->∃ sl,h'.get? b=some { o with slots:=sl }) (free:∀ b o,b ∉ ch->s.heap.get? b=some o->H b=none->H' b=none)
  (there:∀ b o,b ∉ ch->s.heap.get? b=some o->∃ o',h'.get? b=some o')
  (tups:∀ b xs,H b=some (.tup xs)->H' b=some (.tup xs)) (frzs:∀ b o u,H b=some (.frz o u)->H' b=some (.frz o u)) (tbls:∀ b ps,H b=some (.tbl ps)->∃ more,H' b=some (.tbl (ps++more)))
  (ns:∀ m,s.heap.Ns X.env.locals m->h'.Ns X.env.locals m) (hok:gb X.prog X.w H' h') (hg:AllBare g'):
  Inv X Y U H' { s with heap:=h',gens:=g',drawn:=d',toks:=t' }:=by
 have neL:∀ b o,X.s₀.heap.get? b=some o->b≠X.env.locals:=λb o e=>Nat.ne_of_lt (Nat.lt_of_lt_of_le (Heap.lt_size e) I.ok.above)
 have neC:∀ b o,X.s₀.heap.get? b=some o->b ∉ X.ex->b ∉ ch:=λb o e hx hb=>by
  rcases (hch b hb).1 with z|z
  ·exact hx z
  ·exact absurd (Nat.lt_of_lt_of_le (Heap.lt_size e) z) (Nat.lt_irrefl _)
 have cellK:∀ x c,X.env.cells.lookup x=some c->∀ v,s.heap.IsCell c v->h'.IsCell c v:=λx c e v ⟨o,ho,hd⟩=>by
  have nch:c ∉ ch:=λz=>(hch c z).2.2.1 x c e rfl
  by_cases hc:c ∈ X.fs
  ·obtain ⟨sl,q⟩:=slot c o (I.Ad x c e) hc nch ho (I.freeC x c e);exact ⟨_,q,hd⟩
  ·exact ⟨o,keep c o (I.Ad x c e) hc nch ho (I.freeC x c e),hd⟩
 refine ⟨I.ok,I.os,hg,⟨λb o e n hb hx=>?_,λb o e n hb hx=>?_,λb o e n hx=>?_,λb o e hx=>?_,λb xs e=>tups b xs (I.base.tups b xs e),λb o xs e=>frzs b o xs (I.base.frzs b o xs e),λb ps e=>?_⟩,?_,λx c e=>?_,?_,λx c e=>?_,λp hp=>?_,hok,I.len⟩
 ·exact keep b o (neL b o e) hb (neC b o e hx) (I.base.keep b o e n hb hx) (I.base.free b o e n hx)
 ·obtain ⟨sl,e1⟩:=I.base.slot b o e n hb hx;obtain ⟨sl',e2⟩:=slot b _ (neL b o e) hb (neC b o e hx) e1 (I.base.free b o e n hx);exact ⟨sl',e2⟩
 ·obtain ⟨o',e1⟩:=I.base.there b o e hx;exact free b o' (neC b o e hx) e1 (I.base.free b o e n hx)
 ·obtain ⟨o',e1⟩:=I.base.there b o e hx;exact there b o' (neC b o e hx) e1
 ·obtain ⟨m1,e1⟩:=I.base.tbls b ps e;obtain ⟨m2,e2⟩:=tbls b _ e1;exact ⟨m1++m2,by rw[e2,Array.append_assoc]⟩
 ·obtain ⟨m,hn,hl⟩:=I.loc;refine ⟨m,ns m hn,λi x v e1 e2 e3=>?_⟩;obtain ⟨u,r,l⟩:=hl i x v e1 e2 e3;refine ⟨u,r,?_⟩;rcases l with l|⟨k,c,e,z⟩
  ·exact .inl l
  ·exact .inr ⟨k,c,e,cellK x c e _ z⟩
 ·obtain ⟨v,z⟩:=I.cell x c e;exact ⟨v,cellK x c e v z⟩
 ·obtain ⟨m,⟨o,_,_,ho,_⟩,_⟩:=I.loc;exact free _ o (λz=>(hch _ z).2.1 rfl) ho I.free
 ·obtain ⟨v,o,ho,hd⟩:=I.cell x c e;exact free c o (λz=>(hch c z).2.2.1 x c e rfl) ho (I.freeC x c e)
 ·obtain ⟨e,n,ne,nf,d⟩:=I.pin p hp;have nch:p.1 ∉ ch:=λz=>(hch p.1 z).2.2.2 p hp rfl
  exact ⟨keep p.1 p.2 ne nf nch e n,free p.1 p.2 nch e n,ne,nf,d⟩
def Inv.un {t':Nat}(I:Inv X Y U H s)(u:Un X.fs [] H H' s.heap h')(hok:gb X.prog X.w H' h'):Inv X Y U H' { s with heap:=h',toks:=t' }:=by
 obtain ⟨m,⟨o,es,ep,ho,r⟩,_⟩:=id I.loc;obtain ⟨sl,hL⟩:=u.any ho I.free (by simp);exact I.step (g':=s.gens) (d':=s.drawn) (ch:=[]) (λ_ z=>nomatch z) (λb o _ hb _ e n=>u.keep b o e n hb (by simp)) (λb o _ hb _ e n=>u.slot b o e n hb (by simp)) (λb o _ e n=>u.free b o e n (by simp)) (λb o _ e=>u.there b o e (by simp)) u.tups u.frzs u.tbls (λm' hm=>by
  obtain ⟨o',es',ep',ho',r'⟩:=hm;rw[ho] at ho';cases ho';exact ⟨_,es',ep',hL,r'⟩) hok I.bare
def Inv.call {t':Nat}{d':Drawn}(I:Inv X Y U H s)(u:Un (nO X.stack) ch H H' s.heap h')(hok:gb X.prog X.w H' h')(hg:AllBare g')
  (hch:∀ b ∈ ch,(b ∈ X.ex\/X.s₀.heap.objs.size<=b)/\b≠X.env.locals/\(∀ x c,X.env.cells.lookup x=some c->c≠b)/\∀ p ∈ X.pn++Y,p.1≠b):
  Inv X Y U H' { s with heap:=h',gens:=g',drawn:=d',toks:=t' }:=by
 obtain ⟨m,⟨o,es,ep,ho,r⟩,_⟩:=id I.loc;obtain ⟨sl,hL⟩:=u.any ho I.free λz=>(hch _ z).2.1 rfl
 exact I.step (ch:=ch) hch (λb o hL hb hc e n=>u.keep b o e n (λz=>(mem_cons.mp (I.iS b z)).elim hL hb) hc) (λb o _ _ hc e n=>u.any e n hc) (λb o hc e n=>u.free b o e n hc) (λb o hc e=>u.there b o e hc) u.tups u.frzs u.tbls (λm' hm=>by
  obtain ⟨o',es',ep',ho',r'⟩:=hm;rw[ho] at ho';cases ho';exact ⟨_,es',ep',hL,r'⟩) hok hg
def Inv.turned {t':Nat}{it:Addr}(I:Inv X Y U H s)(k:∀ b o,b≠it->s.heap.get? b=some o->h'.get? b=some o) (hn:H it=none) (hL:it≠X.env.locals)
  (h1:it ∈ X.ex\/X.s₀.heap.objs.size<=it) (h2:∀ x c,X.env.cells.lookup x=some c->c≠it) (h3:∀ p ∈ X.pn++Y,p.1≠it):Inv X Y U H { s with heap:=h',toks:=t' }:=by
 have nit:∀ b u,H b=some u->b≠it:=λb u e z=>by rw[z,hn] at e;cases e
 refine I.step (g':=s.gens) (d':=s.drawn) (ch:=[it]) (λb hb=>?_) (λb o _ _ hc e _=>k b o (λz=>hc (by simp[z])) e) (λb o _ _ hc e _=>⟨o.slots,k b o (λz=>hc (by simp[z])) e⟩) (λ_ _ _ _ n=>n)
  (λb o hc e=>⟨o,k b o (λz=>hc (by simp[z])) e⟩) (λ_ _ e=>e) (λ_ _ _ e=>e) (λb ps e=>⟨#[],by rw[e];simp⟩) (λm hm=>?_) (λb u e=>?_) I.bare
 ·have e:b=it:=by simpa using hb
  subst e;exact ⟨h1,hL,h2,h3⟩
 ·obtain ⟨o,es,ep,ho,r⟩:=hm;exact ⟨o,es,ep,k _ o (Ne.symm hL) ho,r⟩
 ·refine (I.hok b u e).jR (λc v hc q=>k c v ?_ q) (λ_ q=>q) λ_ _ q=>q
  rcases hc with z|z
  ·rw[z];exact nit b u e
  ·exact nit c _ z
def Inv.tok (I:Inv X Y U H s)(t:Nat):Inv X Y U H { s with toks:=t }:=I.un (h':=s.heap) (t':=t) Un.refl I.hok
def Inv.kept {t':Nat}(I:Inv X Y U H s)(k:∀ b u,s.heap.get? b=some u->h'.get? b=some u):Inv X Y U H { s with heap:=h',toks:=t' }:=I.un (Un.kept k) (I.hok.kept k)
def Inv.laid {t':Nat}(I:Inv X Y U H s)(k:∀ b u,s.heap.get? b=some u->h'.get? b=some u) (hp:s.heap.objs.size<=a) (new:aA X.prog X.w (upd H a o) h' a o):
  Inv X Y U (upd H a o) { s with heap:=h',toks:=t' }:=I.un (Un.laid k hp (I.hok.fresh hp)) (I.hok.laid k hp new)
def Inv.write {x e:Addr}{t':Nat}(I:Inv X Y U H s)(mu:IT (H x))(he:e=x\/H e=some (.own x))(k:∀ b u,b≠e->s.heap.get? b=some u->h'.get? b=some u) (heo:∃ u,h'.get? e=some u)
  (new:aA X.prog X.w (upd H x o) h' x o):Inv X Y U (upd H x o) { s with heap:=h',toks:=t' }:=I.un (Un.write mu he k heo) (I.hok.write mu he k heo new)
def Inv.pK {pins':MD}(I:Inv X Y U H s)(h:∀ p ∈ pins',s.heap.get? p.1=some p.2/\H p.1=none/\p.1≠X.env.locals/\p.1 ∉ X.fs/\∀ v,p.2.data≠.cell v):Inv X pins' U H s:=
 ⟨I.ok,I.os,I.bare,I.base,I.loc,I.cell,I.free,I.freeC,λp hp=>(mem_append.mp hp).elim (λz=>I.pin p (mem_append_left _ z)) (h p),I.hok,I.len⟩
def lu {N:List Str}(hN:N.Nodup){j:Nat}(a:N[i]? =some x)(b:N[j]? =some x):i=j:=by
 obtain ⟨h1,e1⟩:=List.getElem?_eq_some_iff.mp a;obtain ⟨h2,e2⟩:=List.getElem?_eq_some_iff.mp b;exact (List.getElem_inj hN).mp (e1.trans e2.symm)
variable {Q:MB}
def nz (I:Inv X Y U H s)(hN:X.N.Nodup)(hi:X.N[i]? =some x)(hx:Loc X.env.scope x)(r:RelV v u)
  (h:∀ s',Inv X Y (U.set i (some v)) H s'->(∃ a,Heap.SameBut a s.heap s'.heap/\(a=X.env.locals\/X.env.cells.lookup x=some a))->Q () s') (hf:X.fn x=true\/X.env.scope.names.lookup x=some .local:=by first|exact .inl rfl|exact .inr rfl|assumption):wpAny M A (storeName X.env x u) Q E s:=by
 obtain ⟨m,hn,hl⟩:=id I.loc;have hcls:(X.env.scope.kind ==.class||(X.env.scope.kind ==.module&&X.env.locals != X.env.globals))=false:=by rw[I.ok.kind];rfl
 have hiσ:i<U.length:=by rw[I.len];exact (List.getElem?_eq_some_iff.mp hi).1
 have Ad:=I.Ad;have tracked:∀ {a:Addr}{h':Heap},(∃ o,s.heap.get? a=some o/\H a=none)->Heap.SameBut a s.heap h'->gb X.prog X.w H h':=λ{a h'} ha hs b ob e=>by
  obtain ⟨_,_,hfree⟩:=ha;refine (I.hok b ob e).jR (λc w' hc q=>(hs.2 c ?_).trans q) (λ_ q=>q) λ_ _ q=>q
  rintro rfl;rcases hc with rfl|hc
  ·rw[hfree] at e;cases e
  ·rw[hfree] at hc;cases hc
 rcases hx with hk|hk
 ·refine wpAny_storeName_local hk hn (λh' hn' hs=>?_) hcls;obtain ⟨oL,_,_,hoL,_⟩:=id hn;refine h _ ⟨I.ok,I.os,I.bare,⟨λb o e n hb hx=>?_,λb o e n hb hx=>?_,I.base.free,λb o e hx=>?_,I.base.tups,I.base.frzs,I.base.tbls⟩,⟨_,hn',λj y v' e1 e2 e3=>?_⟩,λy c e=>?_,I.free,I.freeC,λp hp=>?_,tracked ⟨oL,hoL,I.free⟩ hs,by simpa using I.len⟩ ⟨_,hs,.inl rfl⟩
  ·exact (hs.2 b (Nat.ne_of_lt (Nat.lt_of_lt_of_le (Heap.lt_size e) I.ok.above))).trans (I.base.keep b o e n hb hx)
  ·obtain ⟨sl,e1⟩:=I.base.slot b o e n hb hx;exact ⟨sl,(hs.2 b (Nat.ne_of_lt (Nat.lt_of_lt_of_le (Heap.lt_size e) I.ok.above))).trans e1⟩
  ·obtain ⟨o',e1⟩:=I.base.there b o e hx;exact ⟨o',(hs.2 b (Nat.ne_of_lt (Nat.lt_of_lt_of_le (Heap.lt_size e) I.ok.above))).trans e1⟩
  ·by_cases hj:j=i
   ·subst hj;rw[hi] at e1;cases e1;rw[getElem?_set_self hiσ] at e2;cases e2;exact ⟨u,r,.inl ⟨hk,by simp⟩⟩
   ·rw[getElem?_set_ne (Ne.symm hj)] at e2;obtain ⟨u',r',q⟩:=hl j y v' e1 e2 e3;refine ⟨u',r',?_⟩;rcases q with ⟨k,e⟩|⟨k,c,e,z⟩
    ·refine .inl ⟨k,?_⟩;have:y≠x:=λe=>hj (lu hN e1 (e▸hi))
     simp[this,e]
    ·exact .inr ⟨k,c,e,z.sameBut hs (Ad y c e)⟩
  ·obtain ⟨w',z⟩:=I.cell y c e;exact ⟨w',z.sameBut hs (Ad y c e)⟩
  ·obtain ⟨e,n,ne,nf,d⟩:=I.pin p hp;exact ⟨(hs.2 p.1 ne).trans e,n,ne,nf,d⟩
 ·have hfn:X.fn x=true:=by
   rcases hf with z|z
   ·exact z
   ·rw[z] at hk;cases hk
  obtain ⟨c,hc⟩:=I.ok.has x (.inl hk);obtain ⟨w',z⟩:=I.cell x c hc;refine wpAny_storeName_cell I.ok.kind hk hc z (λh' hc' hs=>?_);obtain ⟨oc,hoc,hocd⟩:=id z;refine h { s with heap:=h' } ⟨I.ok,I.os,I.bare,⟨λb o e n hb hx=>?_,λb o e n hb hx=>?_,I.base.free,λb o e hx=>?_,I.base.tups,I.base.frzs,I.base.tbls⟩,⟨m,hn.sameBut hs (Ne.symm (Ad x c hc)),λj y v' e1 e2 e3=>?_⟩,λy c' e=>?_,I.free,I.freeC,λp hp=>?_,tracked ⟨oc,hoc,I.freeC x c hc⟩ hs,by simpa using I.len⟩ ⟨c,hs,.inr hc⟩
  ·exact (hs.2 b (Nat.ne_of_lt (Nat.lt_of_lt_of_le (Heap.lt_size e) (I.ok.cab x c hfn hc)))).trans (I.base.keep b o e n hb hx)
  ·obtain ⟨sl,e1⟩:=I.base.slot b o e n hb hx;exact ⟨sl,(hs.2 b (Nat.ne_of_lt (Nat.lt_of_lt_of_le (Heap.lt_size e) (I.ok.cab x c hfn hc)))).trans e1⟩
  ·obtain ⟨o',e1⟩:=I.base.there b o e hx;exact ⟨o',(hs.2 b (Nat.ne_of_lt (Nat.lt_of_lt_of_le (Heap.lt_size e) (I.ok.cab x c hfn hc)))).trans e1⟩
  ·by_cases hj:j=i
   ·subst hj;rw[hi] at e1;cases e1;rw[getElem?_set_self hiσ] at e2;cases e2;exact ⟨u,r,.inr ⟨.inl hk,c,hc,hc'⟩⟩
   ·rw[getElem?_set_ne (Ne.symm hj)] at e2;obtain ⟨u',r',q⟩:=hl j y v' e1 e2 e3;refine ⟨u',r',?_⟩;rcases q with q|⟨k,c',e,z'⟩
    ·exact .inl q
    ·refine .inr ⟨k,c',e,z'.sameBut hs ?_⟩;rintro rfl;exact hj (lu hN e1 (I.ok.inj _ _ _ e hc▸hi))
  ·by_cases hcc:c'=c
   ·subst hcc;exact ⟨_,hc'⟩
   ·obtain ⟨w2,z2⟩:=I.cell y c' e;exact ⟨w2,z2.sameBut hs hcc⟩
  ·obtain ⟨e,n,ne,nf,d⟩:=I.pin p hp;refine ⟨(hs.2 p.1 ?_).trans e,n,ne,nf,d⟩;intro q;rw[q,hoc] at e;have q':oc=p.2:=Option.some.inj e;exact d w' (by rw[<-q'];exact hocd)
def bj (I:Inv X Y U H s)(hN:X.N.Nodup)(hi:X.N[i]? =some x)(hx:Loc X.env.scope x)(r:RelV v u)
  (h:∀ s',Inv X Y (U.set i (some v)) H s'->Q () s') (hf:X.fn x=true\/X.env.scope.names.lookup x=some .local:=by first|exact .inl rfl|exact .inr rfl|assumption):wpAny M A (storeName X.env x u) Q E s:=
 nz I hN hi hx r (λs' I' _=>h s' I') hf
def Inv.ym {s':Shared}(I:Inv X Y U H s)(ho:s'.os=s.os)(u:Un (nO X.stack) ch H H' s.heap s'.heap)(hok:gb X.prog X.w H' s'.heap)(hg:AllBare s'.gens)
  (hch:∀ b ∈ ch,(b ∈ X.ex\/X.s₀.heap.objs.size<=b)/\b≠X.env.locals/\(∀ x c,X.env.cells.lookup x=some c->c≠b)/\∀ p ∈ X.pn++Y,p.1≠b):Inv X Y U H' s':=by
 obtain ⟨h',g',d',t',o'⟩:=s';have e:o'=s.os:=ho;subst e;exact I.call (g':=g') (t':=t') (d':=d') u hok hg hch
end
@[reducible]def XK:=Addr->Hp->Prop
@[reducible]def St:=List (Option V)
@[reducible]def VK:=V->Hp->Prop
@[reducible]def TE:=St->Hp->VK->Prop
@[reducible]def TT:=St->Hp->(Bool->Hp->Prop)->Prop
@[reducible]def TA:=St->Hp->(List V->Hp->Prop)->Prop
structure Ends where
 nx:St->Hp->Prop
 rt:VK
 bk:St->Hp->Prop:=λ_ _=>False
 ct:St->Hp->Prop:=λ_ _=>False
@[reducible]def TS:=Ends->St->Hp->Prop
abbrev EP (X:Cx)(Y:MD)(U:St)(Q:VK)(u:Value)(s':Shared):Prop:=∃ v H',Inv X Y U H' s'/\RelV v u/\Q v H'
abbrev TP (X:Cx)(Y:MD)(U:St)(Q:Bool->Hp->Prop)(b:Bool)(s':Shared):Prop:=∃ H',Inv X Y U H' s'/\Q b H'
abbrev AP (X:Cx)(Y:MD)(U:St)(Q:List V->Hp->Prop)(us:List Value)(s':Shared):Prop:=∃ vs H',Inv X Y U H' s'/\Vals vs us/\Q vs H'
abbrev SP (X:Cx)(Y:MD)(D:Ends)(f:Flow)(s':Shared):Prop:=
 match f with
 | .next=>∃ σ' H',Inv X Y σ' H' s'/\D.nx σ' H'
 | .brk=>∃ σ' H',Inv X Y σ' H' s'/\D.bk σ' H'
 | .cont=>∃ σ' H',Inv X Y σ' H' s'/\D.ct σ' H'
 | .ret u=>∃ v σ' H',Inv X Y σ' H' s'/\RelV v u/\D.rt v H'
abbrev PE (X:Cx)(e:Expr)(t:TE):Prop:=
 ∀ (Y:MD) (s:Shared) (U:St) (H:Hp) (Q:VK),Inv X Y U H s->t U H Q->wpAny (model X.prog X.w) X.A (eval e X.env) (EP X Y U Q) X.xe s
abbrev PT (X:Cx)(e:Expr)(t:TT):Prop:=
 ∀ (Y:MD) (s:Shared) (U:St) (H:Hp) (Q:Bool->Hp->Prop),Inv X Y U H s->t U H Q->wpAny (model X.prog X.w) X.A (isTrue e X.env (eval e X.env)) (TP X Y U Q) X.xe s
abbrev PW (X:Cx)(e:Expr)(t:TT):Prop:=
 ∀ (whole:Sem Value) (Y:MD) (s:Shared) (U:St) (H:Hp) (Q:Bool->Hp->Prop),Inv X Y U H s->t U H Q->wpAny (model X.prog X.w) X.A (isTrue e X.env whole) (TP X Y U Q) X.xe s
variable {e:Expr}
def PW.pt {X:Cx}{t:TT}(h:PW X e t):PT X e t:=h _
abbrev PA (X:Cx)(es:List Expr)(t:TA):Prop:=
 ∀ (pos:Pos) (Y:MD) (s:Shared) (U:St) (H:Hp) (Q:List V->Hp->Prop),Inv X Y U H s->t U H Q->wpAny (model X.prog X.w) X.A (spliced (backTo pos (starEach es X.env))) (AP X Y U Q) X.xe s
abbrev PS (X:Cx)(st:Stmt)(t:TS):Prop:=
 ∀ (Y:MD) (s:Shared) (U:St) (H:Hp) (D:Ends),Inv X Y U H s->t D U H->wpAny (model X.prog X.w) X.A (exec st X.env) (SP X Y D) X.xe s
abbrev A4 (X:Cx)(st:List Stmt)(t:TS):Prop:=
 ∀ (Y:MD) (s:Shared) (U:St) (H:Hp) (D:Ends),Inv X Y U H s->t D U H->wpAny (model X.prog X.w) X.A (execs st X.env) (SP X Y D) X.xe s
variable {s:Shared}
def az {α:Type}{t:Sem α}{Q Q':α->Shared->Prop}(h:wpAny M A t Q E s)(hQ:∀ a s,Q a s->Q' a s):wpAny M A t Q' E s:=wpAny_mono h hQ λ_ _ x=>x
variable {Q:MC}{Y:MD}{U:St}{c:Expr}
section
variable {X:Cx}
abbrev Kv (i:Nat):TE:=λU H Q=>∃ v,U[i]? =some (some v)/\Q v H
abbrev tC (v:V):TE:=λ_ H Q=>Q v H
def GH {pos:Pos}(hN:X.N[i]? =some x)(hv:IF X.env.scope x)(hd:(x ==("__debug__":Str))=false:=by decide) (hcd:(x ==("__classdict__":Str))=false:=by decide):PE X (.Name x pos) (Kv i):=by
 intro Y s U H Q I h;obtain ⟨v,e,h⟩:=h;obtain ⟨m,hn,hl⟩:=I.loc;obtain ⟨u,r,l⟩:=hl i x v hN e hv;have fin:EP X Y U Q u s:=⟨v,H,I,r,h⟩;rcases l with ⟨hk,hm⟩|⟨hk,c,hc,hcell⟩
 ·exact wpAny_Name (wpAny_loadName_local I.ok.kind hk hn hm fin) hd
 ·rcases hk with hk|hk
  ·exact wpAny_Name (wpAny_loadName_cell I.ok.kind hk hc hcell fin) hd
  ·exact wpAny_Name (wpAny_loadName_free I.ok.kind hk hc hcell fin hcd) hd
def Ej {i j pos}:PE X (.Constant (.int i) j pos) (tC (.int i)):=λ_ _ _ H _ I h=>wpAny_Constant_int ⟨.int i,H,I.tok _,⟨_,rfl⟩,h⟩
def HL {b j pos}:PE X (.Constant (.bool b) j pos) (tC (.bl b)):=λ_ _ _ H _ I h=>Constant_bool ⟨.bl b,H,I,rfl,h⟩
def FR {j pos}:PE X (.Constant .none j pos) (tC .non):=λ_ _ _ H _ I h=>Constant_none ⟨.non,H,I,rfl,h⟩
def xH {x j pos}:PE X (.Constant (.str x) j pos) (tC (.str x)):=λ_ _ _ H _ I h=>Calls.Constant_str ⟨.str x,H,I.tok _,⟨_,rfl⟩,h⟩
abbrev Gl (X:Cx)(x:Str):Prop:=X.env.kindOf x=some .globalImplicit
def bE {pos:Pos}(I:Inv X Y U H s)(hg:Gl X x)(hm:X.mg x=some u)(h:Q u s)
  (hd:(x ==("__debug__":Str))=false:=by decide):wpAny (model X.prog X.w) X.A (eval (.Name x pos) X.env) Q E s:=
 Calls.Name_function_global I.ok.kind hg (Calls.loadGlobal_global (by rw[I.ok.glob];exact I.mod.glob.keeps I.bk) hm h) hd
def dc {pos:Pos}(I:Inv X Y U H s)(hg:Gl X x)(hm:X.mg x=none)(hv:bootBuiltins x=some u)(h:Q u s)
  (hn:x≠"__name__":=by decide) (hd:(x ==("__debug__":Str))=false:=by decide):wpAny (model X.prog X.w) X.A (eval (.Name x pos) X.env) Q E s:=by
 obtain ⟨mb,h1,h2⟩:=I.mod.blt;exact Calls.Name_function_global I.ok.kind hg (Calls.loadGlobal_builtin (by rw[I.ok.glob];exact I.mod.glob.keeps I.bk) hm (by rw[I.ok.blt];exact h1.keeps I.bk) ((h2 x hn).trans hv) h) hd
def nB {pos:Pos}(hg:Gl X x)(hm:X.mg x=some u)(r:RelV v u)(hd:(x ==("__debug__":Str))=false:=by decide):PE X (.Name x pos) (tC v):=
 λ_ _ _ H _ I h=>bE I hg hm ⟨v,H,I,r,h⟩ hd
def CM {pos:Pos}(hg:Gl X x)(hm:X.mg x=none)(hv:bootBuiltins x=some u)(r:RelV v u)(hn:x≠"__name__":=by decide) (hd:(x ==("__debug__":Str))=false:=by decide):PE X (.Name x pos) (tC v):=
 λ_ _ _ H _ I h=>dc I hg hm hv ⟨v,H,I,r,h⟩ hn hd
variable {a b:Expr}{ta tb:TE}{pos:Pos}
variable {tA tB':TT}{rest:List Expr}
abbrev Ld (t u:TT):TT:=λU H Q=>t U H λc H1=>if c=true then u U H1 Q else Q false H1
abbrev L7 (t u:TT):TT:=λU H Q=>t U H λc H1=>if c=true then Q true H1 else u U H1 Q
abbrev J6 (t:TT):TT:=λU H Q=>t U H λc H1=>Q (!c) H1
def BX (ha:PT X a tA):PW X (.BoolOp .And [a] pos) tA:=by
 intro wh Y s U H Q I h;refine isTrue_and (az (ha Y s U H Q I h) λc s1 e=>?_);cases c with
 |true=>exact isTrue_and_nil e
 |false=>exact e
def Gm (ha:PT X a tA):PW X (.BoolOp .Or [a] pos) tA:=by
 intro wh Y s U H Q I h;refine isTrue_or (az (ha Y s U H Q I h) λc s1 e=>?_);cases c with
 |false=>exact isTrue_or_nil e
 |true=>exact e
def Gp (ha:PT X a tA)(hb:PW X (.BoolOp .And (b::rest) pos) tB'):PW X (.BoolOp .And (a::b::rest) pos) (Ld tA tB'):=by
 intro wh Y s U H Q I h;refine isTrue_and (az (ha Y s U H _ I h) λc s1 ⟨H1,I1,q1⟩=>?_);cases c with
 |true=>exact hb wh Y s1 U H1 Q I1 q1
 |false=>exact ⟨H1,I1,q1⟩
def HJ (ha:PT X a tA)(hb:PW X (.BoolOp .Or (b::rest) pos) tB'):PW X (.BoolOp .Or (a::b::rest) pos) (L7 tA tB'):=by
 intro wh Y s U H Q I h;refine isTrue_or (az (ha Y s U H _ I h) λc s1 ⟨H1,I1,q1⟩=>?_);cases c with
 |true=>exact ⟨H1,I1,q1⟩
 |false=>exact hb wh Y s1 U H1 Q I1 q1
def Fy (ha:PT X a tA):PT X (.UnaryOp .Not a pos) (J6 tA):=by
 intro Y s U H Q I h;exact isTrue_not (ha Y s U H (λc H1=>Q (!c) H1) I h)
abbrev Jf (ta tb:TE):TE:=λU H Q=>ta U H λx H1=>∃ c,x=.bl c/\if c=true then tb U H1 Q else Q (.bl false) H1
abbrev K1 (ta tb:TE):TE:=λU H Q=>ta U H λx H1=>∃ c,x=.bl c/\if c=true then Q (.bl true) H1 else tb U H1 Q
abbrev Ii (ta:TE):TE:=λU H Q=>ta U H λx H1=>∃ c,x=.bl c/\Q (.bl (!c)) H1
def xD {op}{t:TE}(h:PE X a t):PE X (.BoolOp op [a] pos) t:=λY s U H Q I hw=>BoolOp_one (h Y s U H Q I hw)
def FE (ha:PE X a ta)(hb:PE X (.BoolOp .And (b::rest) pos) tb):PE X (.BoolOp .And (a::b::rest) pos) (Jf ta tb):=by
 intro Y s U H Q I h;refine BoolOp_and (az (ha Y s U H _ I h) λv s1 ⟨x,H1,I1,r1,q1⟩=>?_);obtain ⟨c,rfl,q1⟩:=q1;cases r1;refine wpAny_truthy_bool ?_;cases c with
 |true=>exact hb Y s1 U H1 Q I1 q1
 |false=>exact ⟨.bl false,H1,I1,rfl,q1⟩
def Jg (ha:PE X a ta)(hb:PE X (.BoolOp .Or (b::rest) pos) tb):PE X (.BoolOp .Or (a::b::rest) pos) (K1 ta tb):=by
 intro Y s U H Q I h;refine BoolOp_or (az (ha Y s U H _ I h) λv s1 ⟨x,H1,I1,r1,q1⟩=>?_);obtain ⟨c,rfl,q1⟩:=q1;cases r1;refine wpAny_truthy_bool ?_;cases c with
 |false=>exact hb Y s1 U H1 Q I1 q1
 |true=>exact ⟨.bl true,H1,I1,rfl,q1⟩
def FV (ha:PE X a ta):PE X (.UnaryOp .Not a pos) (Ii ta):=by
 intro Y s U H Q I h;refine UnaryOp_ (az (ha Y s U H _ I h) λv s1 ⟨x,H1,I1,r1,q1⟩=>?_);obtain ⟨c,rfl,q1⟩:=q1;cases r1;exact not_of (wpAny_truthy_bool ⟨.bl (!c),H1,I1,rfl,q1⟩)
abbrev Ma (t:TT)(ta tb:TE):TE:=λU H Q=>t U H λc H1=>if c=true then ta U H1 Q else tb U H1 Q
def y8 (hc:PT X c tA)(ha:PE X a ta)(hb:PE X b tb):PE X (.IfExp c a b pos) (Ma tA ta tb):=by
 intro Y s U H Q I h;refine wpAny_IfExp (az (hc Y s U H _ I h) λd s1 ⟨H1,I1,q1⟩=>?_);cases d with
 |true=>exact ha Y s1 U H1 Q I1 q1
 |false=>exact hb Y s1 U H1 Q I1 q1
end
abbrev aS (K:W.Frag)(H:Hp)(a:Addr)(xs:List V):Prop:=
 Rd H a (.lst xs)\/
  ∃ (o:Obj) (its:Array Value) (n:Nat),K.lookup a=some o/\o.cls=.type "list"/\o.dict=none/\o.data=.seq its n/\its.size<=sizeLine/\Vals xs its.toList
abbrev aZ (K:W.Frag)(H:Hp)(a:Addr)(xs:List V):Prop:=
 Rd H a (.tup xs)\/
  ∃ (o:Obj) (its:Array Value) (n:Nat),K.lookup a=some o/\o.cls=.type "tuple"/\o.data=.seq its n/\its.size<=sizeLine/\Vals xs its.toList
abbrev Kz:Value->Option V
 | .none=>some .non
 | .bool b=>some (.bl b)
 | .int i _=>some (.int i)
 | .str x _=>some (.str x)
 | .bytes b _=>some (.byt b)
 | .float b _=>some (.flt b)
 | .ref a=>some (.ref a)
 | .type n=>some (.ty n)
 |_=>none
def RelV.abs {x:V}(r:RelV x u):Kz u=some x:=by
 cases x with
 |non=>cases r;rfl
 |bl _=>cases r;rfl
 |int _=>obtain ⟨t,rfl⟩:=r;rfl
 |str _=>obtain ⟨t,rfl⟩:=r;rfl
 |byt _=>obtain ⟨t,rfl⟩:=r;rfl
 |flt _=>obtain ⟨t,rfl⟩:=r;rfl
 |ref _=>cases r;rfl
 |ty _=>cases r;rfl
def RelV.inj {x y:V}(r:RelV x u)(q:RelV y u):x=y:=Option.some.inj (r.abs.symm.trans q.abs)
def Vals.inj:∀ {xs ys:List V}{us:List Value},Vals xs us->Vals ys us->xs=ys
 |_,_,_,.nil,.nil=>rfl
 |_,_,_,.cons r t,.cons r' t'=>by rw[r.inj r',Vals.inj t t']
section
variable {X:Cx}{Y:MD}{U:St}{H:Hp}{s:Shared}{a:Addr}{xs ys:List V}
def aS.of {K:W.Frag}(h:H a=some (.lst xs)):aS K H a xs:=.inl (.inl h)
def aZ.of {K:W.Frag}(h:H a=some (.tup xs)):aZ K H a xs:=.inl (.inl h)
def Inv.list (I:Inv X Y U H s)(h:aS X.K H a xs):∃ its:List Value,Vals xs its/\PlainL s.heap a its.toArray/\xs.length<=sizeLine:=by
 rcases h with h|⟨o,its,n,hk,hc,hd,hs,hz,r⟩
 ·obtain ⟨z,its,n,r,e⟩:=h.ok I.hok;exact ⟨its,r,⟨_,n,e,rfl,rfl,rfl⟩,z⟩
 ·refine ⟨its.toList,r,⟨o,n,I.bQ a o hk,hc,hd,by simpa using hs⟩,?_⟩;have e:=r.length;simp only[Array.length_toList] at e
  omega
def Inv.tuple (I:Inv X Y U H s)(h:aZ X.K H a xs):∃ its:List Value,Vals xs its/\IsTup s.heap a its.toArray/\xs.length<=sizeLine:=by
 rcases h with h|⟨o,its,n,hk,hc,hs,hz,r⟩
 ·obtain ⟨z,its,r,p⟩:=h.ok I.hok;exact ⟨its,r,p,z⟩
 ·refine ⟨its.toList,r,⟨o,I.bQ a o hk,hc,n,by simpa using hs⟩,?_⟩;have e:=r.length;simp only[Array.length_toList] at e
  omega
def Inv.kE (I:Inv X Y U H s)(h:aS X.K H a xs)(h':aS X.K H a ys):xs=ys:=by
 obtain ⟨its,r,⟨o,n,e,_,_,d⟩,_⟩:=I.list h;obtain ⟨its',r',⟨o',n',e',_,_,d'⟩,_⟩:=I.list h';rw[e] at e';cases e';rw[d] at d'
 injection d' with d1 _
 have:its=its':=by simpa using congrArg Array.toList d1
 subst this;exact r.inj r'
def Inv.iN (I:Inv X Y U H s)(h:aZ X.K H a xs)(h':aZ X.K H a ys):xs=ys:=by
 obtain ⟨its,r,⟨o,e,_,n,d⟩,_⟩:=I.tuple h;obtain ⟨its',r',⟨o',e',_,n',d'⟩,_⟩:=I.tuple h';rw[e] at e';cases e';rw[d] at d'
 injection d' with d1 _
 have:its=its':=by simpa using congrArg Array.toList d1
 subst this;exact r.inj r'
end
section
variable {X:Cx}{Y:MD}{U:St}{H:Hp}{s:Shared}{E:MC}
end
section
variable {X:Cx}{st:Stmt}{rest:List Stmt}{t u:TS}{e:Expr}{te:TE}{pos:Pos}
abbrev IE:TS:=λD U H=>D.nx U H
abbrev K7 (t u:TS):TS:=λD U H=>t { D with nx:=u D } U H
def BR:A4 X [] IE:=λ_ _ U H _ I h=>wpAny_execs_nil ⟨U,H,I,h⟩
def zk (h1:PS X st t)(h2:A4 X rest u):A4 X (st::rest) (K7 t u):=by
 intro Y s U H D I h;refine wpAny_execs_cons (az (h1 Y s U H { D with nx:=u D } I h) λf s1 q=>?_);cases f with
 |next=>
  obtain ⟨σ',H',I',q⟩:=q;exact h2 Y s1 σ' H' D I' q
 |ret v=>exact q
 |brk=>exact q
 |cont=>exact q
def Inv.quiet (I:Inv X Y U H s):interactive X.env=false:=by simp[interactive,I.ok.kind]
abbrev Hi (te:TE):TS:=λD U H=>te U H λ_ H1=>D.nx U H1
def AV (he:PE X e te)(hs:swapsWith e none pos.line X.env=pure false:=by rfl):PS X (.Expr e pos) (Hi te):=by
 intro Y s U H D I h;exact wpAny_Expr_any (az (he Y s U H _ I h) λv s1 ⟨x,H1,I1,r1,q1⟩=>⟨U,H1,I1,q1⟩) I.quiet hs
abbrev Kx (te:TE):TS:=λD U H=>te U H D.rt
def EM (he:PE X e te):PS X (.Return (some e) pos) (Kx te):=by
 intro Y s U H D I h;exact wpAny_Return_some (az (he Y s U H _ I h) λv s1 ⟨x,H1,I1,r1,q1⟩=>⟨x,U,H1,I1,r1,q1⟩)
abbrev Kh (c:TT)(t u:TS):TS:=λD U H=>c U H λb H1=>if b=true then t D U H1 else u D U H1
def IJ {a b:List Stmt}{tc:TT}(hc:PT X c tc)(ha:A4 X a t)(hb:A4 X b u):PS X (.If c a b pos) (Kh tc t u):=by
 intro Y s U H D I h;refine wpAny_If (az (hc Y s U H _ I h) λd s1 ⟨H1,I1,q1⟩=>?_);cases d with
 |true=>exact ha Y s1 U H1 D I1 q1
 |false=>exact hb Y s1 U H1 D I1 q1
end
@[reducible]def TG:=V->St->Hp->(St->Hp->Prop)->Prop
@[reducible]def B9:=List V->St->Hp->(St->Hp->Prop)->Prop
abbrev PG (X:Cx)(target:Expr)(t:TG):Prop:=
 ∀ (Y:MD) (s:Shared) (U:St) (H:Hp) (v:V) (u:Value) (Q:St->Hp->Prop),Inv X Y U H s->RelV v u->t v U H Q->
  wpAny (model X.prog X.w) X.A (assign target X.env u) (λ_ s'=>∃ σ' H',Inv X Y σ' H' s'/\Q σ' H') X.xe s
abbrev Gn (X:Cx)(ts:List Expr)(t:B9):Prop:=
 ∀ (Y:MD) (s:Shared) (U:St) (H:Hp) (vs:List V) (us:List Value) (Q:St->Hp->Prop),Inv X Y U H s->Vals vs us->t vs U H Q->
  wpAny (model X.prog X.w) X.A (assignInOrder ((assignEach ts X.env).map (·.2)) us) (λ_ s'=>∃ σ' H',Inv X Y σ' H' s'/\Q σ' H') X.xe s
@[reducible]def vA:=V->V->V->Hp->(Hp->Prop)->Prop
abbrev CI (X:Cx)(t:vA):Prop:=
 ∀ (Y:MD) (s:Shared) (U:St) (H:Hp) (o i v:V) (ov iv u:Value) (Q:Hp->Prop),Inv X Y U H s->RelV o ov->RelV i iv->RelV v u->t o i v H Q->
  wpAny (model X.prog X.w) X.A (setItem ov iv u) (λ_ s'=>∃ H',Inv X Y U H' s'/\Q H') X.xe s
@[reducible]def GZ:=V->V->Hp->VK->Prop
abbrev He (X:Cx)(op:Operator)(t:GZ):Prop:=
 ∀ (Y:MD) (s:Shared) (U:St) (H:Hp) (x y:V) (v u:Value) (Q:VK),Inv X Y U H s->RelV x v->RelV y u->t x y H Q->
  wpAny (model X.prog X.w) X.A (inplaceOp op v u) (EP X Y U Q) X.xe s
variable {es:List Expr}{k:Nat}{tg:Expr}{te:TE}{pos':Pos}{op:Operator}
section
variable {X:Cx}{pos:Pos}
abbrev gA (i:Nat):TG:=λv U H Q=>Q (U.set i (some v)) H
def gJ (hN:X.N.Nodup)(hi:X.N[i]? =some x)(hx:Loc X.env.scope x)(hf:X.fn x=true\/X.env.scope.names.lookup x=some .local:=by first|exact .inl rfl|exact .inr rfl|assumption):PG X (.Name x pos) (gA i):=by
 intro Y s U H v u Q I r h;exact wpAny_assign_Name (bj I hN hi hx r (λs' I'=>⟨_,H,I',h⟩) hf)
abbrev Kc:B9:=λvs U H Q=>vs=[]/\Q U H
abbrev Je (t:TG)(u:B9):B9:=λvs U H Q=>∃ v r,vs=v::r/\t v U H λσ' H'=>u r σ' H' Q
def nU:Gn X [] Kc:=by
 intro Y s U H vs us Q I r h;obtain ⟨e,h⟩:=h;subst e;cases r;exact assignInOrder_nil ⟨U,H,I,h⟩
def gT {t:TG}{u:B9}(h1:PG X e t)(h2:Gn X es u)
  (hs:(assignEach (e::es) X.env).map (·.2)=assign e X.env::(assignEach es X.env).map (·.2):=by rfl):Gn X (e::es) (Je t u):=by
 intro Y s U H vs us Q I r h;obtain ⟨v,vr,e1,h⟩:=h;subst e1;cases r with
 |cons r rr=>
  rw[hs];refine assignInOrder_cons (az (h1 Y s U H _ _ _ I r h) λ_ s1 ⟨σ1,H1,I1,q1⟩=>?_);exact h2 Y s1 σ1 H1 _ _ Q I1 rr q1
abbrev Bq (K:W.Frag)(n:Nat)(t:B9):TG:=λv U H Q=>∃ a xs,v=.ref a/\aZ K H a xs/\xs.length=n/\t xs U H Q
def pC {t:B9}{n:Nat}(hc:X.calm=true)(h:Gn X es t)
  (hn:(assignEach es X.env).length=n:=by rfl) (hst:(assignEach es X.env).findIdx? (·.1)=none:=by rfl):PG X (.Tuple es k pos) (Bq X.K n t):=by
 intro Y s U H v u Q I r hw;obtain ⟨a,xs,e1,hq,hl,hw⟩:=hw;subst e1;cases r;obtain ⟨its,rv,ht,hz⟩:=I.tuple hq;refine assign_Tuple_tuple (I.ok.hd hc) ht (by simp[hn,<-hl,rv.length]) hst λh' hx=>?_
 have I1:Inv X Y U H { s with heap:=h' }:=I.kept (t':=s.toks) λb o e=>hx b o (Nat.ne_of_lt (Heap.lt_size e)) e
 exact h Y _ U H xs _ Q I1 (by simpa using rv) hw
abbrev Lh (to ti:TE)(t:vA):TG:=λv U H Q=>to U H λo H1=>ti U H1 λi H2=>t o i v H2 λH3=>Q U H3
def Ga {o i:Expr}{to ti:TE}{t:vA}(ho:PE X o to)(hi:PE X i ti)(hs:CI X t)
  (ha:∀ v,assign (.Subscript o i pos) X.env v=(do
   let ov <-holding [v] (eval o X.env)
   let iv <-holding [v,ov] (eval i X.env)
   standAt pos
   holding [v,ov,iv] (setItem ov iv v)
   release [v,ov,iv] []):=by intro _;rfl):PG X (.Subscript o i pos) (Lh to ti t):=by
 intro Y s U H v u Q I r h;rw[ha];refine wpAny_bind (wpAny_holding (az (ho Y s U H _ I h) λov s1 ⟨x,H1,I1,r1,q1⟩=>?_));refine wpAny_bind (wpAny_holding (az (hi Y s1 U H1 _ I1 q1) λiv s2 ⟨y,H2,I2,r2,q2⟩=>?_));refine wpAny_bind (wpAny_standAt (wpAny_bind (wpAny_holding (az (hs Y s2 U H2 x y v ov iv u _ I2 r1 r2 r q2) λ_ s3 ⟨H3,I3,q3⟩=>?_))));exact wpAny_release ⟨U,H3,I3,q3⟩
abbrev HV (te:TE)(g:TG):TS:=λD U H=>te U H λx H1=>g x U H1 D.nx
def xX {g:TG}(he:PE X e te)(hg:PG X tg g)(hs:swapsWithSole [tg] e pos.line X.env=pure false:=by rfl) (hw:swappedStores [tg] e X.env=pure none:=by rfl)
  (h1:(assignEach [tg] X.env).map (·.2)=[assign tg X.env]:=by rfl):PS X (.Assign [tg] e pos) (HV te g):=by
 intro Y s U H D I h;refine wpAny_Assign_stores (az (he Y s U H _ I h) λv s1 ⟨x,H1,I1,r1,q1⟩=>?_) hs hw;rw[h1];exact az (hg Y s1 U H1 x v _ I1 r1 q1) λ_ s2 q=>q
def As (hN:X.N.Nodup)(hi:X.N[i]? =some x)(hx:Loc X.env.scope x)(he:PE X e te)(hs:swapsWith e (some (.Name x pos')) pos.line X.env=pure false:=by rfl) (hf:X.fn x=true\/X.env.scope.names.lookup x=some .local:=by first|exact .inl rfl|exact .inr rfl|assumption):
  PS X (.Assign [.Name x pos'] e pos) (HV te (gA i)):=by
 intro Y s U H D I h;refine wpAny_Assign_Name (az (he Y s U H _ I h) λv s1 ⟨y,H1,I1,r1,q1⟩=>?_) hs;exact bj I1 hN hi hx r1 (λs2 I2=>⟨_,H1,I2,q1⟩) hf
abbrev Kb (i:Nat)(te:TE)(ti:GZ):TS:=λD U H=>∃ x,U[i]? =some (some x)/\te U H λy H1=>ti x y H1 λz H2=>D.nx (U.set i (some z)) H2
def Fh {ti:GZ}(hN:X.N.Nodup)(hi:X.N[i]? =some x)(hx:Loc X.env.scope x)(he:PE X e te)(ho:He X op ti)(hf:X.fn x=true\/X.env.scope.names.lookup x=some .local:=by first|exact .inl rfl|exact .inr rfl|assumption):
  PS X (.AugAssign (.Name x pos') op e pos) (Kb i te ti):=by
 intro Y s U H D I h;obtain ⟨v,e1,h⟩:=h;obtain ⟨m,hn,hl⟩:=I.loc;have GC:IF X.env.scope x:=by rcases hx with k|k;exact .inl k;exact .inr (.inl k)
 obtain ⟨u,r,l⟩:=hl i x v hi e1 GC;refine wpAny_AugAssign_Name ?_;have go:wpAny (model X.prog X.w) X.A (eval e X.env) (λw s₂=>wpAny (model X.prog X.w) X.A (inplaceOp op u w) (λr s₃=>wpAny (model X.prog X.w) X.A (storeName X.env x r) (λ_=>SP X Y D .next) X.xe s₃) X.xe s₂) X.xe s:=by
  refine az (he Y s U H _ I h) λw s1 ⟨y,H1,I1,r1,q1⟩=>?_
  refine az (ho Y s1 U H1 v y u w _ I1 r r1 q1) λz s2 ⟨zv,H2,I2,r2,q2⟩=>?_
  exact bj I2 hN hi hx r2 (λs3 I3=>⟨_,H2,I3,q2⟩) hf
 rcases l with ⟨hk,hm⟩|⟨hk,c,hc,hcell⟩
 ·exact wpAny_loadName_local I.ok.kind hk hn hm go
 ·rcases hk with hk|hk
  ·exact wpAny_loadName_cell I.ok.kind hk hc hcell go
  ·rcases hx with k|k
   ·have:X.env.scope.names.lookup x=some .free:=hk;rw[k] at this;cases this
   ·have:X.env.scope.names.lookup x=some .free:=hk;rw[k] at this;cases this
abbrev Hf (to ti te:TE)(tget:V->V->Hp->VK->Prop)(tip:GZ)(tset:vA):TS:=λD U H=>to U H λo H1=>ti U H1 λi H2=>tget o i H2 λx H3=>te U H3 λy H4=>tip x y H4 λz H5=>tset o i z H5 λH6=>D.nx U H6
abbrev EH (X:Cx)(t:V->V->Hp->VK->Prop):Prop:=
 ∀ (Y:MD) (s:Shared) (U:St) (H:Hp) (o i:V) (ov iv:Value) (Q:VK),Inv X Y U H s->RelV o ov->RelV i iv->t o i H Q->
  wpAny (model X.prog X.w) X.A (getItem ov iv) (EP X Y U Q) X.xe s
def C4 {o i:Expr}{to ti:TE}{tget:V->V->Hp->VK->Prop}{tip:GZ}{tset:vA}{tpos:Pos}(ho:PE X o to)(hi:PE X i ti)(hg:EH X tget)(he:PE X e te)(hp:He X op tip)(hs:CI X tset)
  (ha:∀ ov iv new,augStore i ov iv new=(do holding [new,ov,iv] (setItem ov iv new);release [new,ov,iv] [];pure .next):=by intros;rfl):PS X (.AugAssign (.Subscript o i tpos) op e pos) (Hf to ti te tget tip tset):=by
 intro Y s U H D I h;refine wpAny_AugAssign_SubscriptAny (az (ho Y s U H _ I h) λov s1 ⟨x1,H1,I1,r1,q1⟩=>?_) ha;refine az (hi Y s1 U H1 _ I1 q1) λiv s2 ⟨x2,H2,I2,r2,q2⟩=>?_
 refine az (hg Y s2 U H2 x1 x2 ov iv _ I2 r1 r2 q2) λold s3 ⟨x3,H3,I3,r3,q3⟩=>?_
 refine az (he Y s3 U H3 _ I3 q3) λv s4 ⟨x4,H4,I4,r4,q4⟩=>?_
 refine az (hp Y s4 U H4 x3 x4 old v _ I4 r3 r4 q4) λnew s5 ⟨x5,H5,I5,r5,q5⟩=>?_
 exact az (hs Y s5 U H5 x1 x2 x5 ov iv new _ I5 r1 r2 r5 q5) λ_ s6 ⟨H6,I6,q6⟩=>⟨U,H6,I6,q6⟩
abbrev Lz (f:Int->Int->Int):GZ:=λx y H Q=>∃ i j,x=.int i/\y=.int j/\Q (.int (f i j)) H
def EX:He X .Add (Lz λi j=>i+j):=by
 intro Y s U H x y v u Q I r1 r2 h;obtain ⟨i,j,e1,e2,q⟩:=h;subst e1;subst e2;obtain ⟨t,rfl⟩:=r1;obtain ⟨t',rfl⟩:=r2;exact iadd_int ⟨.int _,H,I.tok _,⟨_,rfl⟩,q⟩
def Ef:He X .Sub (Lz λi j=>i-j):=by
 intro Y s U H x y v u Q I r1 r2 h;obtain ⟨i,j,e1,e2,q⟩:=h;subst e1;subst e2;obtain ⟨t,rfl⟩:=r1;obtain ⟨t',rfl⟩:=r2;exact isub_int ⟨.int _,H,I.tok _,⟨_,rfl⟩,q⟩
end
variable {body:List Stmt}
section
variable {X:Cx}{pos:Pos}
abbrev Eu (c:TT)(tb:TS):TS:=λD U H=>∃ W:Nat->St->Hp->Prop,(∃ m,W m U H)/\∀ m U H,W m U H->
 c U H λb H1=>if b=true then ∃ N:St->Hp->Prop,(∀ σ' H',N σ' H'->∃ m',m'<m/\W m' σ' H')/\tb { D with nx:=N,ct:=N,bk:=D.nx } U H1 else D.nx U H1
def zR {tc:TT}{tb:TS}(hp:PassesOwn (model X.prog X.w) X.A X.env X.xe)(hc:PT X c tc)(hb:A4 X body tb):PS X (.While c body [] pos) (Eu tc tb):=by
 intro Y s U H D I h;obtain ⟨W,⟨m0,w0⟩,turn⟩:=h;refine wpAny_While (codeAny_whileLoop (λn s'=>∃ σ' H',Inv X Y σ' H' s'/\W n σ' H') ?_ m0 ⟨U,H,I,w0⟩);rintro n s1 ⟨σ1,H1,I1,w1⟩;refine wpAny_passesOwn hp (az (hc Y s1 σ1 H1 _ I1 (turn n σ1 H1 w1)) λb s2 ⟨H2,I2,q2⟩=>?_);cases b with
 |true=>
  obtain ⟨N,hN,q2⟩:=q2;rw[if_pos rfl];refine wpAny_passesOwn hp (az (hb Y s2 σ1 H2 _ I2 q2) λf s3 q3=>?_);cases f with
  |next=>
   obtain ⟨σ3,H3,I3,n3⟩:=q3;obtain ⟨m',hm,w3⟩:=hN σ3 H3 n3;exact ⟨m',hm,σ3,H3,I3,w3⟩
  |cont=>
   obtain ⟨σ3,H3,I3,n3⟩:=q3;obtain ⟨m',hm,w3⟩:=hN σ3 H3 n3;exact ⟨m',hm,σ3,H3,I3,w3⟩
  |brk=>exact q3
  |ret v=>exact q3
 |false=>
  rw[if_neg Bool.false_ne_true];exact wpAny_execs_nil ⟨σ1,H2,I2,q2⟩
end
structure It where
 go:Nat->Hp->Prop
 yld:Nat->Hp->V->Hp->Prop
 stop:Nat->Hp->Prop
abbrev iQ (X:Cx)(Y:MD)(H:Hp)(b:Addr):Prop:=
 H b=none/\b≠X.env.locals/\b ∉ X.fs/\(b ∈ X.ex\/X.s₀.heap.objs.size<=b)/\(∀ x c,X.env.cells.lookup x=some c->c≠b)/\∀ p ∈ X.pn++Y,p.1≠b
def Inv.xN {X:Cx}{H':Hp}(I:Inv X Y U H s)(hb:s.heap.objs.size<=b)(hn:H' b=none):iQ X Y H' b:=by
 refine ⟨hn,Nat.ne_of_gt (Nat.lt_of_lt_of_le I.lt hb),I.KD hb,.inr (Nat.le_trans I.sz hb),λx c e z=>?_,λp hp z=>?_⟩
 ·obtain ⟨v,q⟩:=I.cell x c e;exact absurd (Nat.lt_of_lt_of_le q.lt (by rw[z];exact hb)) (Nat.lt_irrefl _)
 ·exact absurd (Nat.lt_of_lt_of_le (Heap.lt_size (I.pin p hp).1) (by rw[z];exact hb)) (Nat.lt_irrefl _)
structure Turn (P:Program) (w:World) (K:W.Frag) (tg:Expr) (J:It) (fp:List Addr) (it:Addr) (tn:Nat->Heap->Prop):Prop where
 mem:it ∈ fp
 obj:∀ i h,tn i h->∀ b ∈ fp,∃ o,h.get? b=some o/\∀ v,o.data≠.cell v
 keep:∀ i h h',tn i h->(∀ b ∈ fp,∀ o,h.get? b=some o->h'.get? b=some o)->tn i h'
 item:∀ (X:Cx),X.prog=P->X.w=w->X.K=K->X.calm=true->∀ (i:Nat) (Y:MD) (s:Shared) (U:St) (H:Hp) (E:MC),Inv X Y U H s->(∀ b ∈ fp,iQ X Y H b)->tn i s.heap->J.go i H->
  wpAny (model P w) X.A (pyNext (.ref it)) (λr s1=>∃ u,r=some u/\
   wpAny (model P w) X.A (letOwnedTupleGo tg (.ref it) u) (λ_ s2=>∃ x H',Inv X Y U H' s2/\RelV x u/\J.yld i H x H'/\tn (i+1) s2.heap/\∀ b ∈ fp,H' b=none) E s1) E s
 done:∀ (X:Cx),X.prog=P->X.w=w->X.K=K->X.calm=true->∀ (i:Nat) (Y:MD) (s:Shared) (U:St) (H:Hp) (E:MC),Inv X Y U H s->(∀ b ∈ fp,iQ X Y H b)->tn i s.heap->J.stop i H->
  wpAny (model P w) X.A (pyNext (.ref it)) (λr s1=>r=none/\Inv X Y U H s1) E s
 self:∀ (A:Around) (i:Nat) (s:Shared) (Q:MC) (E:MC),tn i s.heap->Q (.ref it) s->wpAny (model P w) A (pyIter (.ref it)) Q E s
@[reducible]def TI:=St->Hp->(It->Hp->Prop)->Prop
abbrev JK (X:Cx)(Y:MD)(U:St)(tg:Expr)(R:It->Hp->Prop)(itv:Value)(s2:Shared):Prop:=
 ∃ (it:Addr) (fp:List Addr) (tn:Nat->Heap->Prop) (J:It) (H':Hp),itv=.ref it/\Inv X Y U H' s2/\Turn X.prog X.w X.K tg J fp it tn/\tn 0 s2.heap/\(∀ b ∈ fp,iQ X Y H' b)/\R J H'
abbrev PI (X:Cx)(tg iter:Expr)(wi:TI):Prop:=
 ∀ (Y:MD) (s:Shared) (U:St) (H:Hp) (R:It->Hp->Prop),Inv X Y U H s->wi U H R->
  wpAny (model X.prog X.w) X.A (eval iter X.env) (λv s1=>wpAny (model X.prog X.w) X.A (pyIter v) (JK X Y U tg R) X.xe s1) X.xe s
def zK {it:Addr}{o:Obj}{n:String}{vs:Array Value}{Q:MB}(ho:s.heap.get? it=some o)(hc:o.cls=.type n)(hd:o.data=.fields vs)
  (hn:["enumerate","zip","dict_itemiterator","dict_reverseitemiterator","odict_iterator","itertools.zip_longest","itertools.pairwise"].contains n=false) (hQ:Q () s):wpAny M A (letOwnedTupleGo tg (.ref it) u) Q E s:=by
 unfold letOwnedTupleGo;cases tg<;>first
  |exact wpAny_pure hQ
  |(cases u<;>first
    |exact wpAny_pure hQ
    |(refine wpAny_bind (wpAny_load ho ?_)
      rw[hc,hd];show wpAny M A (if (["enumerate","zip","dict_itemiterator","dict_reverseitemiterator","odict_iterator","itertools.zip_longest","itertools.pairwise"].contains n&&vs[0]? ==some (rawInt _))=true then _ else _) Q E s;rw[if_neg (by intro h;rw[hn,Bool.false_and] at h;cases h)];exact wpAny_pure hQ))
abbrev G9 (K:W.Frag)(a:Addr):It:=
 ⟨λi H=>∃ xs x,aS K H a xs/\xs[i]? =some x,λi H x H'=>H'=H/\∀ xs,aS K H a xs->xs[i]? =some x,λi H=>∃ xs,aS K H a xs/\xs.length<=i⟩
abbrev HH (K:W.Frag)(a:Addr):It:=
 ⟨λi H=>∃ xs x,aZ K H a xs/\xs[i]? =some x,λi H x H'=>H'=H/\∀ xs,aZ K H a xs->xs[i]? =some x,λi H=>∃ xs,aZ K H a xs/\xs.length<=i⟩
abbrev GO (lo:Int)(n:Nat):It:=⟨λi _=>i<n,λi H x H'=>H'=H/\x=.int (lo+i),λi _=>n<=i⟩
def vL {K:W.Frag}(a it:Addr):Turn P w K tg (G9 K a) [it] it (λi h=>h.IsListIter it a i) where
 mem:=by simp
 obj:=λi h st b hb=>by
  have e:b=it:=by simpa using hb
  subst e;obtain ⟨o,e,c,d⟩:=st;exact ⟨o,e,λv z=>by rw[d] at z;cases z⟩
 keep:=λi h h' st k=>st.at λo e=>k it (by simp) o e
 item:=by
  intro X hP hw hK hc i Y s U H E I hf st hg;subst hP hw hK;obtain ⟨xs,x,hq,hx⟩:=hg;obtain ⟨its,rv,p,hz⟩:=I.list hq;obtain ⟨u,hu,ru⟩:=rv.get hx;obtain ⟨f0,f1,f2,f3,f4,f5⟩:=hf it (by simp);refine wpAny_pyNext_list_item st p.isList (x:=u) (by simpa using hu) λh' st' sb=>?_
  have I1:Inv X Y U H { s with heap:=h' }:=I.turned (t':=s.toks) (λb o hb e=>(sb.2 b hb).trans e) f0 f1 f3 f4 f5;obtain ⟨o,e,c,d⟩:=id st';exact ⟨u,rfl,zK (s:={ s with heap:=h' }) e c d (by decide) ⟨x,H,I1,ru,⟨rfl,λys hy=>by rw[I.kE hy hq];exact hx⟩,st',λb hb=>(hf b hb).1⟩⟩
 done:=by
  intro X hP hw hK hc i Y s U H E I hf st hg;subst hP hw hK;obtain ⟨xs,hq,hx⟩:=hg;obtain ⟨its,rv,p,hz⟩:=I.list hq;obtain ⟨f0,f1,f2,f3,f4,f5⟩:=hf it (by simp);have hl:=rv.length;exact wpAny_pyNext_list_end (I.ok.hd hc) st p.isList (by simp;omega) λh' eb=>⟨rfl,I.turned (t':=s.toks) (λb o hb e=>eb b o hb e) f0 f1 f3 f4 f5⟩
 self:=λ_ _ _ _ _ st h=>wpAny_pyIter_listiter st h
def tN {K:W.Frag}(a it:Addr):Turn P w K tg (HH K a) [it] it (λi h=>h.IsTupleIter it a i) where
 mem:=by simp
 obj:=λi h st b hb=>by
  have e:b=it:=by simpa using hb
  subst e;obtain ⟨o,e,c,d⟩:=st;exact ⟨o,e,λv z=>by rw[d] at z;cases z⟩
 keep:=λi h h' st k=>st.at λo e=>k it (by simp) o e
 item:=by
  intro X hP hw hK hc i Y s U H E I hf st hg;subst hP hw hK;obtain ⟨xs,x,hq,hx⟩:=hg;obtain ⟨its,rv,p,hz⟩:=I.tuple hq;obtain ⟨u,hu,ru⟩:=rv.get hx;obtain ⟨f0,f1,f2,f3,f4,f5⟩:=hf it (by simp);refine wpAny_pyNext_tuple_item st (show s.heap.IsTuple a its.toArray from p) (x:=u) (by simpa using hu) λh' st' sb=>?_
  have I1:Inv X Y U H { s with heap:=h' }:=I.turned (t':=s.toks) (λb o hb e=>(sb.2 b hb).trans e) f0 f1 f3 f4 f5;obtain ⟨o,e,c,d⟩:=id st';exact ⟨u,rfl,zK (s:={ s with heap:=h' }) e c d (by decide) ⟨x,H,I1,ru,⟨rfl,λys hy=>by rw[I.iN hy hq];exact hx⟩,st',λb hb=>(hf b hb).1⟩⟩
 done:=by
  intro X hP hw hK hc i Y s U H E I hf st hg;subst hP hw hK;obtain ⟨xs,hq,hx⟩:=hg;obtain ⟨its,rv,p,hz⟩:=I.tuple hq;obtain ⟨f0,f1,f2,f3,f4,f5⟩:=hf it (by simp);have hl:=rv.length;exact wpAny_pyNext_tuple_end (I.ok.hd hc) st (show s.heap.IsTuple a its.toArray from p) (by simp;omega) λh' eb=>⟨rfl,I.turned (t':=s.toks) (λb o hb e=>eb b o hb e) f0 f1 f3 f4 f5⟩
 self:=λ_ _ _ _ _ st h=>wpAny_pyIter_tupleiter st h
def sL {K:W.Frag}(it:Addr)(lo:Int)(n:Nat):Turn P w K tg (GO lo n) [it] it (λi h=>IsRangeIter h it (lo+(i:Nat)*1) ((n:Int)-(i:Nat)) 1) where
 mem:=by simp
 obj:=λi h st b hb=>by
  have e:b=it:=by simpa using hb
  subst e;exact ⟨_,st,λv z=>by
   have z':Data.fields _=Data.cell v:=z;cases z'⟩
 keep:=λi h h' st k=>k it (by simp) _ st
 item:=by
  intro X hP hw hK hc i Y s U H E I hf st hg;subst hP hw hK;obtain ⟨f0,f1,f2,f3,f4,f5⟩:=hf it (by simp);have W:=Walks.range (prog:=X.prog) (w:=X.w) (I.ok.hd hc) it lo 1 n;refine W.item i s _ _ hg st λv h' tk hv st' kk=>?_
  obtain ⟨t,rfl⟩:=hv;have I1:Inv X Y U H { s with heap:=h',toks:=tk }:=I.turned (λb o hb e=>kk b o (by simpa using hb) e) f0 f1 f3 f4 f5;refine ⟨_,rfl,zK (s:={ s with heap:=h',toks:=tk }) (n:="range_iterator") st' rfl rfl (by decide) ⟨.int (lo+i),H,I1,⟨t,?_⟩,⟨rfl,rfl⟩,st',λb hb=>(hf b hb).1⟩⟩;rw[Int.mul_one]
 done:=by
  intro X hP hw hK hc i Y s U H E I hf st hg;subst hP hw hK;obtain ⟨f0,f1,f2,f3,f4,f5⟩:=hf it (by simp);exact wpAny_pyNext_range_end (I.ok.hd hc) st (by have:n<=i:=hg;omega) λh' eb=>⟨rfl,I.turned (t':=s.toks) (λb o hb e=>eb b o hb e) f0 f1 f3 f4 f5⟩
 self:=λ_ _ _ _ _ st h=>wpAny_pyIter_rangeiter st h
variable {pos:Pos}{fp:List Addr}
section
variable {X:Cx}{tg:Expr}
def yZ {R:It->Hp->Prop}{lo hi:Int}{t u v:Tok}{tk:Nat}(I:Inv X Y U H s)(h1: -(2 ^ 62)<=lo)(h2:lo<2 ^ 62)(h3: -(2 ^ 62)<=hi)(h4:hi<2 ^ 62)
  (q:R (GO lo (hi-lo).toNat) H):wpAny (model X.prog X.w) X.A (pyIter (.ref s.heap.objs.size)) (JK X Y U tg R) E { s with heap:=s.heap.push { cls:=.type "range",data:=.fields #[.int lo t,.int hi u,.int 1 v] },toks:=tk }:=by
 refine wpAny_pyIter_range (IsRange.new ..) (small_one h1 h2 h3 h4) ?_;have I1:Inv X Y U H { s with heap:=s.heap.push { cls:=.type "range",data:=.fields #[.int lo t,.int hi u,.int 1 v] },toks:=tk }:=I.kept λb o e=>Heap.get?_push_of_some _ e
 refine ⟨(s.heap.push { cls:=.type "range",data:=.fields #[.int lo t,.int hi u,.int 1 v] }).objs.size,[(s.heap.push { cls:=.type "range",data:=.fields #[.int lo t,.int hi u,.int 1 v] }).objs.size],_,_,H,rfl,
  I1.kept (t':=tk) λb o e=>Heap.get?_push_of_some _ e,sL _ lo (hi-lo).toNat,?_,λb hb=>?_,q⟩
 ·have e1:lo+((0:Nat):Int)*1=lo:=by simp
  have e2:(((hi-lo).toNat:Nat):Int)-((0:Nat):Int)=Builtin.Range.rangeSize lo hi 1:=by rw[rangeSize_one];split<;>omega
  show IsRangeIter _ _ (lo+((0:Nat):Int)*1) ((((hi-lo).toNat:Nat):Int)-((0:Nat):Int)) 1;rw[e1,e2];exact Heap.get?_push_size _ rfl
 ·have e:b=(s.heap.push { cls:=.type "range",data:=.fields #[.int lo t,.int hi u,.int 1 v] }).objs.size:=by simpa using hb
  subst e;exact I1.xN (Nat.le_refl _) (I1.hok.fresh (Nat.le_refl _))
abbrev Hd (ta:TA):TI:=λU H R=>ta U H λvs H1=>∃ j:Int,vs=[.int j]/\ -(2 ^ 62)<=j/\j<2 ^ 62/\R (GO 0 j.toNat) H1
def w8 {a:Expr}{ta:TA}{p:Pos}(hg:Gl X "range") (hm:X.mg "range"=none) (ha:PA X [a] ta) (hs:starEach [a] X.env=[(false,eval a X.env)]:=by rfl):PI X tg (.Call (.Name "range" p) [a] [] pos) (Hd ta):=by
 intro Y s U H R I h;refine Call_ (dc I hg hm boot_range (PyProof.Rows.callWith_type1 (az (ha pos Y s U H _ I h) λus s1 ⟨vs,H1,I1,r1,q1⟩=>?_) hs rfl));obtain ⟨j,e,q1,q2,q⟩:=q1;subst e;cases r1 with
 |cons r rr=>
  cases rr;obtain ⟨t,rfl⟩:=r;exact call_range_1 (yZ I1 nofun nofun q1 q2 (by simpa using q))
abbrev Km (wi:TI)(g:TG)(tb:TS):TS:=λD U H=>wi U H λJ H1=>∃ W:Nat->Nat->St->Hp->Prop,(∃ m,W 0 m U H1)/\∀ i m U H,W i m U H->
 (J.stop i H/\D.nx U H)\/(J.go i H/\∃ N:St->Hp->Prop,(∀ σ' H',N σ' H'->∃ m',m'<m/\W (i+1) m' σ' H')/\∀ x H',J.yld i H x H'->g x U H' λσ2 H2=>tb { D with nx:=N,ct:=N,bk:=D.nx } σ2 H2)
abbrev nP (fp:List Addr)(h:Heap):List (Addr×Obj):=fp.filterMap λb=>(h.get? b).map λo=>(b,o)
def bU {o:Obj}(hb:b ∈ fp)(e:h.get? b=some o):(b,o) ∈ nP fp h:=List.mem_filterMap.mpr ⟨b,hb,by rw[e];rfl⟩
def wt {p:Addr×Obj}(hp:p ∈ nP fp h):p.1 ∈ fp/\h.get? p.1=some p.2:=by
 obtain ⟨b,hb,e⟩:=List.mem_filterMap.mp hp;cases q:h.get? b with
 |none=>rw[q] at e;cases e
 |some o=>
  rw[q] at e;have e':(b,o)=p:=Option.some.inj e;subst e';exact ⟨hb,q⟩
def Inv.pinned (I:Inv X Y U H s)(hf:∀ b ∈ fp,iQ X Y H b) (ho:∀ b ∈ fp,∃ o,s.heap.get? b=some o/\∀ v,o.data≠.cell v):Inv X (Y++nP fp s.heap) U H s:=
 I.pK λp hp=>(mem_append.mp hp).elim (λz=>I.pin p (mem_append_right _ z)) λz=>by
  obtain ⟨hb,e⟩:=wt z;obtain ⟨f0,f1,f2,_⟩:=hf p.1 hb;obtain ⟨o,e',d⟩:=ho p.1 hb;rw[e] at e';cases e';exact ⟨e,f0,f1,f2,d⟩
def Inv.e9 {pl:MD}(I:Inv X (Y++pl) U H s):Inv X Y U H s:=I.pK λp hp=>I.pin p (mem_append_right _ (mem_append_left _ hp))
def Ft {iter:Expr}{wi:TI}{g:TG}{tb:TS}(hp:PassesOwn (model X.prog X.w) X.A X.env X.xe)(hc:X.calm=true)(hi:PI X tg iter wi)(hg:PG X tg g)(hb:A4 X body tb)
  (hs:∀ x,foldedSetIterable iter X.env x=pure x:=by intro _;rfl):PS X (.For tg iter body [] pos) (Km wi g tb):=by
 intro Y s U H D I h;refine wpAny_For (az (hi Y s U H _ I h) λv s1 h1=>az h1 λitv s2 h2=>?_) hs;obtain ⟨it,fp,tn,J,H2,e,I2,T,pU,f2,W,⟨m0,w0⟩,turn⟩:=h2;subst e;have stat:∀ {H':Hp},(∀ b ∈ fp,H' b=none)->∀ b ∈ fp,iQ X Y H' b:=λhn b hb=>⟨hn b hb,(f2 b hb).2⟩
 refine codeAny_forLoop_any (λn s'=>∃ i σ' H',Inv X Y σ' H' s'/\tn i s'.heap/\(∀ b ∈ fp,H' b=none)/\W i n σ' H') ?_ m0 ⟨0,U,H2,I2,pU,λb hb=>(f2 b hb).1,w0⟩;rintro n s3 ⟨i,σ3,H3,I3,st3,fr3,w3⟩;rcases turn i n σ3 H3 w3 with ⟨stop,qn⟩|⟨go,N,hN,step⟩
 ·refine wpAny_passesOwn hp (az (T.done X rfl rfl rfl hc i Y s3 σ3 H3 X.xe I3 (stat fr3) st3 stop) λr s4 ⟨hr,I4⟩=>?_);subst hr;exact wpAny_execs_nil ⟨σ3,H3,I4,qn⟩
 ·refine wpAny_passesOwn hp (az (T.item X rfl rfl rfl hc i Y s3 σ3 H3 X.xe I3 (stat fr3) st3 go) λr s4 ⟨u,hr,h4⟩=>?_);subst hr;refine wpAny_passesOwn hp (az h4 λ_ s5 ⟨x,H5,I5,r5,y5,st5,fr5⟩=>?_);have I5':=I5.pinned (stat fr5) (T.obj _ _ st5);refine wpAny_passesOwn hp (az (hg _ s5 σ3 H5 x u _ I5' r5 (step x H5 y5)) λ_ s6 ⟨σ6,H6,I6,q6⟩=>?_);refine wpAny_passesOwn hp (az (hb _ s6 σ6 H6 _ I6 q6) λf s7 q7=>?_);have again:∀ {σ7:St}{H7:Hp},Inv X (Y++nP fp s5.heap) σ7 H7 s7->N σ7 H7->∃ m,m<n/\∃ i σ' H',Inv X Y σ' H' s7/\tn i s7.heap/\(∀ b ∈ fp,H' b=none)/\W i m σ' H':=λ{σ7 H7} I7 n7=>by
   obtain ⟨m',hm,w7⟩:=hN σ7 H7 n7;refine ⟨m',hm,i+1,σ7,H7,I7.e9,T.keep _ _ _ st5 λb hb o e=>(I7.pin (b,o) (mem_append_right _ (mem_append_right _ (bU hb e)))).1,λb hb=>?_,w7⟩;obtain ⟨o,e,d⟩:=T.obj _ _ st5 b hb;exact (I7.pin (b,o) (mem_append_right _ (mem_append_right _ (bU hb e)))).2.1
  cases f with
  |next=>obtain ⟨σ7,H7,I7,n7⟩:=q7;exact again I7 n7
  |cont=>obtain ⟨σ7,H7,I7,n7⟩:=q7;exact again I7 n7
  |brk=>obtain ⟨σ7,H7,I7,q7⟩:=q7;exact ⟨σ7,H7,I7.e9,q7⟩
  |ret v=>obtain ⟨x7,σ7,H7,I7,r7,q7⟩:=q7;exact ⟨x7,σ7,H7,I7.e9,r7,q7⟩
end
@[reducible]def R2:=V->V->Hp->VK->Prop
abbrev cR (X:Cx)(f:Value->Value->Sem Value)(r:R2):Prop:=
 ∀ (Y:MD) (s:Shared) (U:St) (H:Hp) (x y:V) (v u:Value) (Q:VK),Inv X Y U H s->RelV x v->RelV y u->r x y H Q->
  wpAny (model X.prog X.w) X.A (f v u) (EP X Y U Q) X.xe s
abbrev JR (X:Cx)(f:Value->Sem Value)(r:V->Hp->VK->Prop):Prop:=
 ∀ (Y:MD) (s:Shared) (U:St) (H:Hp) (x:V) (v:Value) (Q:VK),Inv X Y U H s->RelV x v->r x H Q->
  wpAny (model X.prog X.w) X.A (f v) (EP X Y U Q) X.xe s
abbrev cj (X:Cx)(f:Value)(r:List V->Hp->VK->Prop):Prop:=
 ∀ (Y:MD) (s:Shared) (U:St) (H:Hp) (xs:List V) (us:List Value) (Q:VK),Inv X Y U H s->Vals xs us->r xs H Q->
  wpAny (model X.prog X.w) X.A (call f us) (EP X Y U Q) X.xe s
abbrev K8 (X:Cx)(r:V->Hp->(Bool->Hp->Prop)->Prop):Prop:=
 ∀ (Y:MD) (s:Shared) (U:St) (H:Hp) (x:V) (v:Value) (Q:Bool->Hp->Prop),Inv X Y U H s->RelV x v->r x H Q->
  wpAny (model X.prog X.w) X.A (truthy v) (TP X Y U Q) X.xe s
abbrev JM (r:R2)(ta tb:TE):TE:=λU H Q=>ta U H λx H1=>tb U H1 λy H2=>r x y H2 Q
abbrev Mn (r:V->Hp->VK->Prop)(ta:TE):TE:=λU H Q=>ta U H λx H1=>r x H1 Q
abbrev rI (C:Int->Int->Prop)(g:Int->Int->V):R2:=λx y H Q=>∃ i j,x=.int i/\y=.int j/\C i j/\Q (g i j) H
abbrev BD (g:Int->Int->V):R2:=λx y H Q=>∃ i j,x=.int i/\y=.int j/\Q (g i j) H
abbrev rU (g:Int->V):V->Hp->VK->Prop:=λx H Q=>∃ i,x=.int i/\Q (g i) H
variable {f:Value->Value->Sem Value}{r:R2}{g:Int->Int->Int}
section
variable {X:Cx}{a b c:Expr}{ta tb tc:TE}{pos:Pos}
def F3 (ha:PE X a ta)(hb:PE X b tb){R:V->V->Hp->Prop}(I:Inv X Y U H s)
  (h:ta U H λx H1=>tb U H1 λy H2=>R x y H2)
  (hf:∀ v u s2 x y H2,Inv X Y U H2 s2->RelV x v->RelV y u->R x y H2->wpAny (model X.prog X.w) X.A (f v u) Q X.xe s2):
  wpAny (model X.prog X.w) X.A (eval a X.env) (λv s₁=>wpAny (model X.prog X.w) X.A (eval b X.env) (λu s₂=>wpAny (model X.prog X.w) X.A (f v u) Q X.xe s₂) X.xe s₁) X.xe s:=by
 refine az (ha Y s U H _ I h) λv s1 ⟨x,H1,I1,r1,q1⟩=>?_
 refine az (hb Y s1 U H1 _ I1 q1) λu s2 ⟨y,H2,I2,r2,q2⟩=>?_
 exact hf v u s2 x y H2 I2 r1 r2 q2
def Ji (ho:cR X (binaryOp op) r)(ha:PE X a ta)(hb:PE X b tb):PE X (.BinOp a op b pos) (JM r ta tb):=by
 intro Y s U H Q I h;exact wpAny_BinOp (F3 ha hb I h λv u s2 x y H2 I2 rx ry q=>ho Y s2 U H2 x y v u Q I2 rx ry q)
def Hq {op:UnaryOp}{r:V->Hp->VK->Prop}(ho:JR X (unaryOp op) r)(ha:PE X a ta):PE X (.UnaryOp op a pos) (Mn r ta):=by
 intro Y s U H Q I h;exact UnaryOp_ (az (ha Y s U H _ I h) λv s1 ⟨x,H1,I1,r1,q1⟩=>ho Y s1 U H1 x v Q I1 r1 q1)
def JQ {C:Int->Int->Prop}
  (rule:∀ (i j:Int) (t u:Tok) (s:Shared) (Q:MC) (E:MC),C i j->Q (.int (g i j) s.toks) { s with toks:=s.toks+1 }->wpAny (model X.prog X.w) X.A (f (.int i t) (.int j u)) Q E s):
  cR X f (rI C λi j=>.int (g i j)):=by
 intro Y s U H x y v u Q I rx ry h;obtain ⟨i,j,rfl,rfl,hc,q⟩:=h;obtain ⟨t,rfl⟩:=rx;obtain ⟨t',rfl⟩:=ry;exact rule i j t t' s _ _ hc ⟨.int (g i j),H,I.tok _,⟨_,rfl⟩,q⟩
def HY 
  (rule:∀ (i j:Int) (t u:Tok) (s:Shared) (Q:MC) (E:MC),Q (.int (g i j) s.toks) { s with toks:=s.toks+1 }->wpAny (model X.prog X.w) X.A (f (.int i t) (.int j u)) Q E s):
  cR X f (BD λi j=>.int (g i j)):=by
 intro Y s U H x y v u Q I rx ry h;obtain ⟨i,j,rfl,rfl,q⟩:=h;obtain ⟨t,rfl⟩:=rx;obtain ⟨t',rfl⟩:=ry;exact rule i j t t' s _ _ ⟨.int (g i j),H,I.tok _,⟨_,rfl⟩,q⟩
def Ce {g:Int->Int->Bool}
  (rule:∀ (i j:Int) (t u:Tok) (s:Shared) (Q:MC) (E:MC),Q (.bool (g i j)) s->wpAny (model X.prog X.w) X.A (f (.int i t) (.int j u)) Q E s):
  cR X f (BD λi j=>.bl (g i j)):=by
 intro Y s U H x y v u Q I rx ry h;obtain ⟨i,j,rfl,rfl,q⟩:=h;obtain ⟨t,rfl⟩:=rx;obtain ⟨t',rfl⟩:=ry;exact rule i j t t' s _ _ ⟨.bl (g i j),H,I,rfl,q⟩
abbrev KJ (i j:Int):Prop:=0<j/\j<1073741824
abbrev AS (i j:Int):Prop:=0<=j/\j<=1000000/\i.natAbs<2 ^ 64
abbrev rf (i j:Int):Prop:=(-(2 ^ 64)<i/\i<2 ^ 64)\/(-(2 ^ 64)<j/\j<2 ^ 64)
def rf.ok {i j:Int}(h:rf i j):IntMulOk i j:=by
 rcases h with ⟨h1,h2⟩|⟨h1,h2⟩
 ·exact .of_left (intBits_le_64 h1 h2)
 ·exact .of_right (intBits_le_64 h1 h2)
def ET:cR X (binaryOp .Add) (BD λi j=>.int (i+j)):=HY λ_ _ _ _ _ _ _ q=>add_int q
def Gk:cR X (binaryOp .Sub) (BD λi j=>.int (i-j)):=HY λ_ _ _ _ _ _ _ q=>sub_int q
def Fl:cR X (binaryOp .Mult) (rI rf λi j=>.int (i*j)):=JQ λ_ _ _ _ _ _ _ hc q=>mul_int q hc.ok
def Bb:cR X (binaryOp .FloorDiv) (rI KJ λi j=>.int (i / j)):=JQ λi j _ _ _ _ _ hc q=>by
 have h1:(0:Int)<j:=hc.1;have h2:j<1073741824:=hc.2;exact floordiv_int nofun (by rw[Int.fdiv_eq_ediv_of_nonneg i nofun];exact q) (.inl (PyProof.noPylong_small nofun))
def Gb:cR X (binaryOp .Mod) (rI (λ_ j=>0<j) λi j=>.int (i % j)):=JQ λi j _ _ _ _ _ hc q=>by
 have h1:(0:Int)<j:=hc;exact mod_int' nofun (by rw[Int.fmod_eq_emod_of_nonneg i nofun];exact q)
def FY:cR X (binaryOp .Pow) (rI AS λi j=>.int (i ^ j.toNat)):=JQ λ_ _ _ _ _ _ _ hc q=>pow_int_small hc.1 hc.2.1 hc.2.2 q
def Ml {f:Value->Sem Value}{g:Int->Int}
  (rule:∀ (i:Int) (t:Tok) (s:Shared) (Q:MC) (E:MC),Q (.int (g i) s.toks) { s with toks:=s.toks+1 }->wpAny (model X.prog X.w) X.A (f (.int i t)) Q E s):
  JR X f (rU λi=>.int (g i)):=by
 intro Y s U H x v Q I rx h;obtain ⟨i,rfl,q⟩:=h;obtain ⟨t,rfl⟩:=rx;exact rule i t s _ _ ⟨.int (g i),H,I.tok _,⟨_,rfl⟩,q⟩
def Fq:JR X (unaryOp .USub) (rU λi=>.int (-i)):=Ml λ_ _ _ _ _ q=>neg_int q
end
section
variable {X:Cx}{a b c:Expr}{ta tb tc:TE}{pos:Pos}
def zY {Q:VK}{k k':Bool}(I:Inv X Y U H s)(q:Q (.bl k) H)(e:k=k'):EP X Y U Q (.bool k') s:=by
 subst e;exact ⟨.bl k,H,I,rfl,q⟩
def IM:cR X (compareOp .Lt) (BD λi j=>.bl (decide (i<j))):=Ce λ_ _ _ _ _ _ _ q=>lt_int q
def Hn:cR X (compareOp .LtE) (BD λi j=>.bl (decide (i<=j))):=Ce λ_ _ _ _ _ _ _ q=>le_int q
def IS:cR X (compareOp .Gt) (BD λi j=>.bl (decide (j<i))):=Ce λ_ _ _ _ _ _ _ q=>gt_int q
def HA:cR X (compareOp .GtE) (BD λi j=>.bl (decide (j<=i))):=Ce λ_ _ _ _ _ _ _ q=>ge_int q
def Ez:cR X (compareOp .Is) (λx y H Q=>y=.non/\Q (.bl (decide (x=.non))) H):=by
 intro Y s U H x y v u Q I rx ry h;obtain ⟨rfl,q⟩:=h;cases ry;refine is_none_gen (zY I q ?_);cases x<;>first
  |(cases rx;rfl)
  |(obtain ⟨t,rfl⟩:=rx;rfl)
def A3:cR X (compareOp .IsNot) (λx y H Q=>y=.non/\Q (.bl (!decide (x=.non))) H):=by
 intro Y s U H x y v u Q I rx ry h;obtain ⟨rfl,q⟩:=h;cases ry;refine isnot_none_gen (zY I q ?_);cases x<;>first
  |(cases rx;rfl)
  |(obtain ⟨t,rfl⟩:=rx;rfl)
def Cr {op:CmpOp}(ho:cR X (compareOp op) r)(ha:PE X a ta)(hb:PE X b tb)(hm:behindInMarks op b=false):PE X (.Compare a [op] [b] pos) (JM r ta tb):=by
 intro Y s U H Q I h;exact wpAny_Compare1 (F3 ha hb I h λv u s2 x y H2 I2 rx ry q=>ho Y s2 U H2 x y v u Q I2 rx ry q) hm
abbrev DO (t:TE):TT:=λU H Q=>t U H λx H'=>∃ k,x=.bl k/\Q k H'
def CY {op:CmpOp}(ho:cR X (compareOp op) r)(ha:PE X a ta)(hb:PE X b tb)(hm:behindInMarks op b=false):PT X (.Compare a [op] [b] pos) (DO (JM r ta tb)):=by
 intro Y s U H Q I h;refine wpAny_isTrue_Compare1 (az (ha Y s U H _ I h) λv s1 ⟨x,H1,I1,r1,q1⟩=>az (hb Y s1 U H1 _ I1 q1) λu s2 ⟨y,H2,I2,r2,q2⟩=>
  az (ho Y s2 U H2 x y v u _ I2 r1 r2 q2) λc s3 ⟨z,H3,I3,r3,k,e,q3⟩=>?_) hm
 subst e;cases r3;exact wpAny_truthy_bool ⟨H3,I3,q3⟩
abbrev zW (r r':R2)(ta tb tc:TE):TE:=λU H Q=>ta U H λx H1=>tb U H1 λy H2=>r x y H2 λz H3=>∃ k,z=.bl k/\
 (if k=true then tc U H3 λw' H4=>r' y w' H4 Q else Q (.bl false) H3)
def yS {op op':CmpOp}{r':R2}(ho:cR X (compareOp op) r)(ho':cR X (compareOp op') r')(ha:PE X a ta)(hb:PE X b tb)(hc:PE X c tc)
  (hm:lastMarks [op,op'] [b,c]=false:=by with_unfolding_all rfl):PE X (.Compare a [op,op'] [b,c] pos) (zW r r' ta tb tc):=by
 intro Y s U H Q I h;refine Compare_chain (az (ha Y s U H _ I h) λv s1 ⟨x,H1,I1,r1,q1⟩=>chain_link (az (hb Y s1 U H1 _ I1 q1) λu s2 ⟨y,H2,I2,r2,q2⟩=>
  az (ho Y s2 U H2 x y v u _ I2 r1 r2 q2) λd s3 ⟨z,H3,I3,r3,k,e,q3⟩=>?_)) hm
 subst e;cases r3;refine wpAny_truthy_bool ?_;cases k with
 |false=>exact ite_ff ⟨.bl false,H3,I3,rfl,q3⟩
 |true=>exact ite_tt (chain_last (az (hc Y s3 U H3 _ I3 q3) λw' s4 ⟨z',H4,I4,r4,q4⟩=>ho' Y s4 U H4 y z' u w' Q I4 r2 r4 q4))
def zy {op op':CmpOp}{r':R2}(ho:cR X (compareOp op) r)(ho':cR X (compareOp op') r')(ha:PE X a ta)(hb:PE X b tb)(hc:PE X c tc)
  (hm:lastMarks [op,op'] [b,c]=false:=by with_unfolding_all rfl):PT X (.Compare a [op,op'] [b,c] pos) (DO (zW r r' ta tb tc)):=by
 intro Y s U H Q I h;refine isTrue_chain (az (ha Y s U H _ I h) λv s1 ⟨x,H1,I1,r1,q1⟩=>test_link (az (hb Y s1 U H1 _ I1 q1) λu s2 ⟨y,H2,I2,r2,q2⟩=>
  az (ho Y s2 U H2 x y v u _ I2 r1 r2 q2) λd s3 ⟨z,H3,I3,r3,k,e,q3⟩=>?_)) hm
 subst e;cases r3;refine wpAny_truthy_bool ?_;cases k with
 |false=>
  obtain ⟨k',e',q'⟩:=q3;cases e';exact ite_ff ⟨H3,I3,q'⟩
 |true=>
  refine ite_tt (test_last (az (hc Y s3 U H3 _ I3 q3) λw' s4 ⟨z',H4,I4,r4,q4⟩=>az (ho' Y s4 U H4 y z' u w' _ I4 r2 r4 q4) λd' s5 ⟨z2,H5,I5,r5,k2,e2,q5⟩=>?_));subst e2;cases r5;exact wpAny_truthy_bool ⟨H5,I5,q5⟩
abbrev AN (K:W.Frag)(x:V)(H:Hp)(k:Bool):Prop:=
 match x with
 | .non=>k=false
 | .bl b=>k=b
 | .int i=>k=(i != 0)
 | .str y=>y.length<=sizeLine/\k=((y.length:Int) != 0)
 | .byt y=>y.size<=sizeLine/\k=((y.size:Int) != 0)
 | .ref p=>(∃ xs,aS K H p xs/\k= !xs.isEmpty)\/(∃ xs,aZ K H p xs/\k= !xs.isEmpty)\/∃ kvs,H p=some (.dK kvs)/\k= !kvs.isEmpty
 |_=>False
def sD {κ:Type}{kvs:List (κ×V)}{vs:List (κ×Value)}(r:KV kvs vs):(!vs.isEmpty)= !kvs.isEmpty:=by
 cases r<;>rfl
def kH {its:List Value}(r:Vals xs its):(!its.toArray.isEmpty)= !xs.isEmpty:=by
 cases r<;>simp
def gg:(sizeLine:Nat)<2 ^ 63:=by rw[sizeLine_eq];decide
def E9:K8 X (λx H Q=>∃ k,AN X.K x H k/\Q k H):=by
 intro Y s U H x v Q I rx h;obtain ⟨k,e,q⟩:=h;have hl:=gg;have hs:sizeLine=16777216:=sizeLine_eq;cases x with
 |non=>
  cases rx;have e':k=false:=e;subst e';exact truthy_none ⟨H,I,q⟩
 |bl b=>
  cases rx;have e':k=b:=e;subst e';exact wpAny_truthy_bool ⟨H,I,q⟩
 |int i=>
  obtain ⟨t,rfl⟩:=rx;have e':k=(i != 0):=e;subst e';exact PySem.P.truthy_int ⟨H,I,q⟩
 |str y=>
  obtain ⟨t,rfl⟩:=rx;obtain ⟨hy,e'⟩:y.length<=sizeLine/\k=((y.length:Int) != 0):=e;subst e';exact PySem.P.truthy_str nofun ⟨H,I.tok _,q⟩
 |byt y=>
  obtain ⟨t,rfl⟩:=rx;obtain ⟨hy,e'⟩:y.size<=sizeLine/\k=((y.size:Int) != 0):=e;subst e';exact W.truthy_bytes nofun ⟨H,I.tok _,q⟩
 |ref p=>
  cases rx;have e':(∃ xs,aS X.K H p xs/\k= !xs.isEmpty)\/(∃ xs,aZ X.K H p xs/\k= !xs.isEmpty)\/∃ kvs,H p=some (.dK kvs)/\k= !kvs.isEmpty:=e;rcases e' with ⟨xs,hx,e'⟩|⟨xs,hx,e'⟩|⟨kvs,hx,e'⟩
  ·subst e';obtain ⟨its,r,pl,hz⟩:=I.list hx;have hlen:=r.length;exact wpAny_truthy_list pl.isList (by simp only[size_toArray];omega) ⟨H,I.tok _,by rw[kH r];exact q⟩
  ·subst e';obtain ⟨its,r,pl,hz⟩:=I.tuple hx;have hlen:=r.length;exact truthy_tuple pl (by simp only[size_toArray];omega) ⟨H,I.tok _,by rw[kH r];exact q⟩
  ·subst e';obtain ⟨hz,hS,vs,r,m⟩:kvs.length<=sizeLine/\(p ==sysModules)=false/\∃ vs,KV kvs vs/\s.heap.DictOf (aw X.prog X.w) p vs:=I.hok p _ hx;have hlen:kvs.length=vs.length:=Paired.length r;exact wpAny_truthy_dict hS m nofun ⟨H,I.tok _,by rw[sD r];exact q⟩
 |_=>exact (show False from e).elim
def zD (ha:PE X a ta)(he:∀ whole,isTrue a X.env whole=(do let v <-whole;standAt a.pos;holding [v] (truthy v))):
  PT X a (λU H Q=>ta U H λx H'=>∃ k,AN X.K x H' k/\Q k H'):=by
 intro Y s U H Q I h;exact isTrue_plain (az (ha Y s U H _ I h) λv s1 ⟨x,H1,I1,r1,q1⟩=>E9 Y s1 U H1 x v Q I1 r1 q1) (he _)
def sN:cR X (binaryOp .Add) (λx y H Q=>∃ i j,x=.str i/\y=.str j/\i.length+j.length<=sizeLine/\Q (.str (i++j)) H):=by
 intro Y s U H x y v u Q I rx ry h;obtain ⟨i,j,rfl,rfl,hz,q⟩:=h;obtain ⟨t,rfl⟩:=rx;obtain ⟨t',rfl⟩:=ry;exact add_str (λt' tk=>⟨.str (i++j),H,I.tok _,⟨_,rfl⟩,q⟩) hz
def vals1 {x:V}(r:Vals [x] us):∃ u,us=[u]/\RelV x u:=by
 cases r with
 |cons r1 r2=>cases r2;exact ⟨_,rfl,r1⟩
def vals2 {x y:V}(r:Vals [x,y] us):∃ u w',us=[u,w']/\RelV x u/\RelV y w':=by
 cases r with
 |cons r1 r2=>
  cases r2 with
  |cons r3 r4=>cases r4;exact ⟨_,_,rfl,r1,r3⟩
def wY (hc:X.calm=true):cj X (.builtin "max") (λxs H Q=>∃ i j,xs=[.int i,.int j]/\Q (.int (if j>i then j else i)) H):=by
 intro Y s U H xs us Q I r h;obtain ⟨i,j,rfl,q⟩:=h;obtain ⟨u,w',rfl,⟨t,rfl⟩,⟨t',rfl⟩⟩:=vals2 r;refine max_two_ints (I.ok.hd hc) λh' tk k=>⟨_,H,I.kept k,?_,q⟩
 by_cases hj:j>i
 ·rw[if_pos hj,if_pos hj];exact ⟨_,rfl⟩
 ·rw[if_neg hj,if_neg hj];exact ⟨_,rfl⟩
def vV (hc:X.calm=true):cj X (.builtin "min") (λxs H Q=>∃ i j,xs=[.int i,.int j]/\Q (.int (if j<i then j else i)) H):=by
 intro Y s U H xs us Q I r h;obtain ⟨i,j,rfl,q⟩:=h;obtain ⟨u,w',rfl,⟨t,rfl⟩,⟨t',rfl⟩⟩:=vals2 r;refine min_two_ints (I.ok.hd hc) λh' tk k=>⟨_,H,I.kept k,?_,q⟩
 by_cases hj:j<i
 ·rw[if_pos hj,if_pos hj];exact ⟨_,rfl⟩
 ·rw[if_neg hj,if_neg hj];exact ⟨_,rfl⟩
def wW:cj X (.type "int") (λxs H Q=>(∃ i,xs=[.int i]/\Q (.int i) H)\/∃ k,xs=[.bl k]/\Q (.int (if k then 1 else 0)) H):=by
 intro Y s U H xs us Q I r h;rcases h with ⟨i,rfl,q⟩|⟨k,rfl,q⟩
 ·obtain ⟨u,rfl,t,rfl⟩:=vals1 r;exact call_int_int ⟨.int i,H,I,⟨_,rfl⟩,q⟩
 ·obtain ⟨u,rfl,r1⟩:=vals1 r;cases r1;exact call_int_bool ⟨.int (if k then 1 else 0),H,I.tok _,⟨_,rfl⟩,q⟩
def oE:cj X (.type "str") (λxs H Q=>∃ i,xs=[.int i]/\i.natAbs.log2<1920/\Q (.str (toString i)) H):=by
 intro Y s U H xs us Q I r h;obtain ⟨i,rfl,hz,q⟩:=h;obtain ⟨u,rfl,t,rfl⟩:=vals1 r;exact PySem.P.str_of_int hz ⟨.str _,H,I.tok _,⟨_,rfl⟩,q⟩
abbrev Ho (K:W.Frag)(x:V)(H:Hp)(n:Nat):Prop:=
 match x with
 | .str y=>y.length<=sizeLine/\n=y.length
 | .byt y=>y.size<=sizeLine/\n=y.size
 | .ref p=>(∃ xs,aS K H p xs/\n=xs.length)\/∃ xs,aZ K H p xs/\n=xs.length
 |_=>False
def yK:cj X (.builtin "len") (λxs H Q=>∃ x n,xs=[x]/\Ho X.K x H n/\Q (.int n) H):=by
 intro Y s U H xs us Q I r h;obtain ⟨x,n,rfl,e,q⟩:=h;obtain ⟨u,rfl,rx⟩:=vals1 r;have hl:=gg;have hs:sizeLine=16777216:=sizeLine_eq;cases x with
 |str y=>
  obtain ⟨t,rfl⟩:=rx;obtain ⟨hy,e'⟩:y.length<=sizeLine/\n=y.length:=e;subst e';exact len_str nofun ⟨.int _,H,I.tok _,⟨_,rfl⟩,q⟩
 |byt y=>
  obtain ⟨t,rfl⟩:=rx;obtain ⟨hy,e'⟩:y.size<=sizeLine/\n=y.size:=e;subst e';exact W.len_bytes nofun ⟨.int _,H,I.tok _,⟨_,rfl⟩,q⟩
 |ref p=>
  cases rx;have e':(∃ xs,aS X.K H p xs/\n=xs.length)\/∃ xs,aZ X.K H p xs/\n=xs.length:=e;rcases e' with ⟨xs,hx,e'⟩|⟨xs,hx,e'⟩
  ·subst e';obtain ⟨its,r',pl,hz⟩:=I.list hx;have hlen:=r'.length;exact Calls.call_len_list pl.isList (by simp only[size_toArray];omega) ⟨.int xs.length,H,I.tok _,⟨_,by simp only[size_toArray];rw[hlen]⟩,q⟩
  ·subst e';obtain ⟨its,r',pl,hz⟩:=I.tuple hx;have hlen:=r'.length;exact len_tuple pl (by simp only[size_toArray];omega) ⟨.int xs.length,H,I.tok _,⟨_,by simp only[size_toArray];rw[hlen]⟩,q⟩
 |_=>exact (show False from e).elim
end
structure sP (h:Heap) (x dx C:Addr) (mA:ME):Prop where
 obj:h.get? x=some (W.instObj C dx)
 ns:h.Ns1 dx mA
 ne:dx≠x
variable {mA:ME}
def iM {dx:Addr}(n:h.Ns1 dx mA):∃ od,h.get? dx=some od/\∀ name,W.lookIn name od=some (mA name):=by
 obtain ⟨o,es,ep,ho,hd,hk,_,hm⟩:=n;refine ⟨o,ho,λname=>?_⟩;have e:=hm name;unfold nsFind findBy at e;rw[<-Array.find?_toList] at e;unfold W.lookIn;rw[hd];dsimp only
 split
 ·rename_i y q;rw[q] at e;exact congrArg some e
 ·rename_i q;rw[q] at e;have a:es.toList.any (·.refKey)=false:=by
   rw[any_eq_false];intro y hy;obtain ⟨z,t,hkey⟩:=hk y (Array.mem_toList_iff.mp hy);simp[DictEntry.refKey,hkey]
  have a':¬ es.toList.any (·.refKey)=true:=by rw[a];exact Bool.false_ne_true
  rw[if_neg a'];exact congrArg some e
variable {C:Addr}
def sP.look {x dx:Addr}(I:sP h x dx C mA):∃ od,W.InstAt h x (W.instObj C dx) C (some od)/\∀ name,W.lookIn name od=some (mA name):=
 let ⟨od,ho,hl⟩:=iM I.ns
 ⟨od,⟨I.obj,rfl,rfl,ho⟩,hl⟩
variable {pl:Sem Bool}{kw:List (Str×Value)}
section
variable {prog:Program}{w:World}{A:Around}{E:MC}{s:Shared}{K:W.Frag}{x dx C f:Addr}{mA:ME}{name:Str}{v:Value}
def get_map {expr:Bool}(X:K.In s.heap)(I:sP s.heap x dx C mA)(hg:W.plainGet K C name=true)(hh:W.hasDictIn K C=true)
  (ha:W.findIn K (.ref C) name=some none) (hv:mA name=some v) (hv':W.handedIn v=true) (h:Q v { s with toks:=s.toks+1 }):
  wpAny (model prog w) A (getAttr (.ref x) name expr) Q E s:=by
 obtain ⟨od,J,hl⟩:=I.look;exact W.get_value X J (W.plainGet_of hg).1 (W.findObj_own hh ha rfl (by rw[hl,hv])) hv' h
def yi {Q:Value×List Value->Shared->Prop}(X:K.In s.heap)(I:sP s.heap x dx C mA)(hg:W.plainGet K C name=true)
  (hf:W.findIn K (.ref C) name=some (some (.ref f))) (ht:W.isFn K (.ref f)=true) (hv:mA name=none) (h:Q (.ref f,[.ref x]) s):
  wpAny (model prog w) A (getMethod (.ref x) name pl) Q E s:=by
 obtain ⟨od,J,hl⟩:=I.look;exact W.method_fn X J (W.plainGet_of hg).1 (W.plainGet_of hg).2 hf (beq_iff_eq.mp ht) (by show (W.lookIn name od).map (·.isSome)=some false;rw[hl,hv];rfl) h
def hE {ns:List Str}{Q:MB}(X:K.In s.heap)(I:sP s.heap x dx C mA)
  (hs:W.findIn K (.ref C) "__setattr__"=some (some (.builtin "object.__setattr__"))) (hp:W.plainOver K C=true) (ht:W.takerIn K C name=some none) (hh:W.hasDictIn K C=true)
  (hw:PySem.Within mA ns) (hsz:ns.length<=sizeLine)
  (h:∀ h',sP h' x dx C (λy=>if y=name then some v else mA y)->Heap.SameBut dx s.heap h'->Q () { s with heap:=h',toks:=s.toks+2 }):
  wpAny (model prog w) A (setAttr (.ref x) name v) Q E s:=by
 obtain ⟨od,J,hl⟩:=I.look;refine W.set_plain X J hs (W.osa_open (s:={ s with toks:=s.toks+1 }) (r:=none) X J hp ht λb=>?_);obtain ⟨cd,hc,hd'⟩:=W.any_some hh;have hx:s.heap.get? x=some ⟨.ref C,some dx,.plain,#[]⟩:=I.obj;refine wpAny_bind (wpAny_pure (wpAny_bind (wpAny_bind (wpAny_loadPart hx (wpAny_bind (W.Looks.here (s:={ s with toks:=s.toks+1 }) (W.looks_clsIn X hc) ?_))))));rw[hd'];refine wpAny_pure (a:=some dx) (wpAny_bind (wpAny_pure (wpAny_bind ?_)));refine wpAny_nsSet1 (s:={ s with toks:=s.toks+1 }) I.ns λh' hn2 hs2=>?_
 obtain ⟨oD,esD,epD,hoD,hdD,hcD⟩:=hn2.count (PySem.Within.cons name v hw);refine wpAny_bind (wpAny_lookBehind hoD (by rw[hdD];exact pastItsLine_dict (Nat.le_trans hcD (by rw[length_cons];omega))) ?_);exact wpAny_pure (h _ ⟨(hs2.2 _ (Ne.symm I.ne)).trans I.obj,hn2,I.ne⟩ hs2)
def x8 {R:Result->Shared->Prop}{vs:List Value}(X:K.In s.heap)(hm:W.makesIn K C=true)
  (hi:W.findIn K (.ref C) "__init__"=some (some (.ref f))) (hf:W.typeIn K (.ref f)=some (.type "function"))
  (h:codeAny (model prog w) (A.under (.builtin "type.__call__" ⟨.ref C::vs,kw⟩)) (.call (.ref f) ⟨.ref (s.heap.objs.size+1)::vs,kw⟩) (W.InitBack (s.heap.objs.size+1) R)
   { s with heap:=(s.heap.push W.emptyDict).push (W.instObj C s.heap.objs.size) }):
  codeAny (model prog w) A (.call (.ref C) ⟨vs,kw⟩) R s:=by
 obtain ⟨hh,g,d,t,os⟩:=s;exact W.make_core (W.makes_of X hm) (W.looks_findIn X hi) (λself=>W.bind_fn X self hf) (.inl rfl) h
end
abbrev cT (f:Str)(v:V):List (Str×V)->List (Str×V)
 | []=>[(f,v)]
 |(g,x)::r=>if g=f then (g,v)::r else (g,x)::cT f v r
def ef (f g:Str)(v:V):∀ fs:List (Str×V),(cT f v fs).lookup g=if g=f then some v else fs.lookup g
 | []=>by
  show List.lookup g [(f,v)]=_
  by_cases h:g=f
  ·have hb:(g ==f)=true:=beq_iff_eq.mpr h;simp only[List.lookup,hb,if_pos h]
  ·have hb:(g ==f)=false:=beq_eq_false_iff_ne.mpr h;simp only[List.lookup,hb,if_neg h]
 |(k,x)::r=>by
  have ih:=ef f g v r;rw[show cT f v ((k,x)::r)=(if k=f then (k,v)::r else (k,x)::cT f v r) from rfl]
  by_cases hk:k=f
  ·rw[if_pos hk]
   by_cases h:g=k
   ·have hb:(g ==k)=true:=beq_iff_eq.mpr h;simp only[List.lookup,hb,if_pos (h.trans hk)]
   ·have hb:(g ==k)=false:=beq_eq_false_iff_ne.mpr h;simp only[List.lookup,hb,if_neg (λe:g=f=>h (e.trans hk.symm))]
  ·rw[if_neg hk]
   by_cases h:g=k
   ·have hb:(g ==k)=true:=beq_iff_eq.mpr h;simp only[List.lookup,hb,if_neg (λe:g=f=>hk (h.symm.trans e))]
   ·have hb:(g ==k)=false:=beq_eq_false_iff_ne.mpr h;simp only[List.lookup,hb];exact ih
def dB (f:Str)(v:V):∀ fs:List (Str×V),f ∈ (cT f v fs).map (·.1)/\∀ g,g ∈ fs.map (·.1)->g ∈ (cT f v fs).map (·.1)
 | []=>⟨by simp[cT],λg h=>by simp at h⟩
 |(k,x)::r=>by
  obtain ⟨i1,i2⟩:=dB f v r;rw[show cT f v ((k,x)::r)=(if k=f then (k,v)::r else (k,x)::cT f v r) from rfl]
  by_cases hk:k=f
  ·rw[if_pos hk];subst hk;exact ⟨by simp,λg h=>by simpa using h⟩
  ·rw[if_neg hk];refine ⟨?_,λg h=>?_⟩
   ·rw[map_cons];exact mem_cons_of_mem _ i1
   ·rw[map_cons] at h⊢;rcases mem_cons.mp h with e|e
    ·exact mem_cons.mpr (.inl e)
    ·exact mem_cons_of_mem _ (i2 g e)
def fk (f:Str)(v:V):∀ fs:List (Str×V),(cT f v fs).length<=fs.length+1
 | []=>by simp[cT]
 |(k,x)::r=>by
  have ih:=fk f v r;rw[show cT f v ((k,x)::r)=(if k=f then (k,v)::r else (k,x)::cT f v r) from rfl]
  by_cases hk:k=f
  ·rw[if_pos hk,length_cons,length_cons];omega
  ·rw[if_neg hk,length_cons,length_cons];omega
def di.some_of {o:Option Value}(r:di (some v) o):∃ u,o=some u/\RelV v u:=by
 cases o with
 |none=>exact (show False from r).elim
 |some u=>exact ⟨u,rfl,r⟩
def di.none_of {o:Option Value}(r:di none o):o=none:=by
 cases o with
 |none=>rfl
 |some u=>exact (show False from r).elim
def mQ (r:RelV v u):W.handedIn u=true:=by
 cases v with
 |non=>cases (show u=Value.none from r);rfl
 |bl b=>cases (show u=Value.bool b from r);rfl
 |int i=>obtain ⟨t,e⟩:=(show ∃ t,u=Value.int i t from r);cases e;rfl
 |str x=>obtain ⟨t,e⟩:=(show ∃ t,u=Value.str x t from r);cases e;rfl
 |byt b=>obtain ⟨t,e⟩:=(show ∃ t,u=Value.bytes b t from r);cases e;rfl
 |flt b=>obtain ⟨t,e⟩:=(show ∃ t,u=Value.float b t from r);cases e;rfl
 |ref a=>cases (show u=Value.ref a from r);rfl
 |ty n=>cases (show u=Value.type n from r);rfl
section
variable {P:Program}{w:World}{H H':Hp}{h h':Heap}{a C dx:Addr}{fs fs':List (Str×V)}
def fE (hok:gb P w H h)(e:H a=some (.ins C dx fs)):∃ mA,sP h a dx C mA/\(∀ f,di (fs.lookup f) (mA f))/\PySem.Within mA (fs.map (·.1))/\fs.length<=1000/\H dx=some (.own a):=by
 obtain ⟨d,z,ne,ob,mA,n,r,q⟩:=(show aA P w H h a (.ins C dx fs) from hok a _ e);exact ⟨mA,⟨ob,n,ne⟩,r,q,z,d⟩
end
structure A9 (K:W.Frag) (C:Addr):Prop where
 pg:W.plainGet K C Str.empty=true
 hd:W.hasDictIn K C=true
 po:W.plainOver K C=true
 sa:W.findIn K (.ref C) "__setattr__"=some (some (.builtin "object.__setattr__"))
def A9.get {K:W.Frag}(c:A9 K C)(f:Str):W.plainGet K C f=true:=c.pg
abbrev d6 (K:W.Frag)(C:Addr)(f:Str):Prop:=W.findIn K (.ref C) f=some none
def d6.IZ {K:W.Frag}{f:Str}(n:d6 K C f):W.takerIn K C f=some none:=by
 unfold W.takerIn;rw[show W.findIn K (.ref C) f=some none from n]
 rfl
structure Meth (K:W.Frag) (C:Addr) (m:Str) (f:Addr):Prop where
 at_:W.findIn K (.ref C) m=some (some (.ref f))
 fn:W.isFn K (.ref f)=true
 kp:W.keepIn K (.ref f)=true
section
variable {X:Cx}{Y:MD}{U:St}{H:Hp}{s:Shared}{a C dx:Addr}{fs:List (Str×V)}{f:Str}{v:V}{A:Around}{E:MC}
def t8 {b:Bool}(I:Inv X Y U H s)(e:H a=some (.ins C dx fs))(c:A9 X.K C)(n:d6 X.K C f)(l:fs.lookup f=some v)
  (h:∀ u s',Inv X Y U H s'->RelV v u->Q u s'):wpAny (model X.prog X.w) A (getAttr (.ref a) f b) Q E s:=by
 obtain ⟨mA,O,r,_,_,_⟩:=fE I.hok e;obtain ⟨u,hu,ru⟩:=di.some_of (v:=v) (o:=mA f) (by rw[<-l];exact r f);exact get_map I.bQ O (c.get f) c.hd n hu (mQ ru) (h u _ (I.tok _) ru)
def tW {m:Str}{g:Addr}{Q:Value×List Value->Shared->Prop}(I:Inv X Y U H s)(e:H a=some (.ins C dx fs))(c:A9 X.K C)(k:Meth X.K C m g)(l:fs.lookup m=none)
  (h:Q (.ref g,[.ref a]) s):wpAny (model X.prog X.w) A (getMethod (.ref a) m pl) Q E s:=by
 obtain ⟨mA,O,r,_,_,_⟩:=fE I.hok e;have hn:mA m=none:=di.none_of (by rw[<-l];exact r m);exact yi I.bQ O (c.get m) k.at_ k.fn hn h
def sC {y:V}{Q:MB}(I:Inv X Y U H s)(e:H a=some (.ins C dx fs))(c:A9 X.K C)(n:d6 X.K C f)(hl:fs.length<1000)(ry:RelV y u)
  (h:∀ s',Inv X Y U (upd H a (.ins C dx (cT f y fs))) s'->Q () s'):wpAny (model X.prog X.w) A (setAttr (.ref a) f u) Q E s:=by
 obtain ⟨mA,O,r,wi,_,ho⟩:=fE I.hok e;have hz:(fs.map (·.1)).length<=sizeLine:=by rw[length_map,sizeLine_eq];omega
 refine hE I.bQ O c.sa c.po n.IZ c.hd wi hz λh' O' sb=>h _ ?_
 have hd:∃ o,h'.get? dx=some o:=let ⟨o,_,_,e',_⟩:=O'.ns;⟨o,e'⟩;refine I.write (x:=a) (e:=dx) (by rw[e];exact True.intro) (.inr ho) (λb q hb z=>(sb.2 b hb).trans z) hd ?_;refine ⟨by rw[ai O.ne];exact ho,?_,O.ne,O'.obj,_,O'.ns,λg=>?_,λg hg=>?_⟩
 ·have:=fk f y fs;omega
 ·show di ((cT f y fs).lookup g) (if g=f then some u else mA g);rw[ef]
  by_cases q:g=f
  ·rw[if_pos q,if_pos q];exact ry
  ·rw[if_neg q,if_neg q];exact r g
 ·by_cases q:g=f
  ·rw[q];exact (dB f y fs).1
  ·refine (dB f y fs).2 g (wi g λz=>hg ?_);show (if g=f then some u else mA g)=none;rw[if_neg q];exact z
def Inv.made (I:Inv X Y U H s):Inv X Y U (upd (upd H s.heap.objs.size (.own (s.heap.objs.size+1))) (s.heap.objs.size+1) (.ins C s.heap.objs.size []))
  { s with heap:=(s.heap.push W.emptyDict).push (W.instObj C s.heap.objs.size) }:=by
 have e1:(s.heap.push W.emptyDict).get? s.heap.objs.size=some W.emptyDict:=Heap.get?_push_size s.heap rfl;have e2:((s.heap.push W.emptyDict).push (W.instObj C s.heap.objs.size)).get? (s.heap.objs.size+1)=some (W.instObj C s.heap.objs.size):=by
  have:=Heap.get?_push_size (s.heap.push W.emptyDict) (o:=W.instObj C s.heap.objs.size) rfl
  rwa [Heap.size_push] at this
 have e3:(s.heap.push W.emptyDict).Ns s.heap.objs.size (λ_=>none):=⟨W.emptyDict,#[],_,e1,rfl,(λe he=>absurd he (by simp)),λ_=>rfl⟩;have I1:=I.laid (a:=s.heap.objs.size) (o:=.own (s.heap.objs.size+1)) (h':=s.heap.push W.emptyDict) (t':=s.toks) (λb u q=>Heap.get?_push_of_some _ q) (Nat.le_refl _) ⟨_,e1⟩;refine I1.laid (a:=s.heap.objs.size+1) (o:=.ins C s.heap.objs.size []) (t':=s.toks) (λb u q=>Heap.get?_push_of_some _ q) (Nat.le_of_eq (Heap.size_push _ _)) ?_;have ne:s.heap.objs.size≠s.heap.objs.size+1:=Nat.ne_of_lt (Nat.lt_succ_self _);refine ⟨by rw[ai ne,av],Nat.zero_le _,ne,e2,λ_=>none,(Heap.Ns1.of_empty e3).at λo q=>Heap.get?_push_of_some _ q,λ_=>True.intro,λy hy=>absurd rfl hy⟩
def Bi {prog:Program}{env:Env}(hb:attributeBase e f env (eval e env)=eval e env)
  (h:wpAny (model prog w) A (eval e env) (λo s₁=>wpAny (model prog w) A (getAttr o f true) Q E s₁) E s):wpAny (model prog w) A (eval (.Attribute e f pos) env) Q E s:=
 Attribute_any_ h (by rw[arm_eval_Attribute,hb])
end
section
variable {X:Cx}{o e value:Expr}{f:Str}{pos pos' tpos:Pos}{ta tv:TE}
end
section
variable {X:Cx}{Y:MD}{U:St}{H:Hp}{s:Shared}{A:Around}{E:MC}{Q:MC}{c:Value}{b:Bool}
inductive gP (K:W.Frag) (H:Hp):V->Value->Prop where
 |non:gP K H .non (.type "NoneType")
 |bl (x:Bool):gP K H (.bl x) (.type "bool")
 |int (i:Int):gP K H (.int i) (.type "int")
 |str (x:Str):gP K H (.str x) (.type "str")
 |flt (x:UInt64):gP K H (.flt x) (.type "float")
 |lst {a:Addr}{xs:List V}(e:H a=some (.lst xs)):gP K H (.ref a) (.type "list")
 |frz {a:Addr}{o:Obj}{xs:List V}(e:H a=some (.frz o (.lst xs))):gP K H (.ref a) (.type "list")
 |tup {a:Addr}{xs:List V}(e:H a=some (.tup xs)):gP K H (.ref a) (.type "tuple")
 |dK {a:Addr}{kvs:List (Key×V)}(e:H a=some (.dK kvs)):gP K H (.ref a) (.type "dict")
 |dT {a:Addr}{kvs:List (List Key×V)}(e:H a=some (.dT kvs)):gP K H (.ref a) (.type "dict")
 |ins {a C dx:Addr}{fs:List (Str×V)}(e:H a=some (.ins C dx fs)) (cl:A9 K C) (ha:W.findIn K (.ref C) "__class__"=some (some (.builtin "object.__class__")))
   (hn:W.specialIn K (.builtin "object.__class__") "__get__"=some (some (.builtin "getset_descriptor.__get__"))) (htk:W.takesIn K (.builtin "object.__class__")=some true)
   (hm:W.mroIn K C (.type "object")=some true):gP K H (.ref a) (.ref C)
def iZ {x:V}{t:Value}(I:Inv X Y U H s)(rx:RelV x u)(ty:gP X.K H x t)(e:W.kitOne X.K t c=some b)(h:∀ tk,Q (.bool b) { s with toks:=tk }):
  wpAny (model X.prog X.w) A (call (.builtin "isinstance") [u,c]) Q E s:=by
 cases ty with
 |non=>cases (show u=Value.none from rx);exact W.kia_one W.kitx_none I.bQ True.intro e (λz=>nomatch z) h
 |bl y=>cases (show u=Value.bool y from rx);exact W.kia_one W.kitx_bool I.bQ True.intro e (λz=>nomatch z) h
 |int i=>obtain ⟨t,q⟩:=(show ∃ t,u=Value.int i t from rx);cases q;exact W.kia_one W.kitx_int I.bQ True.intro e (λz=>nomatch z) h
 |str y=>obtain ⟨t,q⟩:=(show ∃ t,u=Value.str y t from rx);cases q;exact W.kia_one W.kitx_str I.bQ True.intro e (λz=>nomatch z) h
 |flt y=>obtain ⟨t,q⟩:=(show ∃ t,u=Value.float y t from rx);cases q;exact W.kia_one W.kitx_float I.bQ True.intro e (λz=>nomatch z) h
 | @lst a xs ea=>
  cases (show u=Value.ref a from rx);obtain ⟨_,_,n,_,h1⟩:=(show aA X.prog X.w H s.heap a (.lst xs) from I.hok a _ ea);exact W.kia_one W.kitx_list I.bQ ⟨_,h1,rfl⟩ e (λz=>nomatch z) h
 | @frz a ob xs ea=>
  cases (show u=Value.ref a from rx);obtain ⟨_,_,_,n,_,h1⟩:=(show aA X.prog X.w H s.heap a (.frz ob (.lst xs)) from I.hok a _ ea);exact W.kia_one W.kitx_list I.bQ ⟨_,h1,rfl⟩ e (λz=>nomatch z) h
 | @tup a xs ea=>
  cases (show u=Value.ref a from rx);obtain ⟨_,_,_,p⟩:=(show aA X.prog X.w H s.heap a (.tup xs) from I.hok a _ ea);obtain ⟨o,h1,h2,_⟩:=p;exact W.kia_one W.kitx_tuple I.bQ ⟨o,h1,h2⟩ e (λz=>nomatch z) h
 | @dK a kvs ea=>
  cases (show u=Value.ref a from rx);obtain ⟨_,_,vs,_,p⟩:=(show aA X.prog X.w H s.heap a (.dK kvs) from I.hok a _ ea);obtain ⟨o,es,ep,h1,h2,_⟩:=p;exact W.kia_one W.kitx_dict I.bQ ⟨o,h1,h2.1⟩ e (λz=>nomatch z) h
 | @dT a kvs ea=>
  cases (show u=Value.ref a from rx);obtain ⟨_,_,xs,_,o,es,ep,h1,h2,_⟩:=(show aA X.prog X.w H s.heap a (.dT kvs) from I.hok a _ ea);exact W.kia_one W.kitx_dict I.bQ ⟨o,h1,h2.1⟩ e (λz=>nomatch z) h
 | @ins a C dx fs ea cl ha hn htk hm=>
  cases (show u=Value.ref a from rx);obtain ⟨mA,O,_⟩:=fE I.hok ea;obtain ⟨od,J,_⟩:=O.look;exact W.kia_one (W.kitx_own (cl.get _) cl.hd ha hn htk hm) I.bQ J e (λz=>nomatch z) h
end
structure bT (k:Nat) (A:Around):Prop where
 hd:A.handled=none
 dp:A.depth+3*k+5<recursionLimit
 un:A.units+16*k+200<cLine
def bT.mono {j:Nat}(r:bT k A)(h:j<=k):bT j A:=⟨r.hd,by have:=r.dp;omega,by have:=r.un;omega⟩
def bT.deeper (r:bT (k+1) A)(env:Env):bT k (A.deeper env):=
 ⟨r.hd,by have:=r.dp;show A.depth+1+3*k+5<_;omega,by have:=r.un;show A.units+3+16*k+200<_;omega⟩
def t5:(A.under (.builtin "type.__call__" ⟨.ref C::us,kw⟩)).depth=A.depth+1:=by
 first|rfl|simp[Around.under,Code.weight,Code.isCreation,Code.isGuard,Code.isCaller,Code.frames,Code.isFrame,guardIds]
def t4:(A.under (.builtin "type.__call__" ⟨.ref C::us,kw⟩)).units=A.units+1:=by
 first|rfl|simp[Around.under,Code.cUnits,Code.frames,Code.isFrame]
def bT.make (r:bT (k+1) A)(C:Addr)(us:List Value)(kw:List (Str×Value)):bT k (A.under (.builtin "type.__call__" ⟨.ref C::us,kw⟩)):=
 ⟨r.hd,by have:=r.dp;rw[t5];omega,by have:=r.un;rw[t4];omega⟩
def bT.depth (r:bT k A):A.depth<recursionLimit:=by have:=r.dp;omega
abbrev Cy:TA:=λ_ H Q=>Q [] H
abbrev DQ (ta:TE)(tr:TA):TA:=λU H Q=>ta U H λx H1=>tr U H1 λxs H2=>Q (x::xs) H2
section
variable {X:Cx}{e:Expr}{es:List Expr}{te:TE}{t:TA}{pos:Pos}
def eO:PA X [] Cy:=λ_ _ _ _ H Q I h=>Calls.spliced_nil ⟨[],H,I,.nil,h⟩
def A8 (ha:PE X e te)(hr:PA X es t)(hs:starEach (e::es) X.env=(false,eval e X.env)::starEach es X.env:=by rfl):PA X (e::es) (DQ te t):=by
 intro pos Y s U H Q I h;rw[hs];show wpAny _ _ (spliced ((false,eval e X.env)::backTo pos (starEach es X.env))) _ _ s;refine Calls.spliced_cons (az (ha Y s U H _ I h) λu s1 ⟨x,H1,I1,r1,q1⟩=>?_);exact az (hr pos Y s1 U H1 _ I1 q1) λus s2 ⟨xs,H2,I2,r2,q2⟩=>⟨x::xs,H2,I2,.cons r1 r2,q2⟩
abbrev KI (t:TA):TE:=λU H Q=>t U H λxs H1=>xs.length<=sizeLine/\∀ p,H1 p=none->Q (.ref p) (upd H1 p (.tup xs))
abbrev KW (t:TA):TE:=λU H Q=>t U H λxs H1=>xs.length<=sizeLine/\∀ p,H1 p=none->Q (.ref p) (upd H1 p (.lst xs))
def zl {x1} (h:PA X es t):PE X (.Tuple es x1 pos) (KI t):=by
 intro Y s U H Q I hq;refine wpAny_Tuple_spliced (az (h pos Y s U H _ I hq) λus s1 ⟨xs,H1,I1,r,z,q⟩=>⟨by rw[<-r.length];exact z,?_⟩);have hf:H1 s1.heap.objs.size=none:=I1.hok.fresh (Nat.le_refl _);refine ⟨.ref s1.heap.objs.size,upd H1 s1.heap.objs.size (.tup xs),I1.laid (t':=s1.toks) (λb u e=>Heap.get?_push_of_some _ e) (Nat.le_refl _) ?_,rfl,q _ hf⟩;exact ⟨z,us,r,⟨_,Heap.get?_push_size _ rfl,rfl,_,rfl⟩⟩
def E8 (h:PA X es t):PE X (.List es pos) (KW t):=by
 intro Y s U H Q I hq;refine wpAny_List_spliced (az (h pos Y s U H _ I hq) λus s1 ⟨xs,H1,I1,r,z,q⟩=>⟨by rw[<-r.length];exact z,?_⟩);have hf:H1 s1.heap.objs.size=none:=I1.hok.fresh (Nat.le_refl _);refine ⟨.ref s1.heap.objs.size,upd H1 s1.heap.objs.size (.lst xs),I1.laid (t':=s1.toks) (λb u e=>Heap.get?_push_of_some _ e) (Nat.le_refl _) ?_,rfl,q _ hf⟩;exact ⟨z,us,0,r,Heap.get?_push_size _ rfl⟩
end
@[reducible]def Sp:=List V->Hp->VK->XK->Prop
@[reducible]def ug:=List Env->Hp->Shared->XK->Value->Shared->Prop
structure sM (P:Program) (w:World) (K:W.Frag) (mg:ME) (base:Heap) (A:Around) (outer:List Env) (s:Shared) (H:Hp):Prop where
 frames:A.frames=some outer
 mod:Mod K mg base
 bs:∀ b o,base.get? b=some o->s.heap.get? b=some o/\H b=none
 bsz:base.objs.size<=s.heap.objs.size
 jI:s.heap.FunFrames base outer
 frf:∀ b ∈ nO outer,H b=none
 hok:gb P w H s.heap
 bare:AllBare s.gens
abbrev CE (outer:List Env)(P:Program)(w:World)(H:Hp)(s:Shared)(Q:VK)(u:Value)(s':Shared):Prop:=
 ∃ v H',s'.os=s.os/\AllBare s'.gens/\Un (nO outer) [] H H' s.heap s'.heap/\gb P w H' s'.heap/\RelV v u/\Q v H'
abbrev CR (CX:ug)(outer:List Env)(P:Program)(w:World)(H:Hp)(s:Shared)(Q:VK)(E:XK)(r:Result)(s':Shared):Prop:=
 match r with
 | .ok (.ret u)=>CE outer P w H s Q u s'
 | .ok _=>False
 | .error e=>CX outer H s E e s'
structure dh (P:Program) (w:World) (K:W.Frag) (mg:ME) (base:Heap) (CX:ug) (k:Nat) (f:Addr) (fd:FuncData) (ps:List Str) (sp:Sp):Prop where
 len:∀ vs H Q E,sp vs H Q E->vs.length=ps.length
 run:∀ (A:Around) (outer:List Env) (s:Shared) (H:Hp) (args:Args) (us:List Value) (vs:List V) (Q:VK) (E:XK),bT k A->sM P w K mg base A outer s H->BindsTo s fd args (ps.zip us)->Vals vs us->sp vs H Q E->
  codeAny (model P w) A (.call (.ref f) args) (CR CX outer P w H s Q E) s
variable {mg:ME}{base:Heap}{CX:ug}{fd:FuncData}{ps:List Str}
def dh.imp {K:W.Frag}{f:Addr}{sp sp':Sp}(F:dh P w K mg base CX k f fd ps sp)
  (h:∀ vs H Q E,sp' vs H Q E->sp vs H Q E):dh P w K mg base CX k f fd ps sp':=
 ⟨λvs H Q E q=>F.len vs H Q E (h _ _ _ _ q),λA outer s H args us vs Q E hr he hb hv hs=>F.run A outer s H args us vs Q E hr he hb hv (h _ _ _ _ hs)⟩
variable {outer:List Env}
def sM.make {K:W.Frag}(e:sM P w K mg base A outer s H)(C:Addr)(us:List Value)(kw:List (Str×Value)):
  sM P w K mg base (A.under (.builtin "type.__call__" ⟨.ref C::us,kw⟩)) outer s H:=⟨by first|exact e.frames|(simpa [Around.under,Code.envs,Code.isFrame,pushEnvs] using e.frames),e.mod,e.bs,e.bsz,e.jI,e.frf,e.hok,e.bare⟩
section
variable {X:Cx}{Y:MD}{U:St}{H:Hp}{s s':Shared}
def Inv.iP (I:Inv X Y U H s):sM X.prog X.w X.K X.mg X.base X.A X.stack s H:=
 ⟨I.ok.frames,I.ok.mod,I.bs,Nat.le_trans I.ok.bsz I.sz,I.stack,I.pA,I.hok,I.bare⟩
def Inv.after {Q:VK}(I:Inv X Y U H s)(h:CE X.stack X.prog X.w H s Q u s'):EP X Y U Q u s':=by
 obtain ⟨v,H',os,bare,un,hok,r,q⟩:=h;obtain ⟨hh,g,d,t,os'⟩:=s';obtain rfl:os'=s.os:=os;exact ⟨v,H',I.call (h':=hh) (g':=g) (d':=d) (t':=t) (ch:=[]) un hok bare (λb z=>absurd z (by simp)),r,q⟩
end
abbrev DH (sp:Sp)(dvs:List V)(E:St->XK)(t:TA):TE:=λU H Q=>t U H λvs H1=>sp (vs++dvs) H1 Q (E U)
abbrev DA (C:Addr)(sp:Sp)(dvs:List V)(E:St->XK)(t:TA):TE:=λU H Q=>t U H λvs H1=>∀ x dx,H1 x=none->H1 dx=none->dx≠x->
 sp (.ref x::(vs++dvs)) (upd (upd H1 dx (.own x)) x (.ins C dx [])) (λv H2=>v=.non/\Q (.ref x) H2) (E U)
abbrev Binds (K:W.Frag)(fd:FuncData)(ps:List Str)(ds:List Value):Prop:=
 ∀ (s:Shared) (us:List Value),K.In s.heap->(us++ds).length=ps.length->BindsTo s fd ⟨us,[]⟩ (ps.zip (us++ds))
def Binds.all {K:W.Frag}(h:∀ us:List Value,us.length=ps.length->bindArgs fd ⟨us,[]⟩=pure (ps.zip us)):Binds K fd ps []:=λs us _ hl=>by
 rw[append_nil] at hl⊢;exact .of_eq (h us hl)
abbrev Passes (CX:ug)(X:Cx)(E:St->XK):Prop:=∀ (Y:MD) (U:St) (H:Hp) (s:Shared) (e:Value) (s':Shared),Inv X Y U H s->CX X.stack H s (E U) e s'->X.xe e s'
variable {vs:List V}
section
variable {X:Cx}{CX:ug}{k:Nat}{f C:Addr}{fd:FuncData}{ps:List Str}{sp:Sp}{dvs:List V}{ds:List Value}{E:St->XK}{x m:Str}{p pos apos:Pos}{e o:Expr}{es:List Expr}{ta:TE}{t:TA}
def nZ {Q:VK}(F:dh X.prog X.w X.K X.mg X.base CX k f fd ps sp)(hr:bT k X.A)(hb:Binds X.K fd ps ds)(hd:Vals dvs ds)(hx:Passes CX X E)
  (I:Inv X Y U H s) (r:Vals vs us) (h:sp (vs++dvs) H Q (E U)):wpAny (model X.prog X.w) X.A (call (.ref f) us) (EP X Y U Q) X.xe s:=by
 have r2:Vals (vs++dvs) (us++ds):=r.append hd;have hl:(us++ds).length=ps.length:=by rw[<-r2.length];exact F.len _ _ _ _ h
 refine wpAny_call (codeAny_mono (F.run X.A X.stack s H ⟨us,[]⟩ (us++ds) (vs++dvs) Q (E U) hr I.iP (hb s us I.bQ hl) r2 h) λr s' hq=>?_);cases r with
 |error e=>exact hx Y U H s e s' I hq
 |ok fl=>
  cases fl with
  |ret u=>exact I.after hq
  |next=>exact False.elim hq
  |brk=>exact False.elim hq
  |cont=>exact False.elim hq
def Cz (F:dh X.prog X.w X.K X.mg X.base CX k f fd ps sp)(hr:bT k X.A)(hg:Gl X x)(hm:X.mg x=some (.ref f))(hk:W.keepIn X.K (.ref f)=true)(hb:Binds X.K fd ps ds)(hd:Vals dvs ds)(hx:Passes CX X E)
  (ha:PA X (e::es) t) (hdb:(x ==("__debug__":Str))=false:=by decide) (he:starEach (e::es) X.env=(false,eval e X.env)::starEach es X.env:=by rfl) (hpl:(backTo pos (starEach es X.env)).any (·.1)=false:=by rfl):
  PE X (.Call (.Name x p) (e::es) [] pos) (DH sp dvs E t):=by
 intro Y s U H Q I h;refine wpAny_Call_Name_kw (bE I hg hm ?_ hdb);refine W.callWith_K (h₀:=X.base) I.ok.mod.kin hk (az (ha pos Y s U H _ I h) λus s1 ⟨vs,H1,I1,r,q⟩=>⟨I1.bQ,?_⟩) he hpl;exact nZ F hr hb hd hx I1 r q
def zQ (F:dh X.prog X.w X.K X.mg X.base CX k f fd ps sp)(hr:bT k X.A)(hg:Gl X x)(hm:X.mg x=some (.ref f))(hk:W.keepIn X.K (.ref f)=true)(hb:Binds X.K fd ps ds)(hd:Vals dvs ds)(hx:Passes CX X E)
  (hdb:(x ==("__debug__":Str))=false:=by decide):PE X (.Call (.Name x p) [] [] pos) (DH sp dvs E Cy):=by
 intro Y s U H Q I h;refine wpAny_Call_Name_kw (bE I hg hm ?_ hdb);exact W.callWith_K0 I.bQ hk (nZ (us:=[]) F hr hb hd hx I .nil h)
structure Mk (K:W.Frag) (C f:Addr):Prop where
 makes:W.makesIn K C=true
 init:W.findIn K (.ref C) "__init__"=some (some (.ref f))
 fn:W.isFn K (.ref f)=true
 kp:W.keepIn K (.ref C)=true
def qp {Q:VK}(M:Mk X.K C f)(F:dh X.prog X.w X.K X.mg X.base CX k f fd ps sp)(hr:bT (k+1) X.A)(hb:Binds X.K fd ps ds)(hd:Vals dvs ds)
  (hx:Passes CX X E) (I:Inv X Y U H s) (r:Vals vs us)
  (h:∀ x dx,H x=none->H dx=none->dx≠x->sp (.ref x::(vs++dvs)) (upd (upd H dx (.own x)) x (.ins C dx [])) (λv H2=>v=.non/\Q (.ref x) H2) (E U)):
  wpAny (model X.prog X.w) X.A (call (.ref C) us) (EP X Y U Q) X.xe s:=by
 have hq:=h (s.heap.objs.size+1) s.heap.objs.size (I.hok.fresh (Nat.le_succ _)) (I.hok.fresh (Nat.le_refl _)) (Nat.ne_of_lt (Nat.lt_succ_self _));have I2:=Inv.made (C:=C) I;have r2:Vals (V.ref (s.heap.objs.size+1)::(vs++dvs)) (Value.ref (s.heap.objs.size+1)::(us++ds)):=.cons rfl (r.append hd);have hl:(Value.ref (s.heap.objs.size+1)::us++ds).length=ps.length:=by
  have e:=r2.length;rw[F.len _ _ _ _ hq] at e;exact e.symm
 refine wpAny_call (x8 (f:=f) I.bQ M.makes M.init (beq_iff_eq.mp M.fn) (codeAny_mono (F.run _ X.stack _ _ ⟨Value.ref (s.heap.objs.size+1)::us,[]⟩ (Value.ref (s.heap.objs.size+1)::(us++ds)) _ _ (E U) (hr.make C us [])
  (I2.iP.make C us []) (hb _ (Value.ref (s.heap.objs.size+1)::us) I2.bQ hl) r2 hq) λr s' hq'=>?_))
 cases r with
 |error e=>exact hx Y U _ _ e s' I2 hq'
 |ok fl=>
  cases fl with
  |ret u=>
   obtain ⟨v,H',I3,rv,ev,q3⟩:=I2.after hq';subst ev;exact ⟨rv,⟨V.ref (s.heap.objs.size+1),H',I3,rfl,q3⟩⟩
  |next=>exact False.elim hq'
  |brk=>exact False.elim hq'
  |cont=>exact False.elim hq'
def CB (M:Mk X.K C f)(F:dh X.prog X.w X.K X.mg X.base CX k f fd ps sp)(hr:bT (k+1) X.A)(hg:Gl X x)(hm:X.mg x=some (.ref C))(hb:Binds X.K fd ps ds)(hd:Vals dvs ds)(hx:Passes CX X E)
  (ha:PA X (e::es) t) (hdb:(x ==("__debug__":Str))=false:=by decide) (he:starEach (e::es) X.env=(false,eval e X.env)::starEach es X.env:=by rfl) (hpl:(backTo pos (starEach es X.env)).any (·.1)=false:=by rfl):
  PE X (.Call (.Name x p) (e::es) [] pos) (DA C sp dvs E t):=by
 intro Y s U H Q I h;refine wpAny_Call_Name_kw (bE I hg hm ?_ hdb);refine W.callWith_K (h₀:=X.base) I.ok.mod.kin M.kp (az (ha pos Y s U H _ I h) λus s1 ⟨vs,H1,I1,r,q⟩=>⟨I1.bQ,?_⟩) he hpl;exact qp M F hr hb hd hx I1 r q
def xu (M:Mk X.K C f)(F:dh X.prog X.w X.K X.mg X.base CX k f fd ps sp)(hr:bT (k+1) X.A)(hg:Gl X x)(hm:X.mg x=some (.ref C))(hb:Binds X.K fd ps ds)(hd:Vals dvs ds)(hx:Passes CX X E)
  (hdb:(x ==("__debug__":Str))=false:=by decide):PE X (.Call (.Name x p) [] [] pos) (DA C sp dvs E Cy):=by
 intro Y s U H Q I h;refine wpAny_Call_Name_kw (bE I hg hm ?_ hdb);exact W.callWith_K0 I.bQ M.kp (qp (us:=[]) M F hr hb hd hx I .nil h)
end
section
variable {X:Cx}{CX:ug}{k:Nat}{f C:Addr}{fd:FuncData}{ps ks:List Str}{sp:Sp}{E:St->XK}{x m:Str}{p pos apos kpos:Pos}{e o:Expr}{es:List Expr}{kws:List Keyword}{te ta:TE}{t tk:TA}{nm:Option Str}
variable {g:List Value->List Value->List Value}{gV:List V->List V->List V}
end
structure jZ (N P:List Str) (sc:Scope):Prop where
 kind:sc.kind=.function
 co:sc.isCoroutine=false
 gen:sc.isGenerator=false
 nd:N.Nodup
 pre:N.take P.length=P
 par:∀ x ∈ P,sc.names.lookup x=some .local\/sc.names.lookup x=some .cell
 nofree:∀ y ∈ sc.names,y.2≠.free
def nq {kindOf:Str->Option NameKind}{x:Str}:∀ {binds:List (Str×Value)}{m:ME},(∀ v,(x,v) ∉ binds)->bindL kindOf binds m x=m x
 | [],_,_=>rfl
 |(n,v)::r,m,h=>by
  unfold bindL;rw[nq λw hw=>h w (mem_cons_of_mem _ hw)]
  split
  ·have:x≠n:=by rintro rfl;exact h v mem_cons_self
   simp[this]
  ·rfl
def nr {kindOf:Str->Option NameKind}{x:Str}:∀ {binds:List (Str×Value)}{m:ME},(∀ v,(x,v) ∉ binds)->bindC kindOf binds m x=m x
 | [],_,_=>rfl
 |(n,v)::r,m,h=>by
  unfold bindC;rw[nr λw hw=>h w (mem_cons_of_mem _ hw)]
  split
  ·rfl
  ·have:x≠n:=by rintro rfl;exact h v mem_cons_self
   simp[this]
def mU {kindOf:Str->Option NameKind}{x:Str}{v:Value}:∀ {P:List Str}{vs:List Value}{i:Nat}{m:ME},P.Nodup->P[i]? =some x->vs[i]? =some v->kindOf x=some .local->
  bindL kindOf (P.zip vs) m x=some v
 | [],_,_,_,_,h,_,_=>by simp at h
 |_::_,[],_,_,_,_,h,_=>by simp at h
 |p::P,w::vs,0,m,nd,h1,h2,hk=>by
  simp at h1 h2;subst h1;subst h2;show bindL kindOf ((p,w)::P.zip vs) m p=_;unfold bindL;rw[nq λv hv=>(nodup_cons.mp nd).1 (of_mem_zip hv).1,if_pos hk];simp
 |p::P,w::vs,i+1,m,nd,h1,h2,hk=>by
  show bindL kindOf ((p,w)::P.zip vs) m x=_;unfold bindL;exact mU (i:=i) (nodup_cons.mp nd).2 (by simpa using h1) (by simpa using h2) hk
def mD {kindOf:Str->Option NameKind}{x:Str}{v:Value}:∀ {P:List Str}{vs:List Value}{i:Nat}{m:ME},P.Nodup->P[i]? =some x->vs[i]? =some v->kindOf x≠some .local->
  bindC kindOf (P.zip vs) m x=some v
 | [],_,_,_,_,h,_,_=>by simp at h
 |_::_,[],_,_,_,_,h,_=>by simp at h
 |p::P,w::vs,0,m,nd,h1,h2,hk=>by
  simp at h1 h2;subst h1;subst h2;show bindC kindOf ((p,w)::P.zip vs) m p=_;unfold bindC;rw[nr λv hv=>(nodup_cons.mp nd).1 (of_mem_zip hv).1,if_neg hk];simp
 |p::P,w::vs,i+1,m,nd,h1,h2,hk=>by
  show bindC kindOf ((p,w)::P.zip vs) m x=_;unfold bindC;exact mD (i:=i) (nodup_cons.mp nd).2 (by simpa using h1) (by simpa using h2) hk
abbrev start (N:List Str)(vs:List V):St:=vs.map some++List.replicate (N.length-vs.length) none
abbrev wq (CX:ug)(P:Program)(w:World)(K:W.Frag)(mg:ME)(base:Heap)(N:List Str)(qual:Str)(scope:Scope)(f:Addr)(cd:Value)(A:Around)(outer:List Env)(s:Shared)(H:Hp)(E:XK):Cx where
 prog:=P
 w:=w
 K:=K
 mg:=mg
 base:=base
 A:=A.deeper (envOfC qual scope s.heap.objs.size f cd)
 N:=N
 s₀:=s
 H₀:=H
 env:=envOfC qual scope s.heap.objs.size f cd
 outer:=outer
 stack:=envOfC qual scope s.heap.objs.size f cd::outer
 ex:=[]
 calm:=true
 fn:=λ_=>true
 pn:=[]
 xe:=λe s'=>wpAny (model P w) (A.deeper (envOfC qual scope s.heap.objs.size f cd)) (leaving (envOfC qual scope s.heap.objs.size f cd) e) (λ_ s''=>CX outer H s E e s'') (λe' s''=>CX outer H s E e' s'') s'
def rP {sc:Scope}{n:Nat}(h:sc.names.lookup x=some .cell):∃ c,(cellsFrom n sc.names []).lookup x=some c:=by
 have q:=W.cellsFrom_some sc.names n [] (.inl h);exact Option.isSome_iff_exists.mp q
variable {scope:Scope}
def wx {K:W.Frag}{N:List Str}{qual:Str}{f:Addr}{cd:Value}{s1:Shared}{E:XK}
  (S:jZ N ps scope) (hd:A.handled=none) (e0:sM P w K mg base A outer s H) (hl:vs.length=ps.length) (r:Vals vs us)
  (x:InCallC s s.heap.objs.size (bindL (envOfC qual scope s.heap.objs.size f cd).kindOf (ps.zip us) λ_=>none) (cellsFrom (s.heap.objs.size+1) scope.names []) (bindC (envOfC qual scope s.heap.objs.size f cd).kindOf (ps.zip us) λ_=>none) s1):
  Inv (wq CX P w K mg base N qual scope f cd A outer s H E) [] (start N vs) H s1:=by
 have hpl:ps.length<=N.length:=by have:=congrArg List.length S.pre;rw[length_take] at this;omega
 obtain ⟨h1,tk,rfl,hk⟩:=x.done;have noA:∀ b:Addr,b ∉ (wq CX P w K mg base N qual scope f cd A outer s H E).ex:=λb z=>absurd (show b ∈ ([]:List Addr) from z) (by simp)
 refine ⟨⟨e0.mod,S.kind,rfl,rfl,Nat.le_refl _,λy z c h1 h2=>?_,λy hy=>?_,λy c _ h=>?_,λ_=>hd,Around.frames_deeper e0.frames,.inr ⟨rfl,rfl⟩,λb z=>absurd z (noA b),e0.bs,e0.bsz,λb _ _=>noA b,λb z=>absurd z (noA b),e0.jI,e0.frf⟩,
  rfl,e0.bare,Un.kept hk,⟨_,x.toInCall.ns,λi y v h1 h2 h3=>?_⟩,λy c h=>⟨_,x.cell y c h⟩,e0.hok.fresh (Nat.le_refl _),λy c h=>?_,λp hp=>absurd (show p ∈ ([]:MD) from hp) (by simp),e0.hok.kept hk,?_⟩
 ·exact name_of_addr x.apart (PySem.mem_of_lookup h1) (PySem.mem_of_lookup h2)
 ·have hy:scope.names.lookup y=some .cell\/scope.names.lookup y=some .free:=hy;rcases hy with hy|hy
  ·exact rP hy
  ·exact absurd rfl (S.nofree _ (PySem.mem_of_lookup hy))
 ·exact Nat.le_of_lt (x.above y c (PySem.mem_of_lookup h))
 ·have hi:i<vs.length:=by
   unfold start at h2
   by_cases hi:i<vs.length
   ·exact hi
   ·rw[List.getElem?_append_right (by simpa using hi)] at h2;rw[List.getElem?_replicate] at h2
    split at h2<;>cases h2
  have ha:vs[i]? =some v:=by
   unfold start at h2;rw[List.getElem?_append_left (by simpa using hi),getElem?_map] at h2;cases e:vs[i]? with
   |none=>rw[e] at h2;cases h2
   |some a=>rw[e] at h2;cases h2;rfl
  obtain ⟨u,hu,rv⟩:=r.get ha;have hp:ps[i]? =some y:=by
   rw[<-S.pre,List.getElem?_take_of_lt nofun];exact h1
  have ndP:ps.Nodup:=by rw[<-S.pre];exact S.nd.sublist (take_sublist _ _)
  refine ⟨u,rv,?_⟩;rcases S.par y (mem_of_getElem? hp) with k|k
  ·exact .inl ⟨k,mU ndP hp hu k⟩
  ·obtain ⟨c,e⟩:=rP (n:=s.heap.objs.size+1) k;refine .inr ⟨.inl k,c,e,?_⟩;have q:=x.cell y c e;rw[mD ndP hp hu (by show scope.names.lookup y≠_;rw[k];decide)] at q;exact q
 ·exact e0.hok.fresh (Nat.le_of_lt (x.above y c (PySem.mem_of_lookup h)))
 ·unfold start;show _=N.length;rw[length_append,length_map,List.length_replicate]
  omega
def IQ {K:W.Frag}{f:Addr}{name qual:Str}{params:Arguments}{dV kV doc pm cdv ct oc:Value}{an od:Option Addr}
  {osl:Array (Option Value)}{N:List Str}{sp:Sp}(lk:K.lookup f=some ⟨oc,od,.func (W.fnOf name qual params body scope dV kV doc pm an cdv ct),osl⟩) (hcd:W.codeIn K cdv qual=true) (S:jZ N ps scope)
  (len:∀ vs H Q E,sp vs H Q E->vs.length=ps.length)
  (hbody:∀ (A:Around) (outer:List Env) (s:Shared) (H:Hp) (vs:List V) (Q:VK) (E:XK),bT k (A.deeper (envOfC qual scope s.heap.objs.size f cdv))->sp vs H Q E->
   ∃ t,A4 (wq CX P w K mg base N qual scope f cdv A outer s H E) body t/\t { nx:=λ_ H'=>Q .non H',rt:=Q } (start N vs) H):
  dh P w K mg base CX (k+1) f (W.fnOf name qual params body scope dV kV doc pm an cdv ct) ps sp:=by
 refine ⟨len,λA outer s H args us vs Q E hr e0 hb r hsp=>?_⟩;have hl:=len _ _ _ _ hsp;have KX:K.In s.heap:=e0.mod.kin.keeps λb o e=>(e0.bs b o e).1
 have lim:s.heap.NoLimit:=e0.mod.nolimit.keeps λb o e=>(e0.bs b o e).1
 have hkind:∀ y ∈ ps.zip us,scope.names.lookup y.1=some .local\/(scope.names.lookup y.1=some .cell/\((cellsFrom (s.heap.objs.size+1) scope.names []).lookup y.1).isSome=true):=λ⟨n,v⟩ hy=>by
  rcases S.par n (of_mem_zip hy).1 with q|q
  ·exact .inl q
  ·exact .inr ⟨q,W.cellsFrom_some _ _ _ (.inl q)⟩
 refine codeAny_call_function hr.depth (KX _ _ lk) rfl S.co S.gen rfl (W.codeRec_of KX hcd) (hb _ _ _ _ ?_);refine wpAny_newFunctionEnv_cells S.kind hkind λenv he s1 x=>?_
 subst he;refine ⟨lim.keeps x.toInCall.keep,codeAny_func ?_⟩;obtain ⟨t,ht,hq⟩:=hbody A outer s H vs Q E (hr.deeper _) hsp;have I:Inv (wq CX P w K mg base N qual scope f cdv A outer s H E) [] (start N vs) H s1:=wx S hr.hd e0 hl r x;refine wpAny_mono (ht [] s1 (start N vs) H _ I hq) (λfl s' hs=>?_) λe s' hs=>hs
 have fin:∀ {σ':St}{H':Hp}{v:V}{u:Value},Inv (wq CX P w K mg base N qual scope f cdv A outer s H E) [] σ' H' s'->RelV v u->Q v H'->CE outer P w H s Q u s':=
  λ{σ' H' v u} J rv q=>⟨v,H',J.os,J.bare,J.base,J.hok,rv,q⟩
 cases fl with
 |ret u=>
  obtain ⟨v,σ',H',J,rv,q⟩:=hs;exact fin J rv q
 |next=>
  obtain ⟨σ',H',J,q⟩:=hs;exact fin (v:=V.non) (u:=Value.none) J rfl q
 |brk=>
  obtain ⟨_,_,_,q⟩:=hs;exact False.elim q
 |cont=>
  obtain ⟨_,_,_,q⟩:=hs;exact False.elim q
section
variable {X:Cx}{x:Str}{p pos:Pos}{e:Expr}{es:List Expr}{t:TA}{id T:String}{r:List V->Hp->VK->Prop}
abbrev Lx (r:List V->Hp->VK->Prop)(t:TA):TE:=λU H Q=>t U H λvs H1=>r vs H1 Q
def kK (hc:cj X (.builtin id) r)(hg:Gl X x)(hm:X.mg x=none)(hv:bootBuiltins x=some (.builtin id))(ha:PA X (e::es) t)(hn:x≠"__name__":=by decide) (hdb:(x ==("__debug__":Str))=false:=by decide)
  (he:starEach (e::es) X.env=(false,eval e X.env)::starEach es X.env:=by rfl) (hpl:(backTo pos (starEach es X.env)).any (·.1)=false:=by rfl):PE X (.Call (.Name x p) (e::es) [] pos) (Lx r t):=by
 intro Y s U H Q I h;refine wpAny_Call_Name_kw (dc I hg hm hv ?_ hn hdb);exact PyProof.Rows.callWith_builtin1 (az (ha pos Y s U H _ I h) λus s1 ⟨vs,H1,I1,r1,q1⟩=>hc Y s1 U H1 vs us Q I1 r1 q1) he hpl
def vI (hc:cj X (.type T) r)(hg:Gl X x)(hm:X.mg x=none)(hv:bootBuiltins x=some (.type T))(ha:PA X (e::es) t)(hn:x≠"__name__":=by decide) (hdb:(x ==("__debug__":Str))=false:=by decide)
  (he:starEach (e::es) X.env=(false,eval e X.env)::starEach es X.env:=by rfl) (hpl:(backTo pos (starEach es X.env)).any (·.1)=false:=by rfl):PE X (.Call (.Name x p) (e::es) [] pos) (Lx r t):=by
 intro Y s U H Q I h;refine wpAny_Call_Name_kw (dc I hg hm hv ?_ hn hdb);exact PyProof.Rows.callWith_type1 (az (ha pos Y s U H _ I h) λus s1 ⟨vs,H1,I1,r1,q1⟩=>hc Y s1 U H1 vs us Q I1 r1 q1) he hpl
end
end L2
namespace HT
open PySem PyProof.Rows
section
open PySem.SeqAt
open PySem.AutoSeq1 (wpAny_loadPart')
open PySem.MeetsSeq PySem.MeetsSeq2 PySem.MeetsSeq3
end
section
variable {prog:Program}{w:World}{A:Around}{E:MC}{s:Shared}
abbrev ql (n d:Nat):Option Int->Nat
 |none=>d
 |some v=>if v<0 then (v+(n:Int)).toNat else min v.toNat n
end
end HT
namespace L2
open PySem PySem.Spec PyProof.Rows
@[reducible]def TO:=St->Hp->(Option Int->Hp->Prop)->Prop
abbrev PO (X:Cx)(e:Option Expr)(t:TO):Prop:=
 ∀ (Y:MD) (s:Shared) (U:St) (H:Hp) (Q:Option Int->Hp->Prop),Inv X Y U H s->t U H Q->
  wpAny (model X.prog X.w) X.A (evalPart e X.env) (λu s'=>∃ o H',Inv X Y U H' s'/\IsPart u o/\Q o H') X.xe s
abbrev C0:TO:=λ_ H Q=>Q none H
abbrev Ht (t:TE):TO:=λU H Q=>t U H λx H1=>∃ i,x=.int i/\Q (some i) H1
section
variable {X:Cx}{e:Expr}{te:TE}{lo hi:Option Expr}{tl th:TO}{pos p2:Pos}
def Dk:PO X none C0:=by
 intro Y s U H Q I h;rw[evalPart_none];exact wpAny_pure ⟨none,H,I,.none,h⟩
def AR (h:PE X e te):PO X (some e) (Ht te):=by
 intro Y s U H Q I hw;rw[evalPart_some];refine az (h Y s U H _ I hw) λu s1 ⟨x,H1,I1,r1,q1⟩=>?_
 obtain ⟨i,rfl,q⟩:=q1;obtain ⟨t,rfl⟩:=r1;exact ⟨some i,H1,I1,.int i t,q⟩
abbrev JI (X:Cx)(r:V->Option Int->Option Int->Hp->VK->Prop):Prop:=
 ∀ (Y:MD) (s:Shared) (U:St) (H:Hp) (x:V) (v vl vu:Value) (lo hi:Option Int) (sl:Addr) (Q:VK),Inv X Y U H s->RelV x v->s.heap.IsSliceOf sl vl vu .none->IsPart vl lo->IsPart vu hi->r x lo hi H Q->
  ∃ T id,typeLookup (.type T) "__getitem__"=pure (some (.builtin id))/\s.TypeIs v T/\wpAny (model X.prog X.w) X.A (getItem v (.ref sl)) (EP X Y U Q) X.xe s
abbrev LZ (r:V->Option Int->Option Int->Hp->VK->Prop)(te:TE)(tl th:TO):TE:=λU H Q=>te U H λx H1=>tl U H1 λl H2=>th U H2 λu H3=>r x l u H3 Q
def Aq {r:V->Option Int->Option Int->Hp->VK->Prop}(hr:JI X r)(he:PE X e te)(hl:PO X lo tl)(hu:PO X hi th):PE X (.Subscript e (.Slice lo hi none p2) pos) (LZ r te tl th):=by
 intro Y s U H Q I h;refine Subscript_ (az (he Y s U H _ I h) λv s1 ⟨x,H1,I1,r1,q1⟩=>?_);refine wpAny_Slice (az (hl Y s1 U H1 _ I1 q1) λvl s2 ⟨l,H2,I2,pl,q2⟩=>az (hu Y s2 U H2 _ I2 q2) λvu s3 ⟨u,H3,I3,pu,q3⟩=>?_);rw[evalPart_none];refine wpAny_pure ?_;have I4:Inv X Y U H3 { s3 with heap:=s3.heap.push { cls:=.type "slice",data:=.fields #[vl,vu,.none] } }:=I3.kept (t':=s3.toks) λb ob q=>Heap.get?_push_of_some _ q
 obtain ⟨T,id,hT,ht,hg⟩:=hr Y { s3 with heap:=s3.heap.push { cls:=.type "slice",data:=.fields #[vl,vu,.none] } } U H3 x v vl vu l u s3.heap.objs.size Q I4 r1 (Heap.IsSliceOf.new ..) pl pu q3;show wpAny (model X.prog X.w) X.A (subscriptTail e (.Slice lo hi none p2) v (.ref s3.heap.objs.size)) (EP X Y U Q) X.xe { s3 with heap:=s3.heap.push { cls:=.type "slice",data:=.fields #[vl,vu,.none] } };exact tail_any (ops:=[.ref s3.heap.objs.size,v]) ht hT hg (by with_unfolding_all rfl)
abbrev fg (xs:List V)(lo hi:Option Int):List V:=(xs.drop (HT.ql xs.length 0 lo)).take (HT.ql xs.length xs.length hi-HT.ql xs.length 0 lo)
def qb (xs:List V)(lo hi:Option Int):(fg xs lo hi).length<=xs.length:=by
 unfold fg;rw[length_take,length_drop]
 omega
end
abbrev yc (n:Nat)(i:Int):Option Nat:=if 0<=i then (if i<n then some i.toNat else none) else if -(n:Int)<=i then some (i+n).toNat else none
variable {α:Type}
abbrev lL (xs:List α)(i:Int):Option α:=(yc xs.length i).bind λj=>xs[j]?
variable {n:Nat}
def uU {i:Int}{j:Nat}(h:yc n i=some j):seqIndex? i n=some j/\j<n/\ -(n:Int)<=i/\i<n:=by
 unfold yc at h
 by_cases h0:0<=i
 ·rw[if_pos h0] at h
  by_cases h1:i<n
  ·rw[if_pos h1] at h;have e:i.toNat=j:=Option.some.inj h;exact ⟨by rw[seqIndex_of h0 h1,e],by omega,by omega,h1⟩
  ·rw[if_neg h1] at h;cases h
 ·rw[if_neg h0] at h
  by_cases h1: -(n:Int)<=i
  ·rw[if_pos h1] at h;have e:(i+n).toNat=j:=Option.some.inj h;exact ⟨by rw[seqIndex_neg nofun h1,e],by omega,h1,by omega⟩
  ·rw[if_neg h1] at h;cases h
def aI {xs:List α}{i:Int}{v:α}(h:lL xs i=some v):∃ j,seqIndex? i xs.length=some j/\xs[j]? =some v/\j<xs.length/\ -(xs.length:Int)<=i/\i<xs.length:=by
 unfold lL at h;cases e:yc xs.length i with
 |none=>rw[e] at h;cases h
 |some j=>
  rw[e] at h;obtain ⟨h1,h2,h3,h4⟩:=uU e;exact ⟨j,h1,h,h2,h3,h4⟩
def pd {xs:List α}{j:Nat}{v:α}(h:xs[j]? =some v):lL xs (j:Int)=some v:=by
 have hj:j<xs.length:=(List.getElem?_eq_some_iff.mp h).1;have e:yc xs.length (j:Int)=some j:=by
  unfold yc;rw[if_pos nofun,if_pos nofun];simp
 unfold lL;rw[e];exact h
abbrev uK (b:Expr):Prop:=∀ o i,subscripted b false o i=operate [o,i] (getItem o i)
abbrev IY (X:Cx)(r:R2):Prop:=
 ∀ (value slice:Expr) (Y:MD) (s:Shared) (U:St) (H:Hp) (x y:V) (v u:Value) (Q:VK),Inv X Y U H s->RelV x v->RelV y u->r x y H Q->
  subscripted slice false v u=operate [v,u] (getItem v u)->wpAny (model X.prog X.w) X.A (subscriptTail value slice v u) (EP X Y U Q) X.xe s
abbrev JB (X:Cx)(id:String)(r:V->List V->Hp->VK->Prop):Prop:=
 ∀ (Y:MD) (s:Shared) (U:St) (H:Hp) (x:V) (xs:List V) (v:Value) (us:List Value) (Q:VK),Inv X Y U H s->RelV x v->Vals xs us->r x xs H Q->
  wpAny (model X.prog X.w) X.A (call (.builtin id) (v::us)) (EP X Y U Q) X.xe s
variable {Y:MD}{U:St}{H:Hp}{s:Shared}{y:V}{u:Value}
section
variable {X:Cx}{a b:Expr}{ta tb:TE}{pos:Pos}
def Ia {r:R2}(hr:IY X r)(ha:PE X a ta)(hb:PE X b tb)(hs:uK b):PE X (.Subscript a b pos) (JM r ta tb):=by
 intro Y s U H Q I h;exact Subscript_ (F3 ha hb I h λv u s2 x y H2 I2 rx ry q=>hr a b Y s2 U H2 x y v u Q I2 rx ry q (hs _ _))
abbrev J4 (K:W.Frag):R2:=λx y H Q=>∃ p xs i v,x=.ref p/\y=.int i/\aS K H p xs/\lL xs i=some v/\Q v H
abbrev KU (K:W.Frag):R2:=λx y H Q=>∃ p xs i v,x=.ref p/\y=.int i/\aZ K H p xs/\lL xs i=some v/\Q v H
def Df:IY X (J4 X.K):=by
 intro value slice Y s U H x y v u Q I rx ry h hs;obtain ⟨p,xs,i,z,rfl,rfl,hq,he,q⟩:=h;cases rx;obtain ⟨t,rfl⟩:=ry;obtain ⟨its,r,pl,hz⟩:=I.list hq;obtain ⟨j,h1,h2,h3,h4,h5⟩:=aI he;obtain ⟨w,ew,rw'⟩:=r.get h2;have hl:=r.length;have hn:=gg;have fin:EP X Y U Q w s:=⟨z,H,I,rw',q⟩
 by_cases h0:0<=i
 ·have hj:i.toNat=j:=by
   rw[seqIndex_of h0 h5] at h1;exact Option.some.inj h1
  exact item_listR pl.isList h0 nofun (by rw[hj];simpa using ew) fin hs
 ·have hj:(i+(its.toArray.size:Int)).toNat=j:=by
   rw[seqIndex_neg nofun h4] at h1;rw[size_toArray,<-hl];exact Option.some.inj h1
  exact subscriptTail_builtinR (x:=w) pl.isList.typeIs slot_list_getitem.lookup
   (wpAny_getItem_list_neg (Q:=λr s'=>r=w/\EP X Y U Q r s') pl.isList nofun (by rw[size_toArray]<;>omega) nofun (by rw[hj];simpa using ew) ⟨rfl,fin⟩) hs
def EC:IY X (KU X.K):=by
 intro value slice Y s U H x y v u Q I rx ry h hs;obtain ⟨p,xs,i,z,rfl,rfl,hq,he,q⟩:=h;cases rx;obtain ⟨t,rfl⟩:=ry;obtain ⟨its,r,pl,hz⟩:=I.tuple hq;obtain ⟨j,h1,h2,h3,h4,h5⟩:=aI he;obtain ⟨w,ew,rw'⟩:=r.get h2;have hl:=r.length;have hn:=gg;have fin:EP X Y U Q w s:=⟨z,H,I,rw',q⟩;exact subscriptTail_builtinR (x:=w) pl.typeIs slot_tuple_getitem.lookup
  (getItem_tuple (j:=j) (Q:=λr s'=>r=w/\EP X Y U Q r s') pl nofun nofun (by rw[size_toArray,<-hl];exact h1) (by simpa using ew) ⟨rfl,fin⟩) hs
def sv (its:List Value)(n j:Nat)(u:Value):Obj.mapSeq (·.setIfInBounds j u) { cls:=.type "list",data:=.seq its.toArray n }={ cls:=.type "list",data:=.seq (its.set j u).toArray n }:=by
 simp[Obj.mapSeq]
def Inv.lst {Y:MD}{U:St}{H:Hp}{s:Shared}{p:Addr}{xs:List V}(I:Inv X Y U H s)(h:H p=some (.lst xs)):
  ∃ (its:List Value) (n:Nat),Vals xs its/\s.heap.get? p=some { cls:=.type "list",data:=.seq its.toArray n }/\xs.length<=sizeLine:=by
 obtain ⟨z,its,n,r,e⟩:=I.hok p _ h;exact ⟨its,n,r,e,z⟩
def Inv.Ep {p:Addr}{xs ys:List V}{its its':List Value}{n':Nat}{f:Obj->Obj}(I:Inv X Y U H s)(h:H p=some (.lst xs))
  (ho:s.heap.get? p=some { cls:=.type "list",data:=.seq its.toArray n }) (hf:f { cls:=.type "list",data:=.seq its.toArray n }={ cls:=.type "list",data:=.seq its'.toArray n' }) (r:Vals ys its') (hz:ys.length<=sizeLine) (t:Nat):
  Inv X Y U (upd H p (.lst ys)) { s with heap:=s.heap.update p f,toks:=t }:=by
 have e:(s.heap.update p f).get? p=some { cls:=.type "list",data:=.seq its'.toArray n' }:=by
  rw[Heap.get?_update_self f ho (by rw[hf]<;>rfl),hf]
 refine I.write (x:=p) (e:=p) (by rw[h];trivial) (.inl rfl) (λb u hb q=>(Heap.get?_update_other _ _ (Ne.symm hb)).trans q) ⟨_,e⟩ ?_;exact ⟨hz,its',n',r,e⟩
abbrev Jn:V->V->V->Hp->(Hp->Prop)->Prop:=λo i v H Q=>∃ p xs k j,o=.ref p/\i=.int k/\H p=some (.lst xs)/\yc xs.length k=some j/\Q (upd H p (.lst (xs.set j v)))
def set_list:CI X Jn:=by
 intro Y s U H o i v ov iv u Q I ro ri rv h;obtain ⟨p,xs,k,j,rfl,rfl,hp,hj,q⟩:=h;cases ro;obtain ⟨t,rfl⟩:=ri;obtain ⟨its,n,r,ho,hz⟩:=I.lst hp;obtain ⟨h1,h2,h3,h4⟩:=uU hj;have hl:=r.length;have hn:=gg;have I':Inv X Y U (upd H p (.lst (xs.set j v))) { s with heap:=s.heap.update p (Obj.mapSeq (·.setIfInBounds j u)) }:=
  I.Ep hp ho (sv its n j u) (r.set rv j) (by rw[length_set];exact hz) s.toks
 by_cases h0:0<=k
 ·have hk:k.toNat=j:=by
   rw[seqIndex_of h0 h4] at h1;exact Option.some.inj h1
  exact W.ki_setAt ho h0 nofun (by rw[size_toArray,<-hl];exact h4) (by rw[hk];exact ⟨_,I',q⟩)
 ·have hk:(k+(its.toArray.size:Int)).toNat=j:=by
   rw[seqIndex_neg nofun h3] at h1;rw[size_toArray,<-hl];exact Option.some.inj h1
  exact W.ki_setBack ho nofun (by rw[size_toArray,<-hl];exact h3) nofun (by rw[hk];exact ⟨_,I',q⟩)
def nD (lo hi:Option Int)(n:Nat):(sliceBounds lo hi none n).1=((HT.ql n 0 lo:Nat):Int)/\(sliceBounds lo hi none n).2.1=((HT.ql n n hi:Nat):Int)/\(sliceBounds lo hi none n).2.2=1:=by
 refine ⟨?_,?_,rfl⟩
 ·cases lo with
  |none=>simp[sliceBounds,HT.ql]
  |some i=>
   simp only[sliceBounds,HT.ql,Option.getD_none,show (1:Int)>0 by decide,if_true]
   by_cases h:i<0
   ·simp only[h,if_true]<;>omega
   ·simp only[h,if_false]<;>omega
 ·cases hi with
  |none=>simp[sliceBounds,HT.ql]
  |some i=>
   simp only[sliceBounds,HT.ql,Option.getD_none,show (1:Int)>0 by decide,if_true]
   by_cases h:i<0
   ·simp only[h,if_true]<;>omega
   ·simp only[h,if_false]<;>omega
def mq (its:List Value)(lo hi:Option Int):slicePick its.toArray lo hi none=((its.drop (HT.ql its.length 0 lo)).take (HT.ql its.length its.length hi-HT.ql its.length 0 lo)).toArray:=by
 obtain ⟨h1,h2,h3⟩:=nD lo hi its.toArray.size;unfold slicePick;rw[h1,h2,h3];simp only[sliceRange_one,pick_run,size_toArray]<;>rfl
abbrev J8 (K:W.Frag):V->Option Int->Option Int->Hp->VK->Prop:=λx lo hi H Q=>∃ a xs,x=.ref a/\aS K H a xs/\∀ p,H p=none->Q (.ref p) (upd H p (.lst (fg xs lo hi)))
def CN:JI X (J8 X.K):=by
 intro Y s U H x v vl vu lo hi sl Q I rx hs pl pu h;obtain ⟨a,xs,rfl,hx,q⟩:=h;cases rx;obtain ⟨its,r,ht,hz⟩:=I.list hx;have hlen:=r.length;refine ⟨"list",_,slot_list_getitem.lookup,ht.isList.typeIs,?_⟩;refine wpAny_getItem_list_slice ht.isList hs pl pu .none (by simp) ?_ (by rw[size_toArray]<;>omega);rw[mq,<-hlen];refine ⟨.ref s.heap.objs.size,_,I.laid (t':=s.toks) (o:=.lst (fg xs lo hi)) (λb ob q=>Heap.get?_push_of_some _ q) (Nat.le_refl _) ?_,rfl,q _ (I.hok.fresh (Nat.le_refl _))⟩;exact ⟨Nat.le_trans (qb xs lo hi) hz,_,0,(r.drop (HT.ql xs.length 0 lo)).take (HT.ql xs.length xs.length hi-HT.ql xs.length 0 lo),Heap.get?_push_size _ rfl⟩
abbrev aR:V->Bool
 | .non=>true
 | .bl _=>true
 | .int _=>true
 | .str _=>true
 |_=>false
abbrev d4:V->V->Bool
 | .non,.non=>true
 | .bl a,.bl b=>a ==b
 | .bl a,.int b=>(if a then 1 else 0) ==b
 | .int a,.bl b=>a ==(if b then 1 else 0)
 | .int a,.int b=>a ==b
 | .str a,.str b=>a ==b
 |_,_=>false
def Av {A:Around}{x:V}{v:Value}(ry:RelV y u)(rx:RelV x v)(fy:aR y=true)(fx:aR x=true):SeqAt.EqAt A s u v (d4 y x):=by
 cases y with
 |non=>
  cases ry;cases x with
  |non=>cases rx;exact SeqAt.EqAt.same _
  |bl b=>cases rx;exact SeqAt.EqAt.none_bool b
  |int b=>obtain ⟨t,rfl⟩:=rx;exact SeqAt.EqAt.none_int b t
  |str b=>obtain ⟨t,rfl⟩:=rx;exact SeqAt.EqAt.none_str b t
  |_=>exact absurd (show false=true from fx) Bool.false_ne_true
 |bl a=>
  cases ry;cases x with
  |non=>cases rx;exact SeqAt.EqAt.bool_none a
  |bl b=>cases rx;exact SeqAt.EqAt.bool_bool a b
  |int b=>obtain ⟨t,rfl⟩:=rx;exact SeqAt.EqAt.bool_int a b t
  |str b=>obtain ⟨t,rfl⟩:=rx;exact SeqAt.EqAt.bool_str a b t
  |_=>exact absurd (show false=true from fx) Bool.false_ne_true
 |int a=>
  obtain ⟨t',rfl⟩:=ry;cases x with
  |non=>cases rx;exact SeqAt.EqAt.int_none a t'
  |bl b=>cases rx;exact SeqAt.EqAt.int_bool a t' b
  |int b=>obtain ⟨t,rfl⟩:=rx;exact SeqAt.EqAt.int_int a t' b t
  |str b=>obtain ⟨t,rfl⟩:=rx;exact SeqAt.EqAt.int_str a t' b t
  |_=>exact absurd (show false=true from fx) Bool.false_ne_true
 |str a=>
  obtain ⟨t',rfl⟩:=ry;cases x with
  |non=>cases rx;exact SeqAt.EqAt.str_none a t'
  |bl b=>cases rx;exact SeqAt.EqAt.str_bool a t' b
  |int b=>obtain ⟨t,rfl⟩:=rx;exact SeqAt.EqAt.str_int a t' b t
  |str b=>obtain ⟨t,rfl⟩:=rx;exact SeqAt.EqAt.str_str a t' b t
  |_=>exact absurd (show false=true from fx) Bool.false_ne_true
 |_=>exact absurd (show false=true from fy) Bool.false_ne_true
abbrev A5 (x:V)(u:Value):Bool:=match u with
 | .none=>d4 .non x
 | .bool b=>d4 (.bl b) x
 | .int i _=>d4 (.int i) x
 | .str z _=>d4 (.str z) x
 |_=>false
def yR {x:V}(r:RelV y u)(f:aR y=true):A5 x u=d4 y x:=by
 cases y with
 |non=>cases r;rfl
 |bl b=>cases r;rfl
 |int i=>obtain ⟨t,rfl⟩:=r;rfl
 |str z=>obtain ⟨t,rfl⟩:=r;rfl
 |_=>exact absurd (show false=true from f) Bool.false_ne_true
def om {x:V}:∀ {xs:List V}{us:List Value},Vals xs us->xs.all aR=true->us.any (A5 x)=xs.any λy=>d4 y x
 |_,_,.nil,_=>rfl
 |y::xs,u::us,.cons r t,f=>by
  rw[all_cons,Bool.and_eq_true] at f;rw[any_cons,any_cons,yR r f.1,om t f.2]
def lG {A:Around}{s:Shared}{x:V}{v:Value}(rx:RelV x v)(fx:aR x=true):∀ {xs:List V}{us:List Value},Vals xs us->xs.all aR=true->∀ u ∈ us,SeqAt.EqAt A s u v (A5 x u)
 |_,_,.nil,_=>λu hu=>by cases hu
 |y::xs,u::us,.cons r t,f=>λu' hu=>by
  rw[all_cons,Bool.and_eq_true] at f;rcases mem_cons.mp hu with rfl|hu
  ·rw[yR r f.1];exact Av r rx f.1 fx
  ·exact lG rx fx t f.2 u' hu
abbrev G2 (x:V)(xs:List V):Bool:=xs.any λy=>d4 y x
abbrev Me (K:W.Frag)(neg:Bool):R2:=λx y H Q=>∃ p xs,y=.ref p/\(aS K H p xs\/aZ K H p xs)/\aR x=true/\xs.all aR=true/\Q (.bl (if neg then !G2 x xs else G2 x xs)) H
def vp:cR X (compareOp .In) (Me X.K false):=by
 intro Y s U H x y v u Q I rx ry h;obtain ⟨p,xs,rfl,hq,fx,fs,q⟩:=h;cases ry;rcases hq with hq|hq
 ·obtain ⟨its,r,pl,hz⟩:=I.list hq;refine SeqAt.in_listAt (A5 x) pl.isList (λw hw=>lG rx fx r fs w (by simpa using hw)) ⟨.bl _,H,I,rfl,?_⟩;rw[show its.toArray.any (A5 x)=its.any (A5 x) by simp,om r fs];exact q
 ·obtain ⟨its,r,pl,hz⟩:=I.tuple hq;refine SeqAt.in_tupleAt (A5 x) pl (λw hw=>lG rx fx r fs w (by simpa using hw)) ⟨.bl _,H,I,rfl,?_⟩;rw[show its.toArray.any (A5 x)=its.any (A5 x) by simp,om r fs];exact q
def nY:cj X (.type "list") (λxs H Q=>∃ p ys,xs=[.ref p]/\(aS X.K H p ys\/aZ X.K H p ys)/\∀ l,H l=none->Q (.ref l) (upd H l (.lst ys))):=by
 intro Y s U H xs us Q I r h;obtain ⟨p,ys,rfl,hq,q⟩:=h;obtain ⟨u,rfl,rx⟩:=vals1 r;cases rx;have fin:∀ (its:List Value),Vals ys its->ys.length<=sizeLine->∀ (h':Heap) (c':Nat),(∀ b o',s.heap.get? b=some o'->h'.get? b=some o')->
   h'.get? s.heap.objs.size=some { cls:=.type "list",dict:=none,data:=.seq its.toArray c',slots:=#[] }->EP X Y U Q (.ref s.heap.objs.size) { s with heap:=h' }:=λits r' hz h' c' kp e=>
  ⟨.ref s.heap.objs.size,_,I.laid (t':=s.toks) kp (Nat.le_refl _) (show aA X.prog X.w _ h' _ (.lst ys) from ⟨hz,its,c',r',e⟩),rfl,q _ (I.hok.fresh (Nat.le_refl _))⟩
 rcases hq with hq|hq
 ·obtain ⟨its,r',pl,hz⟩:=I.list hq;have hlen:=r'.length;obtain ⟨o,ho,hc,n,hd⟩:=pl.isList;exact call_list_seq p (.inl rfl) ho hc hd (λh' c' kp e=>fin its r' hz h' c' kp e) (by simp only[size_toArray]<;>omega)
 ·obtain ⟨its,r',pl,hz⟩:=I.tuple hq;have hlen:=r'.length;obtain ⟨o,ho,hc,n,hd⟩:=pl;exact call_list_seq p (.inr rfl) ho hc hd (λh' c' kp e=>fin its r' hz h' c' kp e) (by simp only[size_toArray]<;>omega)
def ma:cj X (.type "tuple") (λxs H Q=>∃ p ys,xs=[.ref p]/\((aS X.K H p ys/\∀ l,H l=none->Q (.ref l) (upd H l (.tup ys)))\/(aZ X.K H p ys/\Q (.ref p) H))):=by
 intro Y s U H xs us Q I r h;obtain ⟨p,ys,rfl,h⟩:=h;obtain ⟨u,rfl,rx⟩:=vals1 r;cases rx;rcases h with ⟨hq,q⟩|⟨hq,q⟩
 ·obtain ⟨its,r',pl,hz⟩:=I.list hq;have hlen:=r'.length;refine call_tuple_list pl.isList (λh' kp=>?_) (by simp only[size_toArray]<;>omega);have I1:Inv X Y U H { s with heap:=h' }:=I.kept (t':=s.toks) kp;have I2:Inv X Y U (upd H h'.objs.size (.tup ys)) { s with heap:=h'.push { cls:=.type "tuple",data:=.seq its.toArray } }:=
   I1.laid (t':=s.toks) (λb o e=>Heap.get?_push_of_some _ e) (Nat.le_refl _) (show aA X.prog X.w _ _ _ (.tup ys) from ⟨hz,its,r',IsTup.new _ _⟩)
  exact ⟨.ref h'.objs.size,_,I2,rfl,q _ (I1.hok.fresh (Nat.le_refl _))⟩
 ·obtain ⟨its,r',pl,hz⟩:=I.tuple hq;exact call_tuple_same pl ⟨.ref p,H,I,rfl,q⟩
abbrev K6 (K:W.Frag)(T:String)(x:V)(H:Hp):Prop:=match x with
 | .str _=>T="str"
 | .int _=>T="int"
 | .ref p=>(T="list"/\∃ xs,aS K H p xs)\/(T="tuple"/\∃ o,K.lookup p=some o/\o.cls=.type "tuple"/\o.dict=none)\/
   (T="dict"/\((∃ kvs,H p=some (.dK kvs))\/∃ kvs,H p=some (.dT kvs)))\/(T="set"/\∃ S n,H p=some (.set S n))
 |_=>False
def tj {T:String}{x:V}{v:Value}(I:Inv X Y U H s)(r:RelV x v)(ty:K6 X.K T x H):
  s.TypeIs v T/\∀ a,v=.ref a->∃ ob,s.heap.get? a=some ob/\ob.dict=none:=by
 cases x with
 |str z=>
  obtain ⟨t,rfl⟩:=r;cases (show T="str" from ty);exact ⟨typeIs_str s z t,λ_ e=>nomatch e⟩
 |int i=>
  obtain ⟨t,rfl⟩:=r;cases (show T="int" from ty);exact ⟨typeIs_int s i t,λ_ e=>nomatch e⟩
 |ref p=>
  cases r;rcases ty with ⟨rfl,xs,hq⟩|⟨rfl,o,hk,hc,hd⟩|⟨rfl,hk⟩|⟨rfl,S,n,hk⟩
  ·obtain ⟨its,_,pl,_⟩:=I.list hq;refine ⟨pl.isList.typeIs,λa e=>?_⟩;cases e;obtain ⟨o,n,e,c,hd,_⟩:=pl;exact ⟨o,e,hd⟩
  ·refine ⟨⟨o,I.bQ p o hk,hc⟩,λa e=>?_⟩;cases e;exact ⟨o,I.bQ _ o hk,hd⟩
  ·have z:∃ o,s.heap.get? p=some o/\o.ExactDict:=by
    rcases hk with ⟨kvs,hk⟩|⟨kvs,hk⟩
    ·obtain ⟨_,_,_,_,o,_,_,e,ex,_⟩:=I.hok p _ hk;exact ⟨o,e,ex⟩
    ·obtain ⟨_,_,_,_,o,_,_,e,ex,_⟩:=I.hok p _ hk;exact ⟨o,e,ex⟩
   obtain ⟨o,e,ex⟩:=z;refine ⟨⟨o,e,ex.1⟩,λa e2=>?_⟩;cases e2;exact ⟨o,e,ex.2.1⟩
  ·obtain ⟨o,_,_,_,e,ex,_⟩:=I.hok p _ hk;refine ⟨⟨o,e,ex.1⟩,λa e2=>?_⟩;cases e2;exact ⟨o,e,ex.2.1⟩
 |_=>exact False.elim ty
abbrev K4 (K:W.Frag)(T:String)(r:V->List V->Hp->VK->Prop)(to:TE):TE:=λU H Q=>to U H λx H1=>K6 K T x H1/\r x [] H1 Q
abbrev LO (K:W.Frag)(T:String)(r:V->List V->Hp->VK->Prop)(to:TE)(t:TA):TE:=λU H Q=>to U H λx H1=>K6 K T x H1/\t U H1 λxs H2=>r x xs H2 Q
variable {o e:Expr}{es:List Expr}{to:TE}{t:TA}{name:Str}{apos cpos:Pos}{T id:String}{r:V->List V->Hp->VK->Prop}
def Gg (pa:PlainAttrs T)(slot:Slot T name id)(hty:typeOf (.builtin id)=pure (.type "method_descriptor")) (hm:JB X id r) (ho:PE X o to)
  (hbase:attributeBase o name X.env (eval o X.env)=eval o X.env:=by rfl) (hline:(apos.endLine ==cpos.line)=true:=by rfl):PE X (.Call (.Attribute o name apos) [] [] cpos) (K4 X.K T r to):=by
 intro Y s U H Q I h;refine wpAny_Call_method0_late hbase hline (az (ho Y s U H _ I h) λv s1 ⟨x,H1,I1,r1,ty,q1⟩=>?_);obtain ⟨h1,h2⟩:=tj I1 r1 ty;exact ⟨T,id,pa,slot,hty,h1,h2,Calls.callWith_builtin rfl (PySem.evalArgs_none (hm Y s1 U H1 x [] v [] Q I1 r1 .nil q1))⟩
def Hh (pa:PlainAttrs T)(slot:Slot T name id)(hty:typeOf (.builtin id)=pure (.type "method_descriptor")) (hm:JB X id r) (ho:PE X o to) (ha:PA X (e::es) t)
  (hbase:attributeBase o name X.env (eval o X.env)=eval o X.env:=by rfl)
  (hfew:((backTo cpos (starEach (e::es) X.env)).all (λx=>!x.1)&&(backToKw cpos (keywordEach [] X.env)).all (λx=>x.1.isSome)
   &&decide ((e::es).length+([]:List Keyword).length+(if ([]:List Keyword).isEmpty then 0 else 1)<30))=true:=by rfl)
  (hline:(apos.endLine ==cpos.line)=true:=by rfl) (hs:starEach (e::es) X.env=(false,eval e X.env)::starEach es X.env:=by rfl) (hplain:(backTo cpos (starEach es X.env)).any (·.1)=false:=by rfl):
  PE X (.Call (.Attribute o name apos) (e::es) [] cpos) (LO X.K T r to t):=by
 intro Y s U H Q I h;refine wpAny_Call_method_late hbase hfew hline rfl (az (ho Y s U H _ I h) λv s1 ⟨x,H1,I1,r1,ty,q1⟩=>?_);obtain ⟨h1,h2⟩:=tj I1 r1 ty;refine ⟨T,id,pa,slot,hty,h1,h2,?_⟩;have hA:=ha cpos Y s1 U H1 _ I1 q1;rw[hs] at hA⊢;refine Calls.callWith_builtin (by show (false||(backTo cpos (starEach es X.env)).any (·.1))=false;rw[hplain]<;>rfl) (Calls.evalArgs_plain ?_);exact az hA λus s2 ⟨vs,H2,I2,r2,q2⟩=>hm Y s2 U H2 x vs v us Q I2 r1 r2 q2
/- xs.append(e),list.index on a module's tuple .. are JB facts of 06m -/
end
abbrev JZ (X:Cx)(id:String)(r:V->List V->Hp->VK->Prop):Prop:=
 ∀ (Y:MD) (s:Shared) (U:St) (H:Hp) (x:V) (xs:List V) (v:Value) (us:List Value) (Q:VK),Inv X Y U H s->RelV x v->Vals xs us->r x xs H Q->
  wpAny (model X.prog X.w) X.A (call (.builtin id) (v::us)) (EP X Y U Q) X.xe s
def Vals.one:∀ {x:V}{us:List Value},Vals [x] us->∃ u,us=[u]/\RelV x u
 |_,_,.cons r .nil=>⟨_,rfl,r⟩
def Vals.zero:∀ {us:List Value},Vals [] us->us=[]
 |_,.nil=>rfl
def Vals.eraseIdx:∀ {xs:List V}{us:List Value}(i:Nat),Vals xs us->Vals (xs.eraseIdx i) (us.eraseIdx i)
 |_,_,_,.nil=>.nil
 |_,_,0,.cons _ t=>t
 |_,_,i+1,.cons r t=>.cons r (Vals.eraseIdx i t)
variable {us:List Value}
def Vals.reverse {xs:List V}(h:Vals xs us):Vals xs.reverse us.reverse:=by
 induction h with
 |nil=>exact .nil
 |cons r t ih=>rw[List.reverse_cons,List.reverse_cons];exact Vals.append ih (.cons r .nil)
def Vals.rep {xs:List V}(h:Vals xs us):∀ k:Nat,Vals (List.replicate k xs).flatten (List.replicate k us).flatten
 |0=>.nil
 |k+1=>by
  rw[replicate_succ,replicate_succ,flatten_cons,flatten_cons];exact Vals.append h (Vals.rep h k)
def foldl_rep (its:List Value):∀ (k:Nat) (acc:List Value),
  List.foldl (λx1 x2=>x1++x2) acc.toArray (List.replicate k its.toArray)=(acc++(List.replicate k its).flatten).toArray
 |0,acc=>by simp
 |k+1,acc=>by
  have e:acc.toArray++its.toArray=(acc++its).toArray:=by simp
  have e2:(acc++its)++(List.replicate k its).flatten=acc++(List.replicate (k+1) its).flatten:=by
   rw[replicate_succ,flatten_cons,append_assoc]
  rw[<-e2,<-foldl_rep its k (acc++its),<-e,replicate_succ,foldl_cons]
section
variable {X:Cx}{Y:MD}{U:St}{H:Hp}{s:Shared}{l b:Addr}{xs ys zs:List V}
def Inv.GR {its its':List Value}{f:Array Value->Array Value}{t':Nat}(I:Inv X Y U H s)(hH:H l=some (.lst xs))
  (e:s.heap.get? l=some { cls:=.type "list",data:=.seq its.toArray n }) (hf:f its.toArray=its'.toArray) (hv:Vals ys its') (hz:ys.length<=sizeLine):
  Inv X Y U (upd H l (.lst ys)) { s with heap:=s.heap.update l (Obj.mapSeq f),toks:=t' }:=by
 have q:=PySem.IsL.update e f;rw[hf] at q;refine I.write (x:=l) (e:=l) (by rw[hH];exact trivial) (.inl rfl) (λb' u hb hu=>(Heap.get?_update_other s.heap (Obj.mapSeq f) (Ne.symm hb)).trans hu) ⟨_,q⟩ ?_;exact ⟨hz,its',_,hv,q⟩
def Inv.HE {its:List Value}{t':Nat}(I:Inv X Y U H s)(hv:Vals ys its)(hz:ys.length<=sizeLine):
  Inv X Y U (upd H s.heap.objs.size (.lst ys)) { s with heap:=s.heap.push { cls:=.type "list",data:=.seq its.toArray },toks:=t' }:=
 I.laid (λ_ _ q=>Heap.get?_push_of_some _ q) (Nat.le_refl _) ⟨hz,its,0,hv,Heap.get?_push_size _ rfl⟩
def Inv.fresh (I:Inv X Y U H s):H s.heap.objs.size=none:=I.hok.fresh (Nat.le_refl _)
def Inv.qK (I:Inv X Y U H s)(hH:H l=some (.lst xs)):xs.length<=sizeLine/\∃ (its:List Value) (n:Nat),Vals xs its/\xs.length=its.length/\s.heap.get? l=some { cls:=.type "list",data:=.seq its.toArray n }:=by
 obtain ⟨z,its,n,r,e⟩:=I.hok l _ hH;exact ⟨z,its,n,r,r.length,e⟩
def qA (h:n<=sizeLine):Builtin.List.listTooLong n=false:=by
 unfold Builtin.List.listTooLong;exact decide_eq_false nofun
end
section
variable {X:Cx}
abbrev BF:V->List V->Hp->VK->Prop:=λx vs H Q=>∃ l xs y,x=.ref l/\vs=[y]/\H l=some (.lst xs)/\xs.length<sizeLine/\Q .non (upd H l (.lst (xs++[y])))
def iV:JZ X "list.append" BF:=by
 intro Y s U H x vs v us Q I rx rv h;obtain ⟨l,xs,y,rfl,rfl,hH,hz,q⟩:=h;cases rx;obtain ⟨u,rfl,ru⟩:=rv.one;obtain ⟨z,its,n,r,hl,e⟩:=I.qK hH;refine call_meets F.slot_list_append ⟨_,e,rfl⟩ F.entry_list_append (F.args_list_append_2 _ _) (PySem.list_append l its.toArray n u (by rw[size_toArray];omega)) ⟨e,?_⟩;refine ⟨.non,_,I.GR (its':=its++[u]) hH e (by simp) (r.append (.cons ru .nil)) ?_,rfl,q⟩;rw[length_append,length_singleton]
 omega
abbrev BZ:V->List V->Hp->VK->Prop:=λx vs H Q=>∃ l b xs zs,x=.ref l/\vs=[.ref b]/\H l=some (.lst xs)/\H b=some (.lst zs)/\xs.length+zs.length<=sizeLine/\Q .non (upd H l (.lst (xs++zs)))
def wV:JZ X "list.extend" BZ:=by
 intro Y s U H x vs v us Q I rx rv h;obtain ⟨l,b,xs,zs,rfl,rfl,hH,hB,hz,q⟩:=h;cases rx;obtain ⟨u,rfl,ru⟩:=rv.one;cases ru;obtain ⟨z,its,n,r,hl,e⟩:=I.qK hH;obtain ⟨z2,lr,n2,r2,hl2,e2⟩:=I.qK hB;have hsz:its.toArray.size+lr.toArray.size<=sizeLine:=by rw[size_toArray,size_toArray];omega
 have hlong:¬ (!its.toArray.isEmpty&&Builtin.List.listTooLong (its.toArray.size+lr.toArray.size))=true:=by
  rw[qA hsz,Bool.and_false];exact Bool.false_ne_true
 refine call_meets F.slot_list_extend ⟨_,e,rfl⟩ F.entry_list_extend (F.args_list_extend_2 _ _)
  (AutoSeq1.list_extend_list_list_0 l its.toArray n b lr.toArray n2 hlong (by rw[size_toArray];omega) nofun) ⟨e,e2,?_⟩
 refine ⟨.non,_,I.GR (its':=its++lr) hH e (by simp) (r.append r2) ?_,rfl,q⟩;rw[length_append]
 omega
abbrev Kk:R2:=λx y H Q=>∃ l b xs zs,x=.ref l/\y=.ref b/\H l=some (.lst xs)/\H b=some (.lst zs)/\xs.length+zs.length<=sizeLine/\∀ p,H p=none->Q (.ref p) (upd H p (.lst (xs++zs)))
def EJ:cR X (binaryOp .Add) Kk:=by
 intro Y s U H x y v u Q I rx ry h;obtain ⟨l,b,xs,zs,rfl,rfl,hH,hB,hz,q⟩:=h;cases rx;cases ry;obtain ⟨z,its,n,r,hl,e⟩:=I.qK hH;obtain ⟨z2,lr,n2,r2,hl2,e2⟩:=I.qK hB;refine PySem.P.add_list e e2 ?_ (by rw[size_toArray,size_toArray];omega);have ea:its.toArray++lr.toArray=(its++lr).toArray:=by simp
 rw[ea];exact ⟨.ref _,_,I.HE (t':=s.toks) (r.append r2) (by rw[length_append];omega),rfl,q _ I.fresh⟩
abbrev KA:R2:=λx y H Q=>∃ l k xs,x=.ref l/\y=.int k/\H l=some (.lst xs)/\ -(2 ^ 63)<=k/\k<2 ^ 63/\xs.length*k.toNat<=sizeLine/\
 ∀ p,H p=none->Q (.ref p) (upd H p (.lst (List.replicate k.toNat xs).flatten))
def len_rep (xs:List α)(k:Nat):(List.replicate k xs).flatten.length=k*xs.length:=by
 induction k with
 |zero=>simp
 |succ k ih=>rw[replicate_succ,flatten_cons,length_append,ih,Nat.succ_mul,Nat.add_comm]
def FW:cR X (binaryOp .Mult) KA:=by
 intro Y s U H x y v u Q I rx ry h;obtain ⟨l,k,xs,rfl,rfl,hH,h1,h2,hz,q⟩:=h;cases rx;obtain ⟨t,rfl⟩:=ry;obtain ⟨z,its,n,r,hl,e⟩:=I.qK hH;have hlen:its.toArray.size*k.toNat<=sizeLine:=by rw[size_toArray,<-hl];exact hz
 have hcap:¬ its.toArray.size*k.toNat>(2 ^ 63-1) / 8:=by
  have:(sizeLine:Nat)<=(2 ^ 63-1) / 8:=by decide
  omega
 have hfit:¬ (!Builtin.List.listFitsIndex k)=true:=by
  rw[fitsIndex_both h1 h2];exact Bool.false_ne_true
 have hlong:¬ Builtin.List.listTooLong (its.toArray.size*k.toNat)=true:=by
  rw[qA hlen];exact Bool.false_ne_true
 have hnew:List.foldl (λx1 x2=>x1++x2) #[] (List.replicate (if its.toArray.isEmpty=true then 0 else k.toNat) its.toArray)=(List.replicate k.toNat its).flatten.toArray:=by
  have f0:∀ m:Nat,List.foldl (λx1 x2=>x1++x2) #[] (List.replicate m its.toArray)=(List.replicate m its).flatten.toArray:=λm=>by
   have:=foldl_rep its m [];rw[nil_append] at this;exact this
  rw[f0];cases its with
  |nil=>simp
  |cons a r'=>rw[if_neg (by simp)]
 refine wpAny_binaryOp_repeat_ref (T:="list") (U:="int") (by decide) ⟨_,e,rfl⟩ (λs'=>typeIs_int s' k t) noFill_list_mul F.fills_int_mul F.slot_int_rmul repeat_list F.slot_int_index.lookup
  (call_meets F.slot_int_rmul (typeIs_int s k t) F.entry_int_rmul (F.args_int_rmul_2 _ _) (int___rmul___int_list k t l its.toArray n)
   ⟨e,rfl,⟨_,e,rfl⟩,call_meets F.slot_list_mul ⟨_,e,rfl⟩ F.entry_list_mul (F.args_list_mul_2 _ _) (AutoListH.list___mul___list_int_3 l its.toArray n k t hfit hcap hlong) ⟨e,?_⟩⟩)
 rw[hnew];exact ⟨.ref _,_,I.HE (t':=s.toks) (r.rep k.toNat) (by rw[len_rep,Nat.mul_comm];exact hz),rfl,q _ I.fresh⟩
end
section
variable {prog:Program}{w:World}{A:Around}{E:MC}{s:Shared}
set_option maxRecDepth 100000 in
end
section
variable {X:Cx}
end
variable {o:Option V}
section
variable {κ:Type} [DecidableEq κ]
abbrev jH (kvs:List (κ×V))(k:κ):Option V:=(kvs.find? λkv=>decide (kv.1=k)).map (·.2)
abbrev putK (kvs:List (κ×V))(k:κ)(v:V):List (κ×V):=
 if (kvs.any λkv=>decide (kv.1=k))=true then kvs.map (λkv=>if kv.1=k then (kv.1,v) else kv) else kvs++[(k,v)]
def k4 {p:κ×V}{r:List (κ×V)}{k:κ}(e:p.1=k):jH (p::r) k=some p.2:=by simp[jH,find?_cons,e]
def kW {p:κ×V}{r:List (κ×V)}{k:κ}(e:¬ p.1=k):jH (p::r) k=jH r k:=by simp[jH,find?_cons,e]
def qo (k:κ):∀ kvs:List (κ×V),(kvs.any λkv=>decide (kv.1=k))=(jH kvs k).isSome
 | []=>rfl
 |p::r=>by
  rw[any_cons]
  by_cases e:p.1=k
  ·simp only[k4 e,decide_eq_true e,Bool.true_or,Option.isSome_some]
  ·rw[kW e,decide_eq_false e,Bool.false_or];exact qo k r
def ff (kvs:List (κ×V))(k:κ)(v:V):(putK kvs k v).length<=kvs.length+1:=by
 unfold putK
 split
 ·rw[length_map];omega
 ·rw[length_append,length_cons,length_nil];omega
def di.wK {u:Option Value}(r:di o u):o.isSome=u.isSome:=by
 cases o with
 |none=>cases u with
  |none=>rfl
  |some _=>exact (show False from r).elim
 |some _=>cases u with
  |none=>exact (show False from r).elim
  |some _=>rfl
def KV.val {kvs:List (κ×V)}{vs:List (κ×Value)}(r:KV kvs vs)(k:κ):di (jH kvs k) (valueAt vs k):=by
 unfold KV at r
 induction r with
 |nil=>exact True.intro
 | @cons p q ps qs h t ih=>
  obtain ⟨h1,h2⟩:=h
  by_cases e:p.1=k
  ·have e':q.1=k:=h1.symm.trans e;have b:valueAt (q::qs) k=some q.2:=by simp[valueAt,find?_cons,e']
   rw[k4 e,b];exact h2
  ·have e':¬ q.1=k:=λz=>e (h1.trans z)
   have b:valueAt (q::qs) k=valueAt qs k:=by simp[valueAt,find?_cons,e']
   rw[kW e,b];exact ih
def KV.any {kvs:List (κ×V)}{vs:List (κ×Value)}(r:KV kvs vs)(k:κ):(kvs.any λkv=>decide (kv.1=k))=vs.any λkv=>decide (kv.1=k):=by
 unfold KV at r
 induction r with
 |nil=>rfl
 |cons h t ih=>rw[any_cons,any_cons,ih,h.1]
def KV.E7 {kvs:List (κ×V)}{vs:List (κ×Value)}(r:KV kvs vs)(k:κ)(ry:RelV y u):
  KV (kvs.map λkv=>if kv.1=k then (kv.1,y) else kv) (vs.map λkv=>if kv.1=k then (kv.1,u) else kv):=by
 unfold KV at r⊢
 induction r with
 |nil=>exact .nil
 | @cons p q ps qs h t ih=>
  rw[map_cons,map_cons];refine .cons ?_ ih;obtain ⟨h1,h2⟩:=h
  by_cases e:p.1=k
  ·rw[if_pos e,if_pos (h1.symm.trans e)];exact ⟨h1,ry⟩
  ·rw[if_neg e,if_neg (λz=>e (h1.trans z))];exact ⟨h1,h2⟩
def KV.put {kvs:List (κ×V)}{vs:List (κ×Value)}(r:KV kvs vs)(k:κ)(ry:RelV y u):KV (putK kvs k y) (stored vs k u):=by
 unfold putK stored;rw[r.any k]
 by_cases e:(vs.any λkv=>decide (kv.1=k))=true
 ·rw[if_pos e,if_pos e];exact r.E7 k ry
 ·rw[if_neg e,if_neg e];exact Paired.snoc r ⟨rfl,ry⟩
def KV.length {kvs:List (κ×V)}{vs:List (κ×Value)}(r:KV kvs vs):kvs.length=vs.length:=Paired.length r
end
variable {P:Program}{w:World}
def qm {k:Key}(r:RelV (kV k) u):(aw P w).is k u=true:=by
 cases k with
 |inl i=>obtain ⟨t,e⟩:=(show ∃ t,u=Value.int i t from r);subst e;exact pV P w i t
 |inr x=>obtain ⟨t,e⟩:=(show ∃ t,u=Value.str x t from r);subst e;exact qY P w x t
def mN {P:Program}{w:World}:∀ {ks:List Key}{us:List Value},Vals (ks.map kV) us->ItemsAre (aw P w) ks us
 | [],_,r=>by rw[List.map_nil] at r;cases r;exact .nil
 |k::ks,_,r=>by
  rw[map_cons] at r;cases r with
  |cons h t=>exact .cons (qm h) (mN t)
@[reducible]def KT (H:Hp):List (List Key×V)->List (List Key×Addr×Value)->Prop:=Paired λp q=>p.1=q.1/\H q.2.1=some (.tup (p.1.map kV))/\RelV p.2 q.2.2
variable {xs:List (List Key×Addr×Value)}{kvs:List (List Key×V)}
def KT.val (r:KT H kvs xs)(k:List Key):di (jH kvs k) ((atKey xs k).map (·.2)):=by
 induction r with
 |nil=>exact True.intro
 | @cons p q ps qs h t ih=>
  obtain ⟨h1,_,h2⟩:=h
  by_cases e:p.1=k
  ·have e':q.1=k:=h1.symm.trans e;have b:atKey (q::qs) k=some q.2:=by simp[atKey,find?_cons,e']
   rw[k4 e,b];exact h2
  ·have e':¬ q.1=k:=λz=>e (h1.trans z)
   have b:atKey (q::qs) k=atKey qs k:=by simp[atKey,find?_cons,e']
   rw[kW e,b];exact ih
def KT.E7 (r:KT H kvs xs)(k:List Key)(ry:RelV y u):
  KT H (kvs.map λkv=>if kv.1=k then (kv.1,y) else kv) (xs.map (putAt k u)):=by
 induction r with
 |nil=>exact .nil
 | @cons p q ps qs h t ih=>
  rw[map_cons,map_cons];refine .cons ?_ ih;obtain ⟨h1,h2,h3⟩:=h;unfold putAt
  by_cases e:p.1=k
  ·rw[if_pos e,if_pos (h1.symm.trans e)];exact ⟨h1,h2,ry⟩
  ·rw[if_neg e,if_neg (λz=>e (h1.trans z))];exact ⟨h1,h2,h3⟩
def KT.put (r:KT H kvs xs)(k:List Key){b:Addr}(hb:H b=some (.tup (k.map kV)))(ry:RelV y u):
  KT H (putK kvs k y) (storedH xs k b u):=by
 have e:(kvs.any λkv=>decide (kv.1=k))=(atKey xs k).isSome:=by
  rw[qo,(r.val k).wK,Option.isSome_map]
 unfold putK storedH;rw[e]
 by_cases q:(atKey xs k).isSome=true
 ·rw[if_pos q,if_pos q];exact r.E7 k ry
 ·rw[if_neg q,if_neg q];exact Paired.snoc r ⟨rfl,hb,ry⟩
variable {H':Hp}
def KT.keeps (r:KT H kvs xs)(ht:∀ b ys,H b=some (.tup ys)->H' b=some (.tup ys)):KT H' kvs xs:=
 Paired.Fo r λ_ _ z=>⟨z.1,ht _ _ z.2.1,z.2.2⟩
section
variable {P:Program}{w:World}{H:Hp}{h:Heap}{a:Addr}
def D9 {u:HO}(ok:gb P w H h)(e:Rd H a u):aA P w H h a u:=e.ok ok
def lh {kvs:List (Key×V)}(ok:gb P w H h)(e:Rd H a (.dK kvs)):kvs.length<=sizeLine/\(a ==sysModules)=false/\∃ vs,KV kvs vs/\h.DictOf (aw P w) a vs:=
 show aA P w H h a (.dK kvs) from D9 ok e
def Du {kvs:List (Key×V)}(ok:gb P w H h)(e:H a=some (.dK kvs)):kvs.length<=sizeLine/\(a ==sysModules)=false/\∃ vs,KV kvs vs/\h.DictOf (aw P w) a vs:=lh ok (.inl e)
def sW {ks:List Key}(ok:gb P w H h)(e:H a=some (.tup (ks.map kV))):(tupleKind (aw P w)).is h ks a:=by
 obtain ⟨_,its,r,o,h1,h2,n,h3⟩:=(show aA P w H h a (.tup (ks.map kV)) from ok a _ e);exact ⟨o,its.toArray,n,h1,h2,h3,by simpa using mN r⟩
def Ah (ok:gb P w H h)(e:Rd H a (.dT kvs)):kvs.length<=sizeLine/\(a ==sysModules)=false/\
  ∃ xs,KT H kvs xs/\h.DictOfH (tupleKind (aw P w)) a xs:=by
 obtain ⟨z,y,xs,r,o,es,ep,h1,h2,h3,h4,h5⟩:=(show aA P w H h a (.dT kvs) from D9 ok e);refine ⟨z,y,xs,r,o,es,ep,h1,h2,h3,h4,λx hx=>?_,h5⟩;have all:∀ {l:List (List Key×V)}{m:List (List Key×Addr×Value)},KT H l m->∀ x ∈ m,(tupleKind (aw P w)).is h x.1 x.2.1:=by
  intro l m q
  induction q with
  |nil=>intro x hx;exact nomatch hx
  | @cons p q ps qs hq t ih=>
   intro x hx;rcases mem_cons.mp hx with e|hx
   ·subst e;exact sW ok (by rw[<-hq.1];exact hq.2.1)
   ·exact ih x hx
 exact all r x hx
def IK (ok:gb P w H h)(e:H a=some (.dT kvs)):kvs.length<=sizeLine/\(a ==sysModules)=false/\
  ∃ xs,KT H kvs xs/\h.DictOfH (tupleKind (aw P w)) a xs:=Ah ok (.inl e)
end
abbrev Eo (H:Hp)(a:Addr)(y:V)(r:Option V):Prop:=
 (∃ kvs k,Rd H a (.dK kvs)/\y=kV k/\r=jH kvs k)\/∃ kvs k b,Rd H a (.dT kvs)/\y=.ref b/\H b=some (.tup (k.map kV))/\r=jH kvs k
abbrev Hr (H:Hp)(a:Addr)(y v:V)(H':Hp):Prop:=
 (∃ kvs k,H a=some (.dK kvs)/\y=kV k/\kvs.length<sizeLine/\H'=upd H a (.dK (putK kvs k v)))\/
 ∃ kvs k b,H a=some (.dT kvs)/\y=.ref b/\H b=some (.tup (k.map kV))/\kvs.length<sizeLine/\H'=upd H a (.dT (putK kvs k v))
section
variable {X:Cx}{Y:MD}{U:St}{H:Hp}{s:Shared}{a:Addr}{y v:V}{u r:Value}{o:Option V}{A:Around}{E:MC}
def Inv.big (I:Inv X Y U H s):sysModules<s.heap.objs.size:=by
 have h:mainGlobals<s.heap.objs.size:=(I.mod.glob.keeps I.bk).lt;exact Nat.lt_trans (by decide) h
def wU {Q:MC}(hu:A.units+1<cLine)(I:Inv X Y U H s)(g:Eo H a y (some v))(ry:RelV y u)(h:∀ w' s',Inv X Y U H s'->RelV v w'->Q w' s'):
  wpAny (model X.prog X.w) A (getItem (.ref a) u) Q E s:=by
 rcases g with ⟨kvs,k,e,ey,l⟩|⟨kvs,k,b,e,ey,eb,l⟩
 ·subst ey;obtain ⟨z,hd,vs,rel,dd⟩:=lh I.hok e;obtain ⟨w',hw,rw'⟩:=di.some_of (v:=v) (o:=valueAt vs k) (by rw[l];exact rel.val k);exact wpAny_getItem_of (qm ry) dd.mapOf hw (h w' _ (I.tok _) rw')
 ·subst ey;cases (show u=Value.ref b from ry);obtain ⟨z,hd,xs,rel,dd⟩:=Ah I.hok e;obtain ⟨w',hw,rw'⟩:=di.some_of (v:=v) (o:=(atKey xs k).map (·.2)) (by rw[l];exact rel.val k);obtain ⟨p,hp,hp2⟩:=Option.map_eq_some_iff.mp hw;refine wpAny_getItem_heap (tupleKind_room_in1 hu) (sW I.hok eb) dd hp ?_;rw[hp2];exact h w' _ (I.tok _) rw'
def nJ {h':Heap}{t':Nat}{ob:HO}(I:Inv X Y U H s)(mu:IT (H a))(hs:Heap.SameBut a s.heap h')(he:∃ q,h'.get? a=some q) (new:aA X.prog X.w (upd H a ob) h' a ob):
  Inv X Y U (upd H a ob) { s with heap:=h',toks:=t' }:=
 I.write (x:=a) (e:=a) mu (.inl rfl) (λb q hb z=>(hs.2 b hb).trans z) he new
def tQ {h':Heap}{kvs:List (Key×V)}{vs:List (Key×Value)}(z:kvs.length<=sizeLine)(hd:(a ==sysModules)=false)(rel:KV kvs vs)(dd:h'.DictOf (aw P w) a vs):
  aA P w H' h' a (.dK kvs):=⟨z,hd,vs,rel,dd⟩
def vC {Q:MB}(hu:A.units+1<cLine)(I:Inv X Y U H s)(g:Hr H a y v H')(ry:RelV y u)(rv:RelV v r)(h:∀ s',Inv X Y U H' s'->Q () s'):
  wpAny (model X.prog X.w) A (setItem (.ref a) u r) Q E s:=by
 rcases g with ⟨kvs,k,e,ey,l,eH⟩|⟨kvs,k,b,e,ey,eb,l,eH⟩
 ·subst ey eH;obtain ⟨z,hd,vs,rel,dd⟩:=Du I.hok e;have hz:vs.length<=sizeLine:=by rw[<-rel.length];exact z
  have hl:(putK kvs k v).length<=sizeLine:=by have:=ff kvs k v;omega
  refine wpAny_setItem_pairs (hsz:=hz) (qm ry) dd λh' dd' hs=>h _ ?_
  have he:∃ q,h'.get? a=some q:=let ⟨q,_,_,hq,_⟩:=dd';⟨q,hq⟩;exact nJ I (by rw[e];exact True.intro) hs he (tQ hl hd (rel.put k rv) dd')
 ·subst ey eH;cases (show u=Value.ref b from ry);obtain ⟨z,hd,xs,rel,dd⟩:=IK I.hok e;have hz:xs.length<=sizeLine:=by rw[<-Paired.length rel];exact z
  have hl:(putK kvs k v).length<=sizeLine:=by have:=ff kvs k v;omega
  refine wpAny_setItem_heap (hsz:=hz) (tupleKind_room_in1 hu) (sW I.hok eb) dd λh' dd' hs=>h _ ?_
  obtain ⟨q,es,ep,hq,h2,h3,h4,_,h5⟩:=dd';refine nJ I (by rw[e];exact True.intro) hs ⟨q,hq⟩ ⟨hl,hd,_,(rel.put k eb rv).keeps λc ys ec=>?_,q,es,ep,hq,h2,h3,h4,h5⟩;rw[ai (Iz ec e (λz=>nomatch z))];exact ec
end
section
variable {X:Cx}{Y:MD}{U:St}{H:Hp}{s:Shared}{a:Addr}{kvs:List (Key×V)}{k:Key}{u:Value}{A:Around}{E:MC}
end
def qG {X:Cx}{a:Addr}(I:Inv X Y U H s)(g:Eo H a y o):s.TypeIs (.ref a) "dict":=by
 rcases g with ⟨kvs,k,e,_,_⟩|⟨kvs,k,b,e,_,_,_⟩
 ·obtain ⟨_,_,vs,_,dd⟩:=lh I.hok e;exact dd.typeIs
 ·obtain ⟨_,_,xs,_,dd⟩:=Ah I.hok e;exact dd.typeIs
section
variable {X:Cx}{o i e value:Expr}{pos pos' tpos:Pos}{td ty tv:TE}
end
def qX (h:Heap)(hb:sysModules<h.objs.size):aA P w H (h.push { cls:=.type "dict",data:=.dict #[] }) h.objs.size (.dK []):=
 ⟨Nat.zero_le _,beq_eq_false_iff_ne.mpr (Ne.symm (Nat.ne_of_lt hb)),[],.nil,Heap.DictOf.new h⟩
abbrev F4:TE:=λ_ H Q=>∀ p,H p=none->Q (.ref p) (upd H p (.dK []))
section
variable {X:Cx}{pos:Pos}
def xR:PE X (.Dict [] [] pos) F4:=λY s U H Q I h=>
 wpAny_Dict_empty ⟨.ref s.heap.objs.size,_,I.laid (a:=s.heap.objs.size) (o:=.dK []) (t':=s.toks) (λ_ _ q=>Heap.get?_push_of_some _ q) (Nat.le_refl _) (qX s.heap I.big),rfl,h _ (I.hok.fresh (Nat.le_refl _))⟩
end
section
variable {X:Cx}{Y:MD}{U:St}{H:Hp}{s:Shared}{a:Addr}{y d:V}{u r:Value}{o:Option V}{A:Around}{E:MC}
end
section
variable {X:Cx}{o e f:Expr}{apos cpos:Pos}{td ty tx:TE}
end
section
variable {X:Cx}{Y:MD}{U:St}{H:Hp}{s:Shared}{a:Addr}{kvs:List (Key×V)}{A:Around}{E:MC}
end
section
variable {X:Cx}{Y:MD}{U:St}{H:Hp}{s:Shared}{a:Addr}{y:V}{u:Value}{A:Around}{E:MC}
end
end L2
namespace Att
open PySem PySem.W PySem.Calls PyProof.Rows
variable {P:Params}
def jO {h:Heap}:∀ (ns:List Int) (vs:List Value),WellAll P h vs (ns.map WData.int)->IntsAre vs ns:=by
 intro ns
 induction ns with
 |nil=>
  intro vs w;rw[List.map_nil] at w;cases w;exact .nil
 |cons n ns ih=>
  intro vs w;rw[map_cons] at w;cases w with
  |cons a b=>
   cases a;exact .cons _ _ (ih _ b)
variable {l:OpenLaw}
def vH {n:Nat}(hn:l.most=some n){h:Heap}{args:List WData}{vals:List Value}
  (hpre:l.row.toRowW.claim.pre args=true) (hwl:WellAll P h vals args):
  ∃ a vs ns,vals=[Value.ref a]/\args=[WData.list (ns.map WData.int)]/\h.get? a=some { cls:=.type "list",data:=.seq vs.toArray }/\IntsAre vs ns/\ns.length<=n:=by
 have hsh:WShape.hasAll [] args [.list .int]=true:=(pre_splitW hpre).1;have hc:l.pre.holds [] { args:=args }=true:=(pre_splitW hpre).2;obtain ⟨d,r,rfl,h1,h2⟩:=hasAllW_cons hsh;obtain rfl:=hasAllW_nil h2;obtain ⟨xs,rfl,h3⟩:=hasW_list h1;obtain ⟨ns,rfl⟩:=items_int h3;have hlen:ns.length<=n:=by
  unfold OpenLaw.pre at hc;have h4:(WTm.not (.lt (.lit (.int (n:Int))) (.len (.arg 0)))).holds [] { args:=[.list (ns.map .int)] }=true:=by
   have h4:=(holds_andW hc).1;rw[hn] at h4;exact h4
  have h5:=condW_of h4 (w_not (w_lt w_lit (w_len_list (w_arg rfl))));rw[length_map] at h5;refine Nat.le_of_not_lt λq=>?_
  have q':(n:Int)<((ns.length:Nat):Int):=by omega
  first
   |(rw[decide_eq_true q'] at h5;exact absurd h5 (by decide))
   |(simp at h5;omega)
 cases hwl with
 |cons w1 w2=>
  cases w2;cases w1 with
  |list ho hall=>exact ⟨_,_,ns,rfl,rfl,ho,jO ns _ hall,hlen⟩
def vF (l:OpenLaw)(args:List WData):l.row.toRowW.claim.post args (.bool true) args=true:=
 postW_of (r:=l.row.toRowW) (X:=(true ==true))
  (show WShape.has [] (.bool true) .bool=true by first|rfl|decide|simp[WShape.has,WShape.arms,WShape.armsAll])
  (show (WTm.eq .res (.lit (.bool true))).value [] { args:=args,res:=some (.bool true),after:=args }=some (.bool (true ==true)) from w_eq_bool (w_res rfl) w_lit) rfl
def rC {n:Nat}{q:Program}{loose:List Str}{XP:(Str->Option Value)->Heap->Prop}{YP:World->Heap->Prop}{d:DefRec}
  (hn:l.most=some n) (hdf:d.params.defaults=[])
  (call:∀ (w:World) (s₀ s₁:Shared) (mg mb:ME) (fa:Addr) (o:Obj) (pm cd doc:Value) (a:Addr) (vs:List Value) (ns:List Int),
   Ground q loose [] XP w s₀ mg mb s₁.heap->YP w s₁.heap->
   s₁.heap.get? fa=some o->o.data=.func (docDef d.name d.params d.body d.scope pm cd doc)->s₁.heap.CodeRec cd d.name->mg d.name=some (.ref fa)->
   s₁.heap.get? a=some { cls:=.type "list",data:=.seq vs.toArray }->IntsAre vs ns->ns.length<=n->s₁.gens=#[]->
   codeAny (model l.prog w) callerA (.call (.ref fa) ⟨[.ref a],[]⟩) (λr s'=>r=.ok (.ret (.bool true))/\OldK s₁.heap s'.heap/\s'.os=s₁.os/\AllBare s'.gens) s₁):
  WalkO q loose XP YP l.row.toRowW d [] (λf vs=>PySem.call f vs):=by
 intro w s₀ s₁ mg mb G Y fa o pm cd doc dV kV ho hd hcd hD hmg hg args vals as hpre hlay hrd hwl hlo;obtain rfl:dV=.none:=Dflts.none hD hdf;obtain rfl:kV=.none:=Dflts.noKw hD;obtain ⟨a,vs,ns,rfl,rfl,hobj,hints,hlen⟩:=vH hn hpre hwl;refine enter_call (codeAny_mono (call w s₀ s₁ mg mb fa o pm cd doc a vs ns G Y ho (fd_plain hd) hcd hmg hobj hints hlen hg) λr s' hq=>?_);obtain ⟨rfl,h2,h3,h4⟩:=hq;exact ⟨.inl ⟨.bool true,.bool true,[],rfl,λ_=>rfl,.bool true,vF l _,λ_=>⟨List.Pairwise.nil,λ_ hm=>(nomatch hm)⟩⟩,h2,h3,h4⟩
section
variable {prog:Program}{w:World}{A:Around}{E:MC}{s:Shared}{K:Frag}
end
end Att
namespace L2
open PySem PySem.Spec PyProof.Rows
def mR:∀ {vs:List Value}{ns:List Int},IntsAre vs ns->Vals (ns.map V.int) vs
 |_,_,.nil=>.nil
 |_,_,.cons n t h=>.cons ⟨t,rfl⟩ (mR h)
abbrev FI (H:Hp):Prop:=∀ b,H b=none\/∃ o xs,H b=some (.frz o (.lst xs))
def yB {P:Program}{w:World}{K:W.Frag}{mg mb:ME}{CX:ug}{k:Nat}{fa a:Addr}{fd:FuncData}{x:Str}{sp:Sp}{s₁:Shared}{vs:List Value}{ns:List Int}
  (KX:K.In s₁.heap) (hns:s₁.heap.Ns mainGlobals mg) (hb:s₁.heap.Ns builtinsNs mb) (hbb:∀ x:Str,x≠"__name__"->mb x=bootBuiltins x) (hlim:s₁.heap.NoLimit) (hg:s₁.gens=#[])
  (ha:s₁.heap.get? a=some { cls:=.type "list",data:=.seq vs.toArray }) (hi:IntsAre vs ns) (hl:ns.length<=sizeLine) (hr:bT k callerA)
  (F:∀ base:Heap,K.In base->base.Ns mainGlobals mg->dh P w K mg base CX k fa fd [x] sp) (hbind:∀ (s:Shared) (u:Value),BindsTo s fd ⟨[u],[]⟩ [(x,u)])
  (hsp:∀ H:Hp,FI H->aS K H a (ns.map V.int)->sp [.ref a] H (λv _=>v=.bl true) λ_ _=>False)
  (hCX:∀ H e s',CX [] H s₁ (λ_ _=>False) e s'->False):
  codeAny (model P w) callerA (.call (.ref fa) ⟨[.ref a],[]⟩) (λr s'=>r=.ok (.ret (.bool true))/\OldK s₁.heap s'.heap/\s'.os=s₁.os/\AllBare s'.gens) s₁:=by
 have rv:=mR hi;have lenV:=hi.length;have core:∀ H:Hp,FI H->aS K H a (ns.map V.int)->gb P w H s₁.heap->(∀ b,H b≠none->b=a)->(H a≠none->K.lookup a=none)->
   codeAny (model P w) callerA (.call (.ref fa) ⟨[.ref a],[]⟩) (λr s'=>r=.ok (.ret (.bool true))/\OldK s₁.heap s'.heap/\s'.os=s₁.os/\AllBare s'.gens) s₁:=by
  intro H hO hS hok hA hK;have base_of:∀ {b:Addr}{o:Obj},s₁.heap.get? b=some o->H b=none->(nR s₁.heap H).get? b=some o:=λe n=>xB e n
  have noA:∀ {b:Addr}{o:Obj}{es:Array DictEntry}{ep:Nat},s₁.heap.get? b=some o->o.data=.dict es ep->H b=none:=λ{b o es ep} e d=>by
   cases q:H b with
   |none=>rfl
   |some u=>
    have e':b=a:=hA b (by rw[q];simp);subst e';rw[ha] at e;cases e;have d':Data.seq vs.toArray _=Data.dict es ep:=d;cases d'
  have nsK:∀ {b:Addr}{m:ME},s₁.heap.Ns b m->(nR s₁.heap H).Ns b m:=λ{b m} ⟨o,es,ep,e,d,r⟩=>⟨o,es,ep,base_of e (noA e d),d,r⟩
  have hKb:K.In (nR s₁.heap H):=λb o e=>base_of (KX b o e) (by
   cases q:H b with
   |none=>rfl
   |some u=>
    have e':b=a:=hA b (by rw[q];simp);subst e';rw[hK (by rw[q];simp)] at e;cases e)
  have hM:Mod K mg (nR s₁.heap H):=⟨hKb,nsK hns,⟨mb,nsK hb,hbb⟩,let ⟨mc,h1,h2⟩:=hlim;⟨mc,nsK h1,h2⟩⟩;have e0:sM P w K mg (nR s₁.heap H) callerA [] s₁ H:=⟨rfl,hM,λb o e=>CQ e,Nat.le_of_eq (vw _ _),trivial,λb hb=>absurd (show b ∈ ([]:List Addr) from hb) (by simp),hok,.of_eq hg⟩;refine codeAny_mono ((F _ hKb (nsK hns)).run callerA [] s₁ H ⟨[.ref a],[]⟩ [.ref a] [.ref a] _ _ hr e0 (hbind s₁ (.ref a)) (.cons rfl .nil) (hsp H hO hS)) λr s' h=>?_
  cases r with
  |error e=>exact (hCX H e s' h).elim
  |ok fl=>
   cases fl with
   |next=>exact False.elim h
   |brk=>exact False.elim h
   |cont=>exact False.elim h
   |ret u=>
    obtain ⟨v,H',os,bare,un,hok',r',q⟩:=h;have q':v=.bl true:=q;subst q';obtain rfl:u=Value.bool true:=r';refine ⟨rfl,OldK.of_keep λb o e=>?_,os,bare⟩;cases q:H b with
    |none=>exact un.keep b o e q (by intro z;exact absurd (show b ∈ ([]:List Addr) from z) (by simp)) (by simp)
    |some u=>
     rcases hO b with z|⟨ob,xs,z⟩
     ·rw[q] at z;cases z
     ·have z2:=un.frzs b ob _ z;obtain ⟨e1,_⟩:=hok b _ z;obtain ⟨e2,_⟩:=hok' b _ z2;rw[e] at e1;cases e1;exact e2
 cases hk:K.lookup a with
 |some o=>
  have e:=KX a o hk;rw[ha] at e;cases e;refine core (λ_=>none) (λ_=>.inl rfl) (.inr ⟨_,vs.toArray,_,hk,rfl,rfl,rfl,by rw[size_toArray,lenV];exact hl,by simpa using rv⟩) (λb u z=>by have z':(none:Option HO)=some u:=z;cases z') (λb z=>absurd rfl z) λz=>absurd rfl z
 |none=>
  refine core (λb=>if b=a then some (.frz { cls:=.type "list",data:=.seq vs.toArray } (.lst (ns.map V.int))) else none) (λb=>?_) (.inl (.inr ⟨{ cls:=.type "list",data:=.seq vs.toArray },if_pos rfl⟩)) (λb u z=>?_) (λb z=>?_) λ_=>hk
  ·by_cases hb:b=a
   ·exact .inr ⟨_,_,if_pos hb⟩
   ·exact .inl (if_neg hb)
  ·by_cases hb:b=a
   ·have z':=(if_pos hb).symm.trans z;cases z';subst hb;exact ⟨ha,by rw[length_map];exact hl,vs,_,rv,ha⟩
   ·have z':=(if_neg hb).symm.trans z;cases z'
  ·by_cases hb:b=a
   ·exact hb
   ·exact absurd (if_neg hb) z
def Bm {l:W.OpenLaw}{n k:Nat}{q:Program}{loose:List Str}{XP:(Str->Option Value)->Heap->Prop}{YP:World->Heap->Prop}{d:DefRec}{K:Params->W.Frag}{CX:World->ug}{sp:World->Sp}{x:Str}
  (hn:l.most=some n) (hn2:n<=sizeLine) (hdf:d.params.defaults=[]) (hr:bT k callerA)
  (hY:∀ (w:World) (h:Heap),YP w h->(K w.params).In h)
  (F:∀ (w:World) (mg:ME) (fa:Addr) (h:Heap),(K w.params).In h->h.Ns mainGlobals mg->mg d.name=some (.ref fa)->
   ∃ fd:FuncData,(∀ (s:Shared) (u:Value),BindsTo s fd ⟨[u],[]⟩ [(x,u)])/\
    ∀ base:Heap,(K w.params).In base->base.Ns mainGlobals mg->dh l.prog w (K w.params) mg base (CX w) k fa fd [x] (sp w))
  (hsp:∀ (w:World) (H:Hp) (a:Addr) (ns:List Int),ns.length<=n->FI H->aS (K w.params) H a (ns.map V.int)->sp w [.ref a] H (λv _=>v=.bl true) λ_ _=>False)
  (hCX:∀ (w:World) (H:Hp) (s:Shared) (e:Value) (s':Shared),CX w [] H s (λ_ _=>False) e s'->False):
  W.WalkO q loose XP YP l.row.toRowW d [] (λf vs=>PySem.call f vs):=by
 refine Att.rC hn hdf λw s₀ s₁ mg mb fa o pm cd doc a vs ns G Y ho hd hcd hmg hobj hints hlen hg=>?_
 have KX:=hY w _ Y;obtain ⟨fd,hb,hF⟩:=F w mg fa _ KX G.T.g hmg;exact yB KX G.T.g G.T.b G.T.builtins G.T.nolimit hg hobj hints (Nat.le_trans hlen hn2) hr hF hb (λH hO hS=>hsp w H a ns hlen hO hS) λH e s'=>hCX w H s₁ e s'
section
variable {P:Program}{w:World}{K:W.Frag}{mg:ME}{base:Heap}
end
def dq {n:Nat}(h:n<=1000):n<sizeLine:=Nat.lt_of_le_of_lt h (by decide)
section
variable {X:Cx}
end
end L2
namespace L2
open PySem PySem.Spec PySem.W PyProof.Rows PySem.Builtin PySem.Builtin.ObjectAttr
variable {rs:List Addr}
section
variable {prog:Program}{w:World}{A:Around}{E:MC}{s:Shared}{K:W.Frag}{x C:Addr}{ox od:Obj}{name:Str}{expr:Bool}{v:Value}{Q:MC}
def rj:builtinKind "BaseException.__getattribute__"=some .slot:=by decide+kernel
def my:splitId "BaseException.__getattribute__"=some ("BaseException","__getattribute__"):=by decide+kernel
def Cp (X:K.In s.heap)(I:W.InstAt s.heap x ox C (some od))(hga:W.findIn K (.ref C) "__getattribute__"=some (some (.builtin "BaseException.__getattribute__"))) (hgn:W.findIn K (.ref C) "__getattr__"=some none)
  (hb:W.mroIn K C (.type "BaseException")=some true) (hf:W.findObj K C (some od) name=some (.value v)) (hh:W.handedIn v=true) (h:Q v { s with toks:=s.toks+1 }):
  wpAny (model prog w) A (getAttr (.ref x) name expr) Q E s:=by
 obtain ⟨hp,g,d,t,os⟩:=s;have L0:=I.type (M:=model prog w);have L1:=looks_findIn (M:=model prog w) X hga;have L2':=looks_findIn (M:=model prog w) X hgn;have L3:=looks_find (M:=model prog w) X I hf;have L4:Looks (model prog w) hp (isInstance (.ref x) (.type "BaseException")) true:=I.type.andThen (looks_mroIn X hb);unfold getAttr getAttrBy;refine wpAny_bind (wpAny_mkText (wpAny_holding (wpAny_bind (L0.at (wpAny_bind (L1.at ?_))))));have e1:(Value.builtin "BaseException.__getattribute__" ==Value.builtin "object.__getattribute__")=false:=by decide+kernel
 dsimp only;rw[e1,Bool.and_false];show wpAny _ _ (getAttrByItsOwn _ _ _ _ _ _) _ _ _;unfold getAttrByItsOwn hookBefore;refine wpAny_bind (L2'.at ?_);refine wpAny_bind (wpAny_attempt (wpAny_holding ?_));have e2:(expr&&onTheHeap (Value.builtin "BaseException.__getattribute__"))=false:=by cases expr<;>rfl
 unfold callGetattribute;rw[e2];show wpAny _ _ (boundAndCalled _ _ _) _ _ _;unfold boundAndCalled;rw[PySem.F.attr_ValueError.ga.bind];refine wpAny_bind (wpAny_pure (wpAny_call (codeAny_call_builtin PySem.F.attr_ValueError.ga.plain PySem.F.entry_bexc_ga ?_)));refine @check_slot (model prog w) _ _ _ "BaseException.__getattribute__" "BaseException" "__getattribute__" (.ref x) [.str name t] [] _ rj my L4 (PySem.F.args_bexc_ga (.ref x) (.str name t)) ?_;unfold Builtin.«object.__getattribute__»;refine wpAny_bind (wpAny_pure (wpAny_bind (wpAny_pure (wpAny_bind (L0.at (wpAny_bind (L3.at ?_)))))));refine wpAny_pure ?_;show wpAny _ _ (handedOut v) _ _ _;rw[handedOut_of hh];exact wpAny_pure h
abbrev zr:Value->Bool
 | .ref _=>true
 |_=>false
abbrev bW:List Value:=[.type "ValueError",.type "Exception",.type "BaseException",.type "object"]
abbrev dM (l:List Value):Bool:=l.dropWhile zr ==bW
def dF:∀ {l:List Value},dM l=true->∃ rs:List Addr,l=rs.map Value.ref++bW
 | [],e=>by cases e
 |c::r,e=>by
  by_cases h:zr c=true
  ·have e':dM r=true:=by
    unfold dM at e⊢;rw[List.dropWhile_cons_of_pos h] at e;exact e
   obtain ⟨rs,q⟩:=dF e';cases c with
   |ref a=>exact ⟨a::rs,by rw[q];rfl⟩
   |_=>cases h
  ·unfold dM at e;rw[List.dropWhile_cons_of_neg h] at e;exact ⟨[],beq_iff_eq.mp e⟩
def kC (self:Value):∀ rs:List Addr,refuseLoop self "__setattr__" (rs.map Value.ref++bW)=pure ()
 | []=>PySem.F.store_ValueError.passes self
 |a::r=>by rw[map_cons,List.cons_append,refuseLoop_ref];exact kC self r
structure cU (K:W.Frag) (C:Addr):Prop where
 mt:W.typeIn K (.ref C)=some (.type "type")
 ov:(W.clsIn K C).any (λcd=>dM cd.mro)=true
 hd:W.hasDictIn K C=true
 ga:W.findIn K (.ref C) "__getattribute__"=some (some (.builtin "BaseException.__getattribute__"))
 gn:W.findIn K (.ref C) "__getattr__"=some none
 sa:W.findIn K (.ref C) "__setattr__"=some (some (.builtin "object.__setattr__"))
def cU.mro {K:W.Frag}(c:cU K C):∃ (cd:ClassData) (rs:List Addr),W.clsIn K C=some cd/\cd.mro=rs.map Value.ref++bW:=by
 obtain ⟨cd,h1,h2⟩:=W.any_some c.ov;obtain ⟨rs,h3⟩:=dF h2;exact ⟨cd,rs,h1,h3⟩
def p9 (h:bW.contains v=true):(rs.map Value.ref++bW).contains v=true:=by
 rw[List.contains_eq_mem,decide_eq_true_eq] at h⊢;exact mem_append_right _ h
def vb:(rs.map Value.ref++bW).isEmpty=false:=by cases rs<;>rfl
def cU.sub {K:W.Frag}(c:cU K C)(h:bW.contains v=true):W.mroIn K C v=some true:=by
 obtain ⟨cd,rs,h1,h2⟩:=c.mro;unfold W.mroIn;rw[h1,Option.bind_some,h2,if_neg (by rw[vb];decide),p9 h]
variable {R:Result->Shared->Prop}
def qg {tk:Tok}{odo:Option Obj}(X:K.In s.heap)(I:W.InstAt s.heap x ox C odo)(c:cU K C)(ht:W.findIn K (.ref C) name=some none)
  (h:wpAny (model prog w) A.in1 (storeInOwnDict (.ref x) (.ref C) (.str name tk) name v false)
   (λfin s'=>match fin with| .done f=>R (.ok f) s'| .again c'=>c'.quiet=true/\codeAny (model prog w) A c' R s') (λe s'=>R (.error e) s') s):
  codeAny (model prog w) A (.call (.builtin "object.__setattr__") ⟨[.ref x,.str name tk,v],[]⟩) R s:=by
 have SF:=PySem.F.store_object;obtain ⟨cd,rs,hc,hm⟩:=c.mro;have sub:Looks (model prog w) s.heap (isInstance (.ref x) (.type "object")) true:=I.type.andThen (looks_mroIn X (c.sub (by decide+kernel)));refine codeAny_call_builtin SF.slot.plain SF.entry (@check_slot (model prog w) _ _ s "object.__setattr__" "object" "__setattr__" (.ref x) [.str name tk,v] [] _ SF.kind SF.split sub (SF.args (.ref x) (.str name tk) v) ?_);have hl:Looks (model prog w) s.heap (mroOf (.ref C)) cd.mro:=(looks_clsIn X hc).andThen .now;rw[osa_eq,refuse_eq];refine wpAny_bind (wpAny_bind (I.type.here (wpAny_bind (hl.here ?_))));rw[hm,kC];refine wpAny_pure (wpAny_bind (I.type.here (wpAny_bind ((looks_findIn X ht).here (wpAny_bind (wpAny_pure ?_))))));exact h
end
variable {Q:MC}{u:Value}
section
variable {X:Cx}{Y:MD}{U:St}{H:Hp}{s:Shared}{a C dx:Addr}{fs:List (Str×V)}{f:Str}{v:V}{A:Around}{E:MC}{fr:Bool}
def vK {b:Bool}(I:Inv X Y U H s)(e:H a=some (.exc C (some dx) fs fr))(c:cU X.K C)(n:d6 X.K C f)(l:fs.lookup f=some v)
  (h:∀ u s',Inv X Y U H s'->RelV v u->Q u s'):wpAny (model X.prog X.w) A (getAttr (.ref a) f b) Q E s:=by
 obtain ⟨⟨vs,ho,_⟩,z⟩:=I.hok a _ e;rcases z with ⟨z,_⟩|⟨d,ed,_,_,_,mA,hn,r,_⟩
 ·cases z
 cases ed;obtain ⟨u,hu,ru⟩:=di.some_of (v:=v) (o:=mA f) (by rw[<-l];exact r f);obtain ⟨od,hod,hl⟩:=iM hn;refine Cp (ox:={ cls:=.ref C,dict:=some dx,data:=.fields vs }) (od:=od) I.bQ ⟨ho,rfl,rfl,hod⟩ c.ga c.gn (c.sub (by decide+kernel)) (W.findObj_own c.hd n rfl (by rw[hl,hu])) (mQ ru) (h u _ (I.tok _) ru)
def tO {y:V}{Q:MB}(I:Inv X Y U H s)(e:H a=some (.exc C (some dx) fs fr))(c:cU X.K C)(n:d6 X.K C f)(hl:fs.length<1000)(ry:RelV y u)
  (h:∀ s',Inv X Y U (upd H a (.exc C (some dx) (cT f y fs) fr)) s'->Q () s'):wpAny (model X.prog X.w) A (setAttr (.ref a) f u) Q E s:=by
 obtain ⟨⟨vs,ho,zz⟩,z⟩:=id (I.hok a _ e);rcases z with ⟨z,_⟩|⟨d,ed,hown,_,hne,mA,hn,r,wi⟩
 ·cases z
 cases ed;obtain ⟨od,hod,hlk⟩:=iM hn;have hz:(fs.map (·.1)).length<=sizeLine:=by rw[length_map,sizeLine_eq];omega
 have J:W.InstAt s.heap a { cls:=.ref C,dict:=some dx,data:=.fields vs } C (some od):=⟨ho,rfl,rfl,hod⟩;refine W.set_plain I.bQ J c.sa (qg (s:={ s with toks:=s.toks+1 }) I.bQ J c n ?_);obtain ⟨cd,hc,hd'⟩:=W.any_some c.hd;refine wpAny_bind (wpAny_pure (wpAny_bind (wpAny_bind (wpAny_loadPart ho (wpAny_bind (W.Looks.here (s:={ s with toks:=s.toks+1 }) (W.looks_clsIn I.bQ hc) ?_))))));rw[hd'];refine wpAny_pure (a:=some dx) (wpAny_bind (wpAny_pure (wpAny_bind ?_)));refine wpAny_nsSet1 (s:={ s with toks:=s.toks+1 }) hn λh' hn2 hs2=>?_
 obtain ⟨oD,esD,epD,hoD,hdD,hcD⟩:=hn2.count (PySem.Within.cons f u wi);refine wpAny_bind (wpAny_lookBehind hoD (by rw[hdD];exact pastItsLine_dict (Nat.le_trans hcD (by rw[length_cons];omega))) ?_);refine wpAny_pure (h _ ?_);refine I.write (x:=a) (e:=dx) (by rw[e];exact True.intro) (.inr hown) (λb q hb z=>(hs2.2 b hb).trans z) ⟨oD,hoD⟩ ?_;refine ⟨⟨vs,(hs2.2 _ (Ne.symm hne)).trans ho,zz⟩,.inr ⟨dx,rfl,by rw[ai hne];exact hown,?_,hne,_,hn2,λg=>?_,λg hg=>?_⟩⟩
 ·have:=fk f y fs;omega
 ·show di ((cT f y fs).lookup g) (if g=f then some u else mA g);rw[ef]
  by_cases q:g=f
  ·rw[if_pos q,if_pos q];exact ry
  ·rw[if_neg q,if_neg q];exact r g
 ·by_cases q:g=f
  ·rw[q];exact (dB f y fs).1
  ·refine (dB f y fs).2 g (wi g λz=>hg ?_);show (if g=f then some u else mA g)=none;rw[if_neg q];exact z
def tJ {y:V}{Q:MB}(I:Inv X Y U H s)(e:H a=some (.exc C none fs fr))(c:cU X.K C)(n:d6 X.K C f)(ry:RelV y u)
  (h:∀ d s',H d=none->Inv X Y U (upd (upd H d (.own a)) a (.exc C (some d) [(f,y)] fr)) s'->Q () s'):wpAny (model X.prog X.w) A (setAttr (.ref a) f u) Q E s:=by
 obtain ⟨⟨vs,ho,zz⟩,z⟩:=id (I.hok a _ e);have hfs:fs=[]:=by
  rcases z with ⟨_,z⟩|⟨d,ed,_⟩
  ·exact z
  ·cases ed
 subst hfs;have J:W.InstAt s.heap a { cls:=.ref C,dict:=none,data:=.fields vs } C none:=⟨ho,rfl,rfl,True.intro⟩;refine W.set_plain I.bQ J c.sa (qg (s:={ s with toks:=s.toks+1 }) I.bQ J c n ?_);obtain ⟨cd,hc,hd'⟩:=W.any_some c.hd;refine wpAny_bind (wpAny_pure (wpAny_bind (wpAny_bind (wpAny_loadPart ho (wpAny_bind (W.Looks.here (s:={ s with toks:=s.toks+1 }) (W.looks_clsIn I.bQ hc) ?_))))));rw[hd'];have hlt:=Heap.lt_size ho;have hxs:a≠s.heap.objs.size:=Nat.ne_of_lt hlt;have ho1:(s.heap.push { cls:=.type "dict",data:=.dict #[] }).get? a=some { cls:=.ref C,dict:=none,data:=.fields vs }:=Heap.get?_push_of_some _ ho;refine wpAny_bind (wpAny_alloc' ?_);refine wpAny_bind (wpAny_update' ho1 ?_);refine wpAny_pure ?_;have hgd:((s.heap.push { cls:=.type "dict",data:=.dict #[] }).update a λo=>{ o with dict:=some s.heap.objs.size }).get? s.heap.objs.size=some { cls:=.type "dict",data:=.dict #[] }:=
  (Heap.get?_update_ne _ _ _ _ hxs.symm).trans (Heap.get?_push_at rfl rfl)
 have hga:((s.heap.push { cls:=.type "dict",data:=.dict #[] }).update a λo=>{ o with dict:=some s.heap.objs.size }).get? a=some { cls:=.ref C,dict:=some s.heap.objs.size,data:=.fields vs }:=
  Heap.get?_update_self _ ho1 rfl
 have hnd:((s.heap.push { cls:=.type "dict",data:=.dict #[] }).update a λo=>{ o with dict:=some s.heap.objs.size }).Ns s.heap.objs.size (λ_=>none):=
  ⟨_,#[],_,hgd,rfl,λe he=>absurd he (by simp),λ_=>rfl⟩
 show wpAny _ _ (storeInDict s.heap.objs.size (.str f _) f u) _ _ _;unfold storeInDict newKeyGuard;refine wpAny_bind (wpAny_pure (wpAny_bind (wpAny_nsSet1 (Heap.Ns1.of_empty hnd) λh' hn2 hs2=>?_)));obtain ⟨oD,esD,epD,hoD,hdD,hcD⟩:=hn2.count (PySem.Within.cons f u PySem.Within.nil);refine wpAny_bind (wpAny_lookBehind hoD (by rw[hdD];exact pastItsLine_dict (Nat.le_trans hcD (by rw[length_cons,length_nil,sizeLine_eq];omega))) ?_);have hd0:H s.heap.objs.size=none:=I.hok.fresh (Nat.le_refl _);refine wpAny_pure (h s.heap.objs.size _ hd0 ?_);have e':upd H s.heap.objs.size (.own a) a=some (.exc C none [] fr):=by rw[ai hxs];exact e
 have I1:Inv X Y U (upd H s.heap.objs.size (.own a)) { s with heap:=s.heap.push { cls:=.type "dict",data:=.dict #[] },toks:=s.toks+1 }:=
  I.laid (a:=s.heap.objs.size) (o:=.own a) (t':=s.toks+1) (λb u q=>Heap.get?_push_of_some _ q) (Nat.le_refl _) ⟨_,Heap.get?_push_size s.heap rfl⟩
 have I2:=I1.write (x:=a) (e:=a) (o:=.exc C (some s.heap.objs.size) [] fr) (t':=s.toks+1) (h':=(s.heap.push { cls:=.type "dict",data:=.dict #[] }).update a λo=>{ o with dict:=some s.heap.objs.size })
  (by rw[e'];exact True.intro) (.inl rfl) (λb q hb z=>(Heap.get?_update_ne _ _ _ _ hb).trans z) ⟨_,hga⟩
  ⟨⟨vs,hga,zz⟩,.inr ⟨_,rfl,by rw[ai hxs.symm,av],Nat.zero_le _,hxs.symm,_,Heap.Ns1.of_empty hnd,λ_=>True.intro,λy hy=>absurd rfl hy⟩⟩
 have ga':h'.get? a=some { cls:=.ref C,dict:=some s.heap.objs.size,data:=.fields vs }:=(hs2.2 a hxs).trans hga;have I3:=I2.write (x:=a) (e:=s.heap.objs.size) (o:=.exc C (some s.heap.objs.size) [(f,y)] fr) (t':=s.toks+1+1) (h':=h') (by rw[av];exact True.intro) (.inr (by rw[ai hxs.symm,av]))
  (λb q hb z=>(hs2.2 b hb).trans z) ⟨oD,hoD⟩
  ⟨⟨vs,ga',zz⟩,.inr ⟨_,rfl,by rw[ai hxs.symm,ai hxs.symm,av],by show 1<=1000;decide,hxs.symm,_,hn2,λg=>?_,λg hg=>?_⟩⟩
 ·rw[Ct] at I3;exact I3
 ·show di (List.lookup g [(f,y)]) (if g=f then some u else none)
  by_cases q:g=f
  ·have hb:(g ==f)=true:=beq_iff_eq.mpr q;simp only[List.lookup,hb,if_pos q];exact ry
  ·have hb:(g ==f)=false:=beq_eq_false_iff_ne.mpr q;simp only[List.lookup,hb,if_neg q];exact True.intro
 ·by_cases q:g=f
  ·rw[q];simp
  ·exact absurd (show (if g=f then some u else none)=none by rw[if_neg q]) hg
end
section
variable {X:Cx}{Y:MD}{U:St}{H:Hp}{s:Shared}{a C:Addr}{dx:Option Addr}{fs:List (Str×V)}{f:Str}{v:V}{A:Around}{E:MC}{fr:Bool}
def Inv.fields {vs':Array Value}{h':Heap}{t':Nat}(I:Inv X Y U H s)(e:H a=some (.exc C dx fs fr))(hs:vs'.size=6)(h1:fr=true->vs'[1]? =some Value.none)
  (ha:h'.get? a=some { cls:=.ref C,dict:=dx,data:=.fields vs' }) (k:∀ b u,b≠a->s.heap.get? b=some u->h'.get? b=some u):Inv X Y U H { s with heap:=h',toks:=t' }:=by
 have I2:=I.write (x:=a) (e:=a) (o:=.exc C dx fs fr) (t':=t') (h':=h') (by rw[e];exact True.intro) (.inl rfl) k ⟨_,ha⟩ ?_
 ·have:upd H a (.exc C dx fs fr)=H:=by
   funext b
   by_cases hb:b=a
   ·rw[hb,av,e]
   ·rw[ai hb]
  rw[this] at I2;exact I2
 ·obtain ⟨_,z⟩:=id (I.hok a _ e);refine ⟨⟨vs',ha,hs,h1⟩,?_⟩;rcases z with z|⟨d,ed,d1,z1,ne,mA,⟨od,es,ep,e2,c⟩,r⟩
  ·exact .inl z
  ·exact .inr ⟨d,ed,by rw[ai ne];exact d1,z1,ne,mA,⟨od,es,ep,k _ _ ne e2,c⟩,r⟩
def kI {R:Result->Shared->Prop}(I:Inv X Y U H s)(e:H a=some (.exc C dx fs fr))(c:cU X.K C)
  (h:∀ s',Inv X Y U H s'->R (.ok (.ret .none)) s'):codeAny (model X.prog X.w) A (.call (.builtin "ValueError.__init__") ⟨[.ref a,u],[]⟩) R s:=by
 have F:=PySem.F.excCall_ValueError;obtain ⟨⟨vs,ho,hsz,h1⟩,z⟩:=id (I.hok a _ e);have L4:Looks (model X.prog X.w) s.heap (isInstance (.ref a) (.type "ValueError")) true:=(show Looks (model X.prog X.w) s.heap (typeOf (.ref a)) (.ref C) from (Looks.ld ho).andThen .now).andThen (looks_mroIn I.bQ (c.sub (by decide+kernel)));refine codeAny_call_builtin F.init.plain F.initEntry ?_;simp only[checkBuiltinCall,F.initKind,F.initSplit,F.initRow];refine wpAny_bind (L4.here ?_);simp only[Bool.not_true,Bool.false_eq_true,if_false];have hshort:("ValueError" != "*")=true:=by decide
 have h0:∃ a0,vs[0]? =some a0:=⟨_,Array.getElem?_eq_getElem nofun⟩;obtain ⟨a0,h0⟩:=h0;obtain ⟨hp,g,d,t,os⟩:=s;unfold Bind.checkArgs;have hn:Looks (model X.prog X.w) hp (typeOf (.ref a)) (.ref C):=(Looks.ld ho).andThen .now;obtain ⟨cd,rs,hcl,_⟩:=c.mro;obtain ⟨oc,od,sl,hC⟩:∃ oc od sl,hp.get? C=some ⟨oc,od,.cls cd,sl⟩:=by
  unfold W.clsIn at hcl
  split at hcl
  ·rename_i ho';cases hcl;exact ⟨_,_,_,I.bQ _ _ ho'⟩
  ·cases hcl
 repeat (first|with_reducible refine wpAny_load hC ?_|wp_step)
 rw[h0];have ho1:(hp.push { cls:=.type "tuple",data:=.seq #[u] }).get? a=some { cls:=.ref C,dict:=dx,data:=.fields vs }:=Heap.get?_push_of_some _ ho;have hq:=Heap.get?_update_self (Obj.mapFields (·.setIfInBounds 0 (.ref hp.objs.size))) ho1 (Obj.isFreed_of_fields (Obj.data_mapFields rfl _));have fin:R (.ok (.ret Value.none)) ⟨(hp.push { cls:=.type "tuple",data:=.seq #[u] }).update a (Obj.mapFields (·.setIfInBounds 0 (.ref hp.objs.size))),g,d,t,os⟩:=by
  refine h _ (I.fields (vs':=vs.setIfInBounds 0 (.ref hp.objs.size)) (t':=t) e (by simpa using hsz) (λz=>?_) hq λb q hb z'=>?_)
  ·rw[Array.getElem?_setIfInBounds_ne (by decide)];exact h1 z
  ·exact (Heap.get?_update_ne _ _ _ _ hb).trans (Heap.get?_push_of_some _ z')
 refine wpAny_pure (wpAny_bind (wpAny_setField ho1 rfl nofun ?_));cases a0<;>first|exact wpAny_pure (wpAny_pure fin)|exact wpAny_letGo (wpAny_pure fin)
def si (I:Inv X Y U H s)(e:H a=some (.exc C dx fs fr))(c:cU X.K C)
  (h:∀ s',Inv X Y U H s'->Q .none s'):wpAny (model X.prog X.w) A (call (.builtin "ValueError.__init__") [.ref a,u]) Q E s:=wpAny_call (kI I e c h)
end
abbrev bZ (K:W.Frag)(C:Addr):Bool:=match K.lookup C with
 |some ⟨_,_,.cls cd,sl⟩=>!cd.abstract&& !cd.hasDel&&(sl.toList[4]?).join ==some (.builtin "ValueError.__new__")&&dM cd.mro&&cd.mro.contains (.ref C)&&
   W.specialIn K (.ref C) "__call__" ==some (some (.builtin "type.__call__"))&&W.instIn K (.ref C) (.type "type") ==some true
 |_=>false
structure xo (M:Model) (h:Heap) (C:Addr):Prop where
 obj:∃ oc od cd sl,h.get? C=some ⟨oc,od,.cls cd,sl⟩/\cd.abstract=false/\cd.hasDel=false/\cd.mro.isEmpty=false
 made:W.Looks M h (Bind.madeBy (.ref C)) (some "ValueError.__new__")
 base:W.Looks M h (Bind.staticBase (.ref C)) (.ref C)
 self:W.Looks M h (isSubtype (.ref C) (.ref C)) true
 top:W.Looks M h (isSubtype (.ref C) (.type "ValueError")) true
 no1:W.Looks M h (isSubtype (.ref C) (.type "AttributeError")) false
 no2:W.Looks M h (isSubtype (.ref C) (.type "NameError")) false
 call:W.Looks M h (specialOf (.ref C) "__call__") (some (.builtin "type.__call__"))
 typ:W.Looks M h (isInstance (.ref C) (.type "type")) true
def vg {n:String}(h:bW.contains (.type n)=false):(rs.map Value.ref++bW).contains (.type n)=false:=by
 induction rs with
 |nil=>exact h
 |cons a r ih=>rw[map_cons,List.cons_append,List.contains_cons,ih];rfl
def nj {K:W.Frag}{M:Model}{h:Heap}(X:K.In h){C:Addr}(e:bZ K C=true):xo M h C:=by
 unfold bZ at e
 split at e
 ·rename_i oc od cd sl ho;simp only[Bool.and_eq_true,Bool.not_eq_true',beq_iff_eq] at e;obtain ⟨⟨⟨⟨⟨⟨e1,e2⟩,e3⟩,e4⟩,e5⟩,e7⟩,e8⟩:=e;obtain ⟨rs,em⟩:=dF e4;have hc:W.clsIn K C=some cd:=by unfold W.clsIn;rw[ho]
  have hm:Looks M h (mroOf (.ref C)) cd.mro:=(looks_clsIn X hc).andThen .now;have ne:cd.mro.isEmpty=false:=by rw[em];exact vb
  obtain ⟨c,l,hl⟩:∃ c l,cd.mro=c::l:=by
   cases q:cd.mro with
   |nil=>rw[q] at ne;cases ne
   |cons c l=>exact ⟨c,l,rfl⟩
  have made:Looks M h (Bind.madeBy (.ref C)) (some "ValueError.__new__"):=by
   intro A Q E s k q;unfold Bind.madeBy;refine wpAny_bind (hm A _ E s k ?_);rw[hl,forIn_cons];refine wpAny_bind (wpAny_bind (wpAny_bind (wpAny_bind (wpAny_loadPart (k _ _ (X _ _ ho)) (wpAny_pure ?_)))));dsimp only;rw[<-Array.getElem?_toList,e3];exact wpAny_pure (wpAny_pure (wpAny_pure q))
  have mro:∀ {v b},cd.mro.contains v=b->W.mroIn K C v=some b:=λ{v b} q=>by
   unfold W.mroIn;rw[hc,Option.bind_some,if_neg (by rw[ne];decide),q]
  refine ⟨⟨oc,od,cd,sl,X _ _ ho,e1,e2,ne⟩,made,?_,looks_mroIn X (mro e5),looks_mroIn X (mro (by rw[em];exact p9 (by decide+kernel))),looks_mroIn X (mro (by rw[em];exact vg (by decide+kernel))),looks_mroIn X (mro (by rw[em];exact vg (by decide+kernel))),looks_specialIn X e7,looks_instIn X e8⟩;intro A Q E s k q;unfold Bind.staticBase;refine wpAny_bind (hm A _ E s k ?_);rw[hl,forIn_cons];exact wpAny_bind (wpAny_bind (wpAny_bind (made A _ E s k (wpAny_pure (wpAny_pure (wpAny_pure q))))))
 ·cases e
variable {rest:List Value}
section
variable {prog:Program}{w:World}{A:Around}{K:W.Frag}{C:Addr}{R:Result->Shared->Prop}{h:Heap}{g:Array GenState}{d:Drawn}{t:Nat}{os:OsState}
def DI (Y:xo (model prog w) h C)(hz:rest.length<=sizeLine)
  (hq:R (.ok (.ret (.ref (h.objs.size+1)))) ⟨(h.push { cls:=.type "tuple",data:=.seq rest.toArray }).push { cls:=.ref C,data:=.fields #[.ref h.objs.size,.none,.none,.none,.bool false,.none] },g,d,t,os⟩):
  codeAny (model prog w) A (.call (.builtin "ValueError.__new__") ⟨.ref C::rest,[]⟩) R ⟨h,g,d,t,os⟩:=by
 obtain ⟨⟨oc,od,cd,sl,hC,e1,e2,e4⟩,made,base,self,top,no1,no2,call,typ⟩:=Y;have F:=PySem.F.excBase_ValueError;have here:Looks (model prog w) h (Bind.madeHere "BaseException.__new__" (.ref C)) ():=base.andThen (made.andThen (Looks.of_pure (by simp only[Option.map_some,F.canon,bne_self_eq_false,Bool.false_eq_true,if_false])));refine codeAny_call_builtin_code (Code.quiet_builtin _ F.quiet) ?_;simp only[checkBuiltinCall,F.newKind,F.newSplit,F.newRow]
 repeat (first|simp only[bne_self_eq_false,Bool.false_eq_true,if_false]|lk)
 refine codeAny_builtinAt F.entry ?_;unfold Builtin.«BaseException.__new__»;refine PySem.wpAt_bind ?_;show PySem.wpAt _ _ _ (stack >>= _) _ _ _;refine PySem.wpAt_bind (PySem.wpAt_stack λp below=>PySem.wpAt_of_wpAny ?_);have hends:=F.ends
 wp_walk
 refine PySem.wpAt_of_wpAny ?_;rw[F.owner]
 repeat (first|simp only[Bool.not_true,Bool.false_eq_true,if_false]|lk)
 rw[if_neg (show ¬ (rest.toArray.size>sizeLine) by rw[size_toArray];omega)];unfold newObjAsIs;refine wpAny_bind (wpAny_alloc (wpAny_pure (wpAny_bind ?_)));show wpAny _ _ (newObjAsIs _ _ _) _ _ _;unfold newObjAsIs classHasDel;refine wpAny_bind (wpAny_alloc (wpAny_bind (wpAny_bind (wpAny_load (Heap.get?_push_of_some _ (Heap.get?_push_of_some _ hC)) (wpAny_pure ?_)))));rw[e2];refine wpAny_pure (wpAny_pure ?_);show R _ _;rw[Heap.size_push];exact hq
def El {fI:Addr}(X:K.In h)(hz:rest.length<=sizeLine)(hm:bZ K C=true)(hi:W.findIn K (.ref C) "__init__"=some (some (.ref fI))) (hf:W.typeIn K (.ref fI)=some (.type "function"))
  (hq:codeAny (model prog w) (A.under (.builtin "type.__call__" ⟨.ref C::rest,[]⟩)) (.call (.ref fI) ⟨.ref (h.objs.size+1)::rest,[]⟩) (InitBack (h.objs.size+1) R)
   ⟨(h.push { cls:=.type "tuple",data:=.seq rest.toArray }).push { cls:=.ref C,data:=.fields #[.ref h.objs.size,.none,.none,.none,.bool false,.none] },g,d,t,os⟩):
  codeAny (model prog w) A (.call (.ref C) ⟨rest,[]⟩) R ⟨h,g,d,t,os⟩:=by
 have Y:=nj (M:=model prog w) X hm;have Y':=Y;obtain ⟨⟨oc,od,cd,sl,hC,e1,e2,e4⟩,made,base,self,top,no1,no2,call,typ⟩:=Y;refine codeAny_of_tree ?_;show wpAny _ _ (callAny (.ref C) _) _ _ _;refine nd_load hC ?_;show wpAny _ _ (callAny.viaDunder (.ref C) _) _ _ _;unfold callAny.viaDunder;refine wpAny_bind (call.at ?_);dsimp only;rw[tc_bind];refine wpAny_bind (wpAny_pure (wpAny_bind (wpAny_pure ?_)));refine wpAny_pure (a:=Fin.again (.call (.builtin "type.__call__") ⟨.ref C::rest,[]⟩)) (And.intro rfl ?_);refine codeAny_call_builtin_at (Code.quiet_builtin _ (by decide+kernel)) entry_typeCall (check_slot tc_kind tc_split typ (tc_args _ _ _) ?_);unfold Builtin.«type.__call__»;have hmr:Looks (model prog w) h (mroOf (.ref C)) cd.mro:=((Looks.ld (part:=none) hC).andThen .now).andThen .now
 repeat (first|simp only[e4,Bool.false_eq_true,if_false]|with_reducible refine wpAny_call ?_|lk)
 refine DI Y' hz ?_;have k:∀ b o,h.get? b=some o->((h.push { cls:=.type "tuple",data:=.seq rest.toArray }).push { cls:=.ref C,data:=.fields #[.ref h.objs.size,.none,.none,.none,.bool false,.none] }).get? b=some o:=λb o e=>Heap.get?_push_of_some _ (Heap.get?_push_of_some _ e)
 have hx:((h.push { cls:=.type "tuple",data:=.seq rest.toArray }).push { cls:=.ref C,data:=.fields #[.ref h.objs.size,.none,.none,.none,.bool false,.none] }).get? (h.objs.size+1)=some { cls:=.ref C,data:=.fields #[.ref h.objs.size,.none,.none,.none,.bool false,.none] }:=by heap_get
 have t1:Looks (model prog w) ((h.push { cls:=.type "tuple",data:=.seq rest.toArray }).push { cls:=.ref C,data:=.fields #[.ref h.objs.size,.none,.none,.none,.bool false,.none] }) (typeOf (.ref (h.objs.size+1))) (.ref C):=(Looks.ld hx).andThen .now;have s1:=self.keeps k;have i1:=(looks_findIn (M:=model prog w) X hi).keeps k;have b1:=(bind_fn (M:=model prog w) X (.ref (h.objs.size+1)) hf).keeps k;unfold isInstance callSpecial? specialOf
 repeat (first|with_reducible refine wpAny_call ?_|lk)
 refine codeAny_mono hq λr s' z=>?_
 rcases r with e|(v|_|_|_)<;>first|exact z|exact z.elim|skip
 obtain ⟨rfl,z⟩:=z;exact wpAny_pure (wpAny_pure z)
def AU (X:K.In h)(hz:rest.length<=sizeLine)(hm:bZ K C=true)(hi:W.findIn K (.ref C) "__init__"=some (some (.builtin "ValueError.__init__")))
  (hq:codeAny (model prog w) (A.under (.builtin "type.__call__" ⟨.ref C::rest,[]⟩)) (.call (.builtin "ValueError.__init__") ⟨.ref (h.objs.size+1)::rest,[]⟩) (InitBack (h.objs.size+1) R)
   ⟨(h.push { cls:=.type "tuple",data:=.seq rest.toArray }).push { cls:=.ref C,data:=.fields #[.ref h.objs.size,.none,.none,.none,.bool false,.none] },g,d,t,os⟩):
  codeAny (model prog w) A (.call (.ref C) ⟨rest,[]⟩) R ⟨h,g,d,t,os⟩:=by
 have Y:=nj (M:=model prog w) X hm;have Y':=Y;obtain ⟨⟨oc,od,cd,sl,hC,e1,e2,e4⟩,made,base,self,top,no1,no2,call,typ⟩:=Y;refine codeAny_of_tree ?_;show wpAny _ _ (callAny (.ref C) _) _ _ _;refine nd_load hC ?_;show wpAny _ _ (callAny.viaDunder (.ref C) _) _ _ _;unfold callAny.viaDunder;refine wpAny_bind (call.at ?_);dsimp only;rw[tc_bind];refine wpAny_bind (wpAny_pure (wpAny_bind (wpAny_pure ?_)));refine wpAny_pure (a:=Fin.again (.call (.builtin "type.__call__") ⟨.ref C::rest,[]⟩)) (And.intro rfl ?_);refine codeAny_call_builtin_at (Code.quiet_builtin _ (by decide+kernel)) entry_typeCall (check_slot tc_kind tc_split typ (tc_args _ _ _) ?_);unfold Builtin.«type.__call__»;have hmr:Looks (model prog w) h (mroOf (.ref C)) cd.mro:=((Looks.ld (part:=none) hC).andThen .now).andThen .now
 repeat (first|simp only[e4,Bool.false_eq_true,if_false]|with_reducible refine wpAny_call ?_|lk)
 refine DI Y' hz ?_;have k:∀ b o,h.get? b=some o->((h.push { cls:=.type "tuple",data:=.seq rest.toArray }).push { cls:=.ref C,data:=.fields #[.ref h.objs.size,.none,.none,.none,.bool false,.none] }).get? b=some o:=λb o e=>Heap.get?_push_of_some _ (Heap.get?_push_of_some _ e)
 have hx:((h.push { cls:=.type "tuple",data:=.seq rest.toArray }).push { cls:=.ref C,data:=.fields #[.ref h.objs.size,.none,.none,.none,.bool false,.none] }).get? (h.objs.size+1)=some { cls:=.ref C,data:=.fields #[.ref h.objs.size,.none,.none,.none,.bool false,.none] }:=by heap_get
 have t1:Looks (model prog w) ((h.push { cls:=.type "tuple",data:=.seq rest.toArray }).push { cls:=.ref C,data:=.fields #[.ref h.objs.size,.none,.none,.none,.bool false,.none] }) (typeOf (.ref (h.objs.size+1))) (.ref C):=(Looks.ld hx).andThen .now;have s1:=self.keeps k;have i1:=(looks_findIn (M:=model prog w) X hi).keeps k;have b1:Looks (model prog w) ((h.push { cls:=.type "tuple",data:=.seq rest.toArray }).push { cls:=.ref C,data:=.fields #[.ref h.objs.size,.none,.none,.none,.bool false,.none] }) (bindSpecial (.builtin "ValueError.__init__") (.ref (h.objs.size+1))) (.builtin "ValueError.__init__",[.ref (h.objs.size+1)]):=Looks.of_pure (PySem.F.excCall_ValueError.init.bind _);unfold isInstance callSpecial? specialOf
 repeat (first|with_reducible refine wpAny_call ?_|lk)
 refine codeAny_mono hq λr s' z=>?_
 rcases r with e|(v|_|_|_)<;>first|exact z|exact z.elim|skip
 obtain ⟨rfl,z⟩:=z;exact wpAny_pure (wpAny_pure z)
end
end L2
namespace L2
open PySem PySem.Spec PySem.W PyProof.Rows
abbrev bG (e:Addr)(h h':Heap):Prop:=∀ oe vs,h.get? e=some oe->oe.data=.fields vs->∃ vs',h'.get? e=some { oe with data:=.fields vs' }/\vs'.size=vs.size
abbrev GN (as:List Addr)(h h':Heap):Prop:=∀ b o,b ∉ as->h.get? b=some o->h'.get? b=some o
abbrev AI (h:Heap)(e T:Addr)(fl:Value):Prop:=∃ oe vs oT ts,h.get? e=some oe/\oe.data=.fields vs/\vs[1]? =some (.ref T)/\T≠e/\h.get? T=some oT/\oT.data=.fields ts/\ts[3]? =some fl
def bG.trans {e:Addr}{h h1 h2:Heap}(a:bG e h h1)(b:bG e h1 h2):bG e h h2:=λoe vs x y=>by
 obtain ⟨vs1,x1,z1⟩:=a oe vs x y;obtain ⟨vs2,x2,z2⟩:=b _ vs1 x1 rfl;exact ⟨vs2,x2,z2.trans z1⟩
def bG.same {e:Addr}{h h':Heap}(k:h'.get? e=h.get? e):bG e h h':=λoe vs x y=>⟨vs,by rw[k,x,<-y],rfl⟩
variable {Q:MB}
section
variable {M:Model}{A:Around}{E:MC}{s:Shared}{base:Heap}{env:Env}{outer:List Env}{L e:Addr}
def mz {oe:Obj}{vs:Array Value}{head:Value}{hadNext:Bool}(hfr:A.frames=some (env::outer))(hl:s.heap.FunFrames base (env::outer))(hf:env.frame=some L)
  (he:s.heap.get? e=some oe) (hd:oe.data=.fields vs) (hsz:1<vs.size)
  (q:∀ h' T,s.heap.objs.size<=T->AI h' e T (rawInt L)->bG e s.heap h'->(∀ b o,b≠e->s.heap.get? b=some o->∃ sl,h'.get? b=some { o with slots:=sl })->GN (e::nO (env::outer)) s.heap h'->Q () { s with heap:=h' }):
  wpAny M A (do let a <-frameOf env;let pl <-entryPlaceOf L hadNext;let b <-EntryCells.newEntry head a .none (rawInt L) .none pl;setField (.ref e) 1 b) Q E s:=by
 have hne:e ∉ nO (env::outer):=λhm=>by
  obtain ⟨_,o,ho,hnf⟩:=hl.mem hm;rw[he] at ho;cases ho;exact hnf vs hd
 refine wpAny_bind (wpAny_frameOf_fun hfr hl hf λh1 s1=>wpAny_bind (wpAny_entryPlaceOf λpl hpl=>?_));unfold EntryCells.newEntry newFields;refine wpAny_bind (wpAny_newObj_type ?_ (hpl.sizeOk5 _ _ _ _ _));have e1:h1.get? e=some oe:=(s1.2.1 e hne).trans he;have e2:=Heap.get?_push_of_some (h:=h1) { cls:=.type "traceback",dict:=none,data:=.fields ([head,.ref L,.none,rawInt L,.none]++(if pl.isEmpty then List.replicate 6 Value.none else pl)).toArray } e1;have hTe:h1.objs.size≠e:=Nat.ne_of_gt (Heap.lt_size e1);have d3:=Obj.data_mapFields hd (·.setIfInBounds 1 (Value.ref h1.objs.size));have e3:=Heap.get?_update_self (Obj.mapFields (·.setIfInBounds 1 (Value.ref h1.objs.size))) e2 (Obj.isFreed_of_fields d3);have t3:=(Heap.get?_update_other (h1.push { cls:=.type "traceback",dict:=none,data:=.fields ([head,.ref L,.none,rawInt L,.none]++(if pl.isEmpty then List.replicate 6 Value.none else pl)).toArray })
  (Obj.mapFields (·.setIfInBounds 1 (Value.ref h1.objs.size))) (Ne.symm hTe)).trans (Heap.get?_push_size h1 rfl)
 have keep:∀ b o,b≠e->h1.get? b=some o->((h1.push { cls:=.type "traceback",dict:=none,data:=.fields ([head,.ref L,.none,rawInt L,.none]++(if pl.isEmpty then List.replicate 6 Value.none else pl)).toArray }).update e (Obj.mapFields (·.setIfInBounds 1 (Value.ref h1.objs.size)))).get? b=some o:=
  λb o hb hq=>(Heap.get?_update_other _ _ (Ne.symm hb)).trans (Heap.get?_push_of_some _ hq)
 refine wpAny_setField e2 hd hsz (q _ h1.objs.size ?_ ?_ ?_ (λb o hb ho=>?_) λb o hb ho=>?_)
 ·rw[s1.1];exact Nat.le_refl _
 ·refine ⟨_,_,_,_,e3,d3,by simp[hsz],hTe,t3,rfl,?_⟩
  first|(simp;done)|(rcases hpl with rfl|⟨_,_,_,_,_,_,_,rfl⟩<;>simp)
 ·intro oe' vs' x y;rw[he] at x;cases x;rw[hd] at y;cases y;refine ⟨vs.setIfInBounds 1 (.ref h1.objs.size),?_,by simp⟩;rw[e3];obtain ⟨c0,d0,dt,sl0⟩:=oe;cases hd
  rfl
 ·obtain ⟨sl,z⟩:=s1.2.2 b o ho;exact ⟨sl,keep b _ hb z⟩
 ·exact keep b o (λz=>hb (by rw[z];exact mem_cons_self)) ((s1.2.1 b λz=>hb (mem_cons_of_mem _ z)).trans ho)
abbrev Eg (n₀:Nat)(ps:MD)(H:Hp)(h:Heap)(e:Addr):Prop:=(∃ oe vs,h.get? e=some oe/\oe.data=.fields vs/\vs[1]? =some Value.none)\/∃ T,n₀<=T/\H T=none/\(∀ p ∈ ps,p.1≠T)/\AI h e T .none
def Bz {n₀:Nat}{ps:MD}{H:Hp}(hfr:A.frames=some (env::outer))(hl:s.heap.FunFrames base (env::outer))(hf:env.frame=some L)(sf:Eg n₀ ps H s.heap e)(h0:n₀<=s.heap.objs.size)(hps:∀ p ∈ ps,p.1<s.heap.objs.size)
  (q:∀ h' T T0,s.heap.objs.size<=T->n₀<=T0->(H T0=none\/s.heap.objs.size<=T0)->(∀ p ∈ ps,p.1≠T0)->(∀ o,s.heap.get? T0=some o->∃ ts,o.data=.fields ts)->AI h' e T (rawInt L)->bG e s.heap h'->h'.FunFrames base (env::outer)->(∀ b o,b≠e->b≠T0->s.heap.get? b=some o->∃ sl,h'.get? b=some { o with slots:=sl })->GN (e::T0::nO (env::outer)) s.heap h'->(∀ b o,s.heap.get? b=some o->∃ o',h'.get? b=some o')->Q () { s with heap:=h' }):
  wpAny M A (noteFrame (.ref e) env) Q E s:=by
 have fun_of:∀ {h':Heap}{as:List Addr},(∀ b ∈ as,∀ o,s.heap.get? b=some o->∃ vs,o.data=.fields vs)->(∀ b o,b ∉ as->s.heap.get? b=some o->∃ sl,h'.get? b=some { o with slots:=sl })->h'.FunFrames base (env::outer):=
  λ{h' as} ha k=>hl.of_keeps λb o ho hnf=>by
   by_cases hb:b ∈ as
   ·obtain ⟨vs,z⟩:=ha b hb o ho;exact absurd z (hnf vs)
   ·obtain ⟨sl,z⟩:=k b o hb ho;exact ⟨_,z,rfl⟩
 unfold noteFrame;simp only[hf];rcases sf with ⟨oe,vs,he,hd,h1⟩|⟨T0,hT0,hH0,hp0,oe,vs,oT,ts,he,hd,h1,hTe,hT,hdT,h3⟩
 ·skip
  refine wpAny_bind (wpAny_field he hd h1 ?_);rw[if_neg (by decide)];refine mz hfr hl hf he hd (Array.getElem?_eq_some_iff.mp h1).1 λh' T hT st fo sl sy=>?_
  refine q h' T s.heap.objs.size hT h0 (.inr (Nat.le_refl _)) (λp hp=>Nat.ne_of_lt (hps p hp)) (λo z=>absurd (Heap.lt_size z) (Nat.lt_irrefl _)) st fo ?_ (λb o hb _ ho=>sl b o hb ho) (λb o hb ho=>sy b o (λz=>hb ?_) ho) λb o ho=>?_
  ·refine fun_of (as:=[e]) (λb hb o ho=>?_) λb o hb ho=>sl b o (by simpa using hb) ho
   obtain rfl:b=e:=by simpa using hb
   rw[he] at ho;cases ho;exact ⟨vs,hd⟩
  ·rcases mem_cons.mp z with z|z
   ·exact mem_cons.mpr (.inl z)
   ·exact mem_cons_of_mem _ (mem_cons_of_mem _ z)
  ·by_cases hb:b=e
   ·subst hb;rw[he] at ho;cases ho;obtain ⟨vs',z,_⟩:=fo _ _ he hd;exact ⟨_,z⟩
   ·obtain ⟨sl',z⟩:=sl b o hb ho;exact ⟨_,z⟩
 ·refine wpAny_bind (wpAny_field he hd h1 ?_);rw[if_pos (show (Value.ref T0 != Value.none)=true from by simp)];refine wpAny_bind (wpAny_field hT hdT h3 ?_);rw[if_neg (show ¬ ((Value.none ==rawInt L)=true) from by simp[rawInt])];refine wpAny_bind (wpAny_setField hT hdT (Array.getElem?_eq_some_iff.mp h3).1 ?_);have other:∀ b,b≠T0->(s.heap.update T0 (Obj.mapFields (·.setIfInBounds 3 Value.none))).get? b=s.heap.get? b:=λb hb=>Heap.get?_update_other _ _ (Ne.symm hb)
  have self':=Heap.get?_update_self (Obj.mapFields (·.setIfInBounds 3 Value.none)) hT (Obj.isFreed_of_fields (Obj.data_mapFields hdT _));have rec':∀ b o,s.heap.get? b=some o->(∀ vs,o.data≠.fields vs)->b≠T0:=λb o hb hnf z=>by
   rw[z,hT] at hb;cases hb;exact hnf ts hdT
  refine mz (base:=base) hfr (hl.of_keeps λb o hb hnf=>⟨o,(other b (rec' b o hb hnf)).trans hb,rfl⟩) hf ((other e (Ne.symm hTe)).trans he) hd (Array.getElem?_eq_some_iff.mp h1).1 λh' T hTn st fo sl sy=>?_
  have hTn':s.heap.objs.size<=T:=by
   have z:(s.heap.update T0 (Obj.mapFields (·.setIfInBounds 3 Value.none))).objs.size<=T:=hTn
   rwa [Heap.size_after_update] at z
  refine q h' T T0 hTn' hT0 (.inl hH0) hp0 (λo z=>by rw[hT] at z;cases z;exact ⟨ts,hdT⟩) st (bG.trans (bG.same (other e (Ne.symm hTe))) fo) ?_ (λb o hb hb0 ho=>sl b o hb ((other b hb0).trans ho)) (λb o hb ho=>?_) λb o ho=>?_
  ·refine fun_of (as:=[e,T0]) (λb hb o ho=>?_) λb o hb ho=>sl b o (λz=>hb (by simp[z])) ((other b λz=>hb (by simp[z])).trans ho)
   rcases mem_cons.mp hb with hb|hb
   ·subst hb;rw[he] at ho;cases ho;exact ⟨vs,hd⟩
   ·obtain rfl:b=T0:=by simpa using hb
    rw[hT] at ho;cases ho;exact ⟨ts,hdT⟩
  ·have n1:b≠e:=λz=>hb (by simp[z])
   have n2:b≠T0:=λz=>hb (by simp[z])
   refine sy b o (λz=>hb ?_) ((other b n2).trans ho);rcases mem_cons.mp z with z|z
   ·exact mem_cons.mpr (.inl z)
   ·exact mem_cons_of_mem _ (mem_cons_of_mem _ z)
  ·by_cases hb:b=e
   ·subst hb;obtain ⟨vs',z,_⟩:=fo _ _ ((other b (Ne.symm hTe)).trans he) hd;exact ⟨_,z⟩
   ·by_cases hb0:b=T0
    ·subst hb0;obtain ⟨sl',z⟩:=sl b _ hb self';exact ⟨_,z⟩
    ·obtain ⟨sl',z⟩:=sl b o hb ((other b hb0).trans ho);exact ⟨_,z⟩
def vj {T:Addr}{fl:Value}(st:AI s.heap e T fl)
  (q:∀ h',AI h' e T .none->(∀ b,b≠T->h'.get? b=s.heap.get? b)->(∃ o,s.heap.get? T=some o)->(∃ o,h'.get? T=some o)->(∃ oT ts,h'.get? T=some oT/\oT.data=.fields ts)->Q () { s with heap:=h' }):wpAny M A (setFlight (.ref e) none) Q E s:=by
 obtain ⟨oe,vs,oT,ts,he,hd,h1,hTe,hT,hdT,h3⟩:=st;have hz:3<ts.size:=(Array.getElem?_eq_some_iff.mp h3).1;have other:∀ b,b≠T->(s.heap.update T (Obj.mapFields (·.setIfInBounds 3 ((none:Option Addr).elim Value.none λf=>rawInt f)))).get? b=s.heap.get? b:=λb hb=>Heap.get?_update_other _ _ (Ne.symm hb)
 have self':=Heap.get?_update_self (Obj.mapFields (·.setIfInBounds 3 ((none:Option Addr).elim Value.none λf=>rawInt f))) hT (Obj.isFreed_of_fields (Obj.data_mapFields hdT _));unfold setFlight;refine wpAny_bind (wpAny_field he hd h1 ?_);rw[if_pos (show (Value.ref T != Value.none)=true from by simp)];refine wpAny_setField hT hdT hz (q _ ⟨oe,vs,_,_,(other e (Ne.symm hTe)).trans he,hd,h1,hTe,self',Obj.data_mapFields hdT _,by simp[hz]⟩ other ⟨_,hT⟩ ⟨_,self'⟩ ⟨_,_,self',Obj.data_mapFields hdT _⟩)
end
variable {A:Around}
section
variable {X:Cx}{U:St}{H:Hp}{s:Shared}{e C:Addr}{dx:Option Addr}{fs:List (Str×V)}{h':Heap}
def Inv.zA {Y:MD}(I:Inv X Y U H s):Inv X [] U H s:=I.pK λ_ z=>absurd z (by simp)
def Inv.Jv {T0:Addr}{as:List Addr}(I:Inv X [] U H s)(hpn:∀ p ∈ X.pn,p.1≠T0) (he:H e=some (.exc C dx fs false)) (has:as=nO X.stack)
  (hT:X.s₀.heap.objs.size<=T0) (hT0:H T0=none\/s.heap.objs.size<=T0) (hTd:∀ o,s.heap.get? T0=some o->∃ ts,o.data=.fields ts)
  (fo:bG e s.heap h') (sl:∀ b o,b≠e->b≠T0->s.heap.get? b=some o->∃ sl,h'.get? b=some { o with slots:=sl }) (sy:GN (e::T0::as) s.heap h') (th:∀ b o,s.heap.get? b=some o->∃ o',h'.get? b=some o'):
  Inv X [] U H { s with heap:=h' }:=by
 subst has;obtain ⟨⟨vs,ho,hsz,_⟩,z⟩:=id (I.hok e _ he);have hH0:H T0=none:=by
  rcases hT0 with z|z
  ·exact z
  ·exact I.hok.fresh z
 have nT:∀ {b:Addr}{o:Obj},s.heap.get? b=some o->(∀ vs,o.data≠.fields vs)->b≠T0:=λ{b o} hb hn z=>by
  subst z;obtain ⟨ts,q⟩:=hTd _ hb;exact hn ts q
 have jR:∀ b o,H b=none->b≠T0->b ∉ nO X.stack->s.heap.get? b=some o->h'.get? b=some o:=λb o hb h0 hf hq=>sy b o (λm=>by
  rcases mem_cons.mp m with m|m
  ·rw[m,he] at hb;cases hb
  ·rcases mem_cons.mp m with m|m
   ·exact h0 m
   ·exact hf m) hq
 have D5:∀ a u,H a=some u->a≠e->∀ o,s.heap.get? a=some o->h'.get? a=some o:=λa u ha ne o hq=>sy a o (λm=>by
  rcases mem_cons.mp m with m|m
  ·exact ne m
  ·rcases mem_cons.mp m with m|m
   ·rw[m,hH0] at ha;cases ha
   ·rw[I.pA a m] at ha;cases ha) hq
 refine I.step (g':=s.gens) (t':=s.toks) (d':=s.drawn) (ch:=[T0]) (h':=h') (λb hb=>?_) (λb o hL hfs hch hq hn=>?_) (λb o hL hfs hch hq hn=>?_) (λb o _ _ hn=>hn) (λb o _ hq=>th b o hq) (λ_ _ q=>q) (λ_ _ _ q=>q) (λb ps q=>⟨#[],by rw[q];simp⟩) (λm hm=>?_) (λa u ha=>?_) I.bare
 ·obtain rfl:b=T0:=by simpa using hb
  refine ⟨.inr hT,?_,λx c hc z=>?_,λp hp=>hpn p (by simpa using hp)⟩
  ·obtain ⟨m,⟨o,es,ep,ho',hd,_⟩,_⟩:=I.loc;intro z;exact nT ho' (λvs q=>by rw[hd] at q;cases q) z.symm
  ·obtain ⟨v,o,ho',hd⟩:=I.cell x c hc;exact nT ho' (λvs q=>by rw[hd] at q;cases q) z
 ·refine jR b o hn (by simpa using hch) (λm=>?_) hq;rcases mem_cons.mp (I.iS b m) with z|z
  ·exact hL z
  ·exact hfs z
 ·exact sl b o (λz=>by rw[z,he] at hn;cases hn) (by simpa using hch) hq
 ·obtain ⟨o,es,ep,ho',hd,r⟩:=hm;have n1:X.env.locals≠e:=λz=>by have:=I.free;rw[z,he] at this;cases this
  obtain ⟨sl',q⟩:=sl _ o n1 (nT ho' λvs q=>by rw[hd] at q;cases q) ho';exact ⟨_,es,ep,q,hd,r⟩
 ·by_cases hae:a=e
  ·subst hae;rw[he] at ha;cases ha;obtain ⟨vs',q,hz⟩:=fo _ vs ho rfl;refine ⟨⟨vs',q,hz.trans hsz,λy=>by cases y⟩,?_⟩;rcases z with z|⟨d,ed,d1,z1,ne,mA,⟨od,es,ep,e2,c⟩,r⟩
   ·exact .inl z
   ·exact .inr ⟨d,ed,d1,z1,ne,mA,⟨od,es,ep,D5 d _ d1 ne _ e2,c⟩,r⟩
  ·refine (I.hok a u ha).jR (λb o hb hq=>?_) (λ_ q=>q) λ_ _ q=>q
   rcases hb with hb|hb
   ·subst hb;exact D5 b u ha hae o hq
   ·refine D5 b _ hb (λz=>?_) o hq;rw[z,he] at hb;cases hb
abbrev y9 (P:Program)(w:World):ug:=λouter H s E u s'=>∃ (e:Addr) (H':Hp) (C:Addr) (dx:Option Addr) (fs:List (Str×V)) (T:Addr),u=.ref e/\s'.os=s.os/\AllBare s'.gens/\Un (nO outer) [] H H' s.heap s'.heap/\gb P w H' s'.heap/\
 H' e=some (.exc C dx fs false)/\s.heap.objs.size<=T/\H' T=none/\AI s'.heap e T .none/\E e H'
abbrev G3 (X:Cx)(E:St->XK):Prop:=∀ (U:St) (H:Hp) (s:Shared) (e C:Addr) (dx:Option Addr) (fs:List (Str×V)),Inv X [] U H s->Eg X.s₀.heap.objs.size X.pn H s.heap e->H e=some (.exc C dx fs false)->E U e H->X.xe (.ref e) s
def nA {E:St->XK}(x:G3 X E):Passes (y9 X.prog X.w) X E:=by
 intro Y U H s u s' I h;obtain ⟨e,H',C,dx,fs,T,rfl,os,bare,un,hok,he,hT,hT0,st,q⟩:=h;have J:Inv X [] U H' s':=Inv.ym (ch:=[]) I.zA os un hok bare (λb z=>absurd z (by simp));exact x U H' s' e C dx fs J (.inr ⟨T,Nat.le_trans I.sz hT,hT0,λp hp=>Nat.ne_of_lt (Nat.lt_of_lt_of_le (Heap.lt_size (I.pin p (mem_append_left _ hp)).1) hT),st⟩) he q
def mw {M:Model}{E E':MC}{Q:Shared->Prop}(I:Inv X [] U H s)(hs:X.stack=X.env::X.outer)(hf:X.env.frame=some X.env.locals)(sf:Eg X.s₀.heap.objs.size X.pn H s.heap e)(he:H e=some (.exc C dx fs false))
  (q:∀ s' T,Inv X [] U H s'->s'.os=s.os->X.s₀.heap.objs.size<=T->H T=none->(∀ p ∈ X.pn,p.1≠T)->AI s'.heap e T .none->Q s'):
  wpAny M X.A (noteFrame (.ref e) X.env) (λ_ s1=>wpAny M X.A (setFlight (.ref e) none) (λ_ s2=>Q s2) E s1) E' s:=by
 have hl:s.heap.FunFrames X.base (X.env::X.outer):=hs▸I.stack;refine Bz (by rw[<-hs];exact I.ok.frames) hl hf sf I.sz (λp hp=>Heap.lt_size (I.pin p (mem_append_left _ hp)).1) λh1 T T0 hT hT0 hH0 hp0 hTd st fo fF sl sy th=>?_
 have I1:=I.Jv (T0:=T0) (as:=nO (X.env::X.outer)) (h':=h1) hp0 he (by rw[hs]) hT0 hH0 hTd fo sl sy th;have hHT:H T=none:=I.hok.fresh hT;have hpT:∀ p ∈ X.pn,p.1≠T:=λp hp=>Nat.ne_of_lt (Nat.lt_of_lt_of_le (Heap.lt_size (I.pin p (mem_append_left _ hp)).1) hT)
 refine vj (s:={ s with heap:=h1 }) st λh2 pU oth _ th2 rec2=>?_
 have I2:Inv X [] U H { s with heap:=h2 }:=by
  refine Inv.turned (s:={ s with heap:=h1 }) (it:=T) (h':=h2) (t':=s.toks) I1 (λb o hb hq=>(oth b hb).trans hq) hHT ?_ (.inr (Nat.le_trans I.sz hT)) (λx c hc z=>?_) λp hp=>hpT p (by simpa using hp)
  ·exact λz=>absurd (Nat.lt_of_lt_of_le I.lt hT) (by rw[z];exact Nat.lt_irrefl _)
  ·obtain ⟨v,o,ho,_⟩:=I.cell x c hc;exact absurd (Nat.lt_of_lt_of_le (Heap.lt_size ho) hT) (by rw[z];exact Nat.lt_irrefl _)
 exact q _ T I2 rfl (Nat.le_trans I.sz hT) hHT hpT pU
def vT {P:Program}{w:World}{K:W.Frag}{mg:ME}{base:Heap}{N:List Str}{qual:Str}{scope:Scope}{f:Addr}{cd:Value}{outer:List Env}{E:XK}:
  G3 (wq (y9 P w) P w K mg base N qual scope f cd A outer s H E) (λ_=>E):=by
 intro σ' H' s' e C dx fs I sf he q;show wpAny _ _ (do noteFrame (.ref e) _;setFlight (.ref e) none) _ _ s';refine wpAny_bind (mw I rfl rfl sf he λs2 T J os hT hH _ st=>?_);exact ⟨e,H',C,dx,fs,T,rfl,J.os,J.bare,J.base,J.hok,he,hT,hH,st,q⟩
end
structure JU (K:W.Frag) (C f:Addr):Prop where
 mks:bZ K C=true
 init:W.findIn K (.ref C) "__init__"=some (some (.ref f))
 fn:W.isFn K (.ref f)=true
 kp:W.keepIn K (.ref C)=true
variable {us:List Value}{vs:List V}
section
variable {X:Cx}{Y:MD}{U:St}{H:Hp}{s:Shared}{C f:Addr}
def Inv.D8 (us:List Value)(I:Inv X Y U H s):Inv X Y U (upd H (s.heap.objs.size+1) (.exc C none [] true))
  { s with heap:=(s.heap.push { cls:=.type "tuple",data:=.seq us.toArray }).push { cls:=.ref C,data:=.fields #[.ref s.heap.objs.size,.none,.none,.none,.bool false,.none] } }:=by
 have I1:=I.kept (h':=s.heap.push { cls:=.type "tuple",data:=.seq us.toArray }) (t':=s.toks) λb u q=>Heap.get?_push_of_some _ q
 refine Inv.laid (s:={ s with heap:=s.heap.push { cls:=.type "tuple",data:=.seq us.toArray } }) (a:=s.heap.objs.size+1) (o:=.exc C none [] true) (t':=s.toks) I1 (λb u q=>Heap.get?_push_of_some _ q) (Nat.le_of_eq (Heap.size_push _ _)) ?_;refine ⟨⟨#[.ref s.heap.objs.size,.none,.none,.none,.bool false,.none],?_,rfl,λ_=>rfl⟩,.inl ⟨rfl,rfl⟩⟩;have:=Heap.get?_push_size (s.heap.push { cls:=.type "tuple",data:=.seq us.toArray }) (o:={ cls:=.ref C,data:=.fields #[.ref s.heap.objs.size,.none,.none,.none,.bool false,.none] }) rfl
 rwa [Heap.size_push] at this
variable {CX:ug}{k:Nat}{fd:FuncData}{ps:List Str}{sp:Sp}{dvs:List V}{ds:List Value}{E:St->XK}{x m:Str}{p pos apos:Pos}{e o:Expr}{es:List Expr}{ta:TE}{t:TA}
abbrev yG (C:Addr)(sp:Sp)(dvs:List V)(E:St->XK)(t:TA):TE:=λU H Q=>t U H λvs H1=>vs.length<=1000/\∀ x,H1 x=none->sp (.ref x::(vs++dvs)) (upd H1 x (.exc C none [] true)) (λv H2=>v=.non/\Q (.ref x) H2) (E U)
def mV {Q:VK}(M:JU X.K C f)(F:dh X.prog X.w X.K X.mg X.base CX k f fd ps sp)(hr:bT (k+1) X.A)(hb:Binds X.K fd ps ds)(hd:Vals dvs ds)
  (hx:Passes CX X E) (hz:us.length<=sizeLine) (I:Inv X Y U H s) (r:Vals vs us)
  (h:∀ x,H x=none->sp (.ref x::(vs++dvs)) (upd H x (.exc C none [] true)) (λv H2=>v=.non/\Q (.ref x) H2) (E U)):
  wpAny (model X.prog X.w) X.A (call (.ref C) us) (EP X Y U Q) X.xe s:=by
 have hq:=h (s.heap.objs.size+1) (I.hok.fresh (Nat.le_succ _));have I2:=Inv.D8 (C:=C) us I;have r2:Vals (V.ref (s.heap.objs.size+1)::(vs++dvs)) (Value.ref (s.heap.objs.size+1)::(us++ds)):=.cons rfl (r.append hd);have hl:(Value.ref (s.heap.objs.size+1)::us++ds).length=ps.length:=by
  have e:=r2.length;rw[F.len _ _ _ _ hq] at e;exact e.symm
 obtain ⟨hh,g,d,tk,os⟩:=s;refine wpAny_call (El (fI:=f) I.bQ hz M.mks M.init (beq_iff_eq.mp M.fn) (codeAny_mono (F.run _ X.stack _ _ ⟨Value.ref (hh.objs.size+1)::us,[]⟩ (Value.ref (hh.objs.size+1)::(us++ds)) _ _ (E U) (hr.make C us [])
  (I2.iP.make C us []) (hb _ (Value.ref (hh.objs.size+1)::us) I2.bQ hl) r2 hq) λr s' hq'=>?_))
 cases r with
 |error e=>exact hx Y U _ _ e s' I2 hq'
 |ok fl=>
  cases fl with
  |ret u=>
   obtain ⟨v,H',J,rv,ev,q⟩:=I2.after hq';subst ev;obtain rfl:u=Value.none:=rv;exact ⟨rfl,.ref _,H',J,rfl,q⟩
  |next=>exact False.elim hq'
  |brk=>exact False.elim hq'
  |cont=>exact False.elim hq'
def yj (M:JU X.K C f)(F:dh X.prog X.w X.K X.mg X.base CX k f fd ps sp)(hr:bT (k+1) X.A)(hg:Gl X x)(hm:X.mg x=some (.ref C))(hb:Binds X.K fd ps ds)(hd:Vals dvs ds)(hx:Passes CX X E)
  (ha:PA X (e::es) t) (hdb:(x ==("__debug__":Str))=false:=by decide) (he:starEach (e::es) X.env=(false,eval e X.env)::starEach es X.env:=by rfl) (hpl:(backTo pos (starEach es X.env)).any (·.1)=false:=by rfl):
  PE X (.Call (.Name x p) (e::es) [] pos) (yG C sp dvs E t):=by
 intro Y s U H Q I h;refine wpAny_Call_Name_kw (bE I hg hm ?_ hdb);refine W.callWith_K (h₀:=X.base) I.ok.mod.kin M.kp (az (ha pos Y s U H _ I h) λus s1 ⟨vs,H1,I1,r,z,q⟩=>⟨I1.bQ,?_⟩) he hpl;exact mV M F hr hb hd hx (by rw[nil_append,<-r.length];exact Nat.le_of_lt (dq z)) I1 r q
structure Fc (K:W.Frag) (C:Addr):Prop where
 mks:bZ K C=true
 init:W.findIn K (.ref C) "__init__"=some (some (.builtin "ValueError.__init__"))
 kp:W.keepIn K (.ref C)=true
 cls:cU K C
abbrev Bw (C:Addr)(t:TA):TE:=λU H Q=>t U H λvs H1=>vs.length=1/\∀ x,H1 x=none->Q (.ref x) (upd H1 x (.exc C none [] true))
def tf {Q:VK}(M:Fc X.K C)(I:Inv X Y U H s)(r:Vals vs us)(h1:vs.length=1)(h:∀ x,H x=none->Q (.ref x) (upd H x (.exc C none [] true))):
  wpAny (model X.prog X.w) X.A (call (.ref C) us) (EP X Y U Q) X.xe s:=by
 have hq:=h (s.heap.objs.size+1) (I.hok.fresh (Nat.le_succ _));have I2:=Inv.D8 (C:=C) us I;obtain ⟨u,rfl⟩:∃ u,us=[u]:=by
  have e:=r.length;rw[h1] at e
  match us,e with
  | [u],_=>exact ⟨u,rfl⟩
 obtain ⟨hh,g,d,tk,os⟩:=s;refine wpAny_call (AU I.bQ (by rw[sizeLine_eq];exact Nat.le_of_ble_eq_true rfl) M.mks M.init (kI (C:=C) (dx:=none) (fs:=[]) (fr:=true) I2 av M.cls λs' J=>?_));exact ⟨rfl,.ref _,_,J,rfl,hq⟩
def yx (M:Fc X.K C)(hg:Gl X x)(hm:X.mg x=some (.ref C))(ha:PA X (e::es) t)(hdb:(x ==("__debug__":Str))=false:=by decide) (he:starEach (e::es) X.env=(false,eval e X.env)::starEach es X.env:=by rfl) (hpl:(backTo pos (starEach es X.env)).any (·.1)=false:=by rfl):
  PE X (.Call (.Name x p) (e::es) [] pos) (Bw C t):=by
 intro Y s U H Q I h;refine wpAny_Call_Name_kw (bE I hg hm ?_ hdb);refine W.callWith_K (h₀:=X.base) I.ok.mod.kin M.kp (az (ha pos Y s U H _ I h) λus s1 ⟨vs,H1,I1,r,z,q⟩=>⟨I1.bQ,?_⟩) he hpl;exact tf M I1 r z q
structure Lk (K:W.Frag) (B:Addr):Prop where
 ga:W.specialIn K (.ref B) "__getattribute__"=some (some (.builtin "type.__getattribute__"))
 rd:W.readsIn K B (.type "type")=true
 fi:W.findCls K (.ref B) (.type "type") "__init__"=some (.val (.builtin "ValueError.__init__"))
abbrev Kf (K:W.Frag)(t:TA):TE:=λU H Q=>t U H λvs H1=>∃ a C dx fs fr v,vs=[.ref a,v]/\H1 a=some (.exc C dx fs fr)/\cU K C/\Q .non H1
def Gz {B:Addr}{pl:Sem Bool}{np:Pos}(b:Lk X.K B)(hg:Gl X x)(hm:X.mg x=some (.ref B))(ha:PA X (e::es) t)(hdb:(x ==("__debug__":Str))=false:=by decide)
  (hst:starEach (e::es) X.env=(false,eval e X.env)::starEach es X.env:=by rfl) (hpl:(backTo pos (starEach es X.env)).any (·.1)=false:=by rfl)
  (ht:eval (.Call (.Attribute (.Name x np) "__init__" apos) (e::es) [] pos) X.env=(do
   let ov <-eval (.Name x np) X.env
   standAt apos.atName
   let (f,first) <-holding [ov] (getMethod ov "__init__" pl)
   callWith pos f first (backTo pos (starEach (e::es) X.env)) (backToKw pos (keywordEach [] X.env))):=by rfl):
  PE X (.Call (.Attribute (.Name x np) "__init__" apos) (e::es) [] pos) (Kf X.K t):=by
 intro Y s U H Q I h;refine W.methodCall_KW (pl:=pl) (bE I hg hm ?_ hdb) ht;refine W.method_cls I.bQ b.ga (W.cls_value I.bQ b.rd b.fi (by decide+kernel) ?_);refine PyProof.Rows.callWith_builtin1 (az (ha pos Y _ U H _ (I.tok _) h) λus s1 ⟨vs,H1,I1,r,a,C,dx,fs,fr,v,ev,ea,c,q⟩=>?_) hst hpl;subst ev;cases r with
 |cons r1 r2=>
  cases r2 with
  |cons r3 r4=>
   cases r4;cases r1;exact si I1 ea c λs' J=>⟨.non,H1,J,rfl,q⟩
structure LL (K:W.Frag) (C f:Addr):Prop where
 ga:W.specialIn K (.ref C) "__getattribute__"=some (some (.builtin "type.__getattribute__"))
 rd:W.readsIn K C (.type "type")=true
 fi:W.findCls K (.ref C) (.type "type") "__init__"=some (.val (.ref f))
 kp:W.keepIn K (.ref f)=true
end
section
open PySem.Builtin PySem.Builtin.ObjectAttr
variable {prog:Program}{w:World}{A:Around}{E:MC}{s:Shared}{K:W.Frag}{x C:Addr}{ox:Obj}{odo:Option Obj}
structure zh (K:W.Frag) (C:Addr):Prop where
 ha:W.findIn K (.ref C) "__class__"=some (some (.builtin "object.__class__"))
 hn:W.specialIn K (.builtin "object.__class__") "__get__"=some (some (.builtin "getset_descriptor.__get__"))
 htk:W.takesIn K (.builtin "object.__class__")=some true
def BA {Q:MA}(X:K.In s.heap)(I:W.InstAt s.heap x ox C odo)(c:cU K C)(z:zh K C)(hfo:W.findObj K C odo "__class__"=some (.bind (.builtin "getset_descriptor.__get__") (.builtin "object.__class__")))
  (h:Q (some (.ref C)) { s with toks:=s.toks+1 }):wpAny (model prog w) A (getAttr? (.ref x) "__class__") Q E s:=by
 obtain ⟨hp,g,d,t,os⟩:=s;have L0:=I.type (M:=model prog w);have L1:=looks_findIn (M:=model prog w) X c.ga;have L2':=looks_findIn (M:=model prog w) X c.gn;have L3:=looks_find (M:=model prog w) X I hfo;have L4:Looks (model prog w) hp (isInstance (.ref x) (.type "BaseException")) true:=I.type.andThen (looks_mroIn X (c.sub (by decide+kernel)));unfold getAttr? getAttrBy? getAttrBy;refine wpAny_bind (wpAny_mkText (wpAny_bind (wpAny_attempt (wpAny_holding (wpAny_bind (L0.at (wpAny_bind (L1.at ?_))))))));have e1:(Value.builtin "BaseException.__getattribute__" ==Value.builtin "object.__getattribute__")=false:=by decide+kernel
 dsimp only;rw[e1,Bool.and_false];show wpAny _ _ (getAttrByItsOwn _ _ _ _ _ _) _ _ _;unfold getAttrByItsOwn hookBefore;refine wpAny_bind (L2'.at ?_);refine wpAny_bind (wpAny_attempt (wpAny_holding ?_));unfold callGetattribute;show wpAny _ _ (boundAndCalled _ _ _) _ _ _;unfold boundAndCalled;rw[PySem.F.attr_ValueError.ga.bind];refine wpAny_bind (wpAny_pure (wpAny_call (codeAny_call_builtin PySem.F.attr_ValueError.ga.plain PySem.F.entry_bexc_ga ?_)));refine @check_slot (model prog w) _ _ _ "BaseException.__getattribute__" "BaseException" "__getattribute__" (.ref x) [.str "__class__" t] [] _ rj my L4 (PySem.F.args_bexc_ga (.ref x) (.str "__class__" t)) ?_;unfold Builtin.«object.__getattribute__»;refine wpAny_bind (wpAny_pure (wpAny_bind (wpAny_pure (wpAny_bind (L0.at (wpAny_bind (L3.at ?_)))))));show wpAny _ _ (holding [_] (call _ [_,.ref x,.ref C]) >>= ret) _ _ _;refine wpAny_bind (wpAny_holding (wpAny_call (class_get (s:=⟨hp,g,d,t+1,os⟩) (ox:=ox) (od:=odo) X I (c.sub (by decide+kernel)) ?_)));refine wpAny_pure ?_;show wpAny _ _ (handedOut (.ref C)) _ _ _;exact handed_on rfl (wpAny_pure h)
def xY (c:cU K C)(z:zh K C):W.findObj K C odo "__class__"=some (.bind (.builtin "getset_descriptor.__get__") (.builtin "object.__class__")):=by
 obtain ⟨cd,hc,_⟩:=W.any_some c.hd;unfold W.findObj;rw[hc,Option.bind_some,z.ha,Option.bind_some];simp[z.hn,z.htk]
def qq (c:cU K C)(z:zh K C):W.KitX K (.ref x) (.ref C) (λh=>W.InstAt h x ox C odo) where
 ty:=λ_ _ _ I=>I.type
 it:=λ_ _ X _=>by
  obtain ⟨cdD,hcD,_⟩:=W.any_some c.hd;unfold W.clsIn at hcD
  split at hcD
  ·rename_i c' d' cd' sl' ho;intro A' Q' E' s' k q;unfold isType loadHead;exact wpAny_bind (wpAny_loadPart (k _ _ (X _ _ ho)) (wpAny_pure q))
  ·cases hcD
 ne:=λh tp dd its n sl X htp=>by
  obtain ⟨cdD,hcD,_⟩:=W.any_some c.hd;refine Bool.eq_false_iff.mpr λq=>?_
  have e:C=tp:=Value.ref.inj (beq_iff_eq.mp q);subst e;unfold W.clsIn at hcD
  split at hcD
  ·rename_i c' d' cd' sl' ho;have z:=(X _ _ ho).symm.trans htp;cases z
  ·cases hcD
 ca:=λX I k=>BA X I c z (xY c z) k
end
section
variable {X:Cx}{Y:MD}{U:St}{H:Hp}{s:Shared}{a C:Addr}{dx:Option Addr}{fs:List (Str×V)}{fr:Bool}
def qP (I:Inv X Y U H s)(e:H a=some (.exc C dx fs fr)):∃ ox odo,W.InstAt s.heap a ox C odo:=by
 obtain ⟨⟨vs,ho,_⟩,z⟩:=id (I.hok a _ e);rcases z with ⟨rfl,_⟩|⟨d,rfl,_,_,_,mA,⟨od,es,ep,hod,_⟩,_⟩
 ·exact ⟨_,none,ho,rfl,rfl,True.intro⟩
 ·exact ⟨_,some od,ho,rfl,rfl,hod⟩
def xA {E:MC}{Q:MC}{cv:Value}{b:Bool}(I:Inv X Y U H s)(e:H a=some (.exc C dx fs fr))(c:cU X.K C)(z:zh X.K C)(k:W.kitOne X.K (.ref C) cv=some b)
  (h:∀ tk,Q (.bool b) { s with toks:=tk }):wpAny (model X.prog X.w) A (call (.builtin "isinstance") [.ref a,cv]) Q E s:=by
 obtain ⟨ox,odo,J⟩:=qP I e;exact W.kia_one (qq (ox:=ox) (odo:=odo) c z) I.bQ J k (λz=>nomatch z) h
end
end L2
namespace L2
open PySem PySem.Spec PySem.W PyProof.Rows
variable {dx:Option Addr}
section
variable {X:Cx}{f:Str}{o value ex:Expr}{ta tv te:TE}{pos pos':Pos}{E:St->XK}
def tw {h:Heap}{a:Addr}{C:Addr}{vs:Array Value}{M:Model}(ho:h.get? a=some { cls:=.ref C,dict:=dx,data:=.fields vs }):W.Looks M h (isType (.ref a)) false:=by
 intro A Q E s k q;unfold isType loadHead;exact wpAny_bind (wpAny_loadPart (k _ _ ho) (wpAny_pure q))
abbrev GG (K:W.Frag)(E:St->XK)(te:TE):TS:=λD U H=>te U H λv H1=>∃ a C dx fs,v=.ref a/\H1 a=some (.exc C dx fs true)/\cU K C/\E U a (upd H1 a (.exc C dx fs false))
def zC (hx:G3 X E)(hc:X.calm=true)(he:PE X ex te):PS X (.Raise (some ex) none pos) (GG X.K E te):=by
 intro Y s U H D I h;rw[arm_exec_Raise];simp only[evalOpt,Option.map];refine wpAny_bind (wpAny_standAt ?_);unfold raiseStmt;refine wpAny_bind (wpAny_bind (az (he Y s U H _ I h) λu s1 ⟨y,H1,I1,ry,a,C,dx,fs,ey,ea,c,q⟩=>wpAny_bind (wpAny_standAt (wpAny_pure ?_))));subst ey;obtain rfl:u=Value.ref a:=ry;obtain ⟨⟨vs,ho,hsz,h1⟩,z⟩:=id (I1.hok a _ ea);have h1':=h1 rfl;have hq:X.xe (.ref a) s1:=by
  have J:Inv X [] U (upd H1 a (.exc C dx fs false)) s1:=by
   have J1:=I1.zA.write (x:=a) (e:=a) (o:=.exc C dx fs false) (t':=s1.toks) (h':=s1.heap) (by rw[ea];exact True.intro) (.inl rfl) (λ_ _ _ q=>q) ⟨_,ho⟩ ?_
   ·exact J1
   ·refine ⟨⟨vs,ho,hsz,λy=>by cases y⟩,?_⟩;rcases z with z|⟨d,ed,d1,z1,ne,r⟩
    ·exact .inl z
    ·exact .inr ⟨d,ed,by rw[ai ne];exact d1,z1,ne,r⟩
  exact hx U _ s1 a C dx fs J (.inl ⟨_,vs,ho,rfl,h1'⟩) av q
 obtain ⟨hp,g,d,tk,os⟩:=s1;have L0:Looks (model X.prog X.w) hp (typeOf (.ref a)) (.ref C):=(Looks.ld ho).andThen .now;have L1:Looks (model X.prog X.w) hp (isType (.ref a)) false:=tw ho;have L2':Looks (model X.prog X.w) hp (isInstance (.ref a) (.type "BaseException")) true:=L0.andThen (looks_mroIn I1.bQ (c.sub (by decide+kernel)));have L5:Looks (model X.prog X.w) hp (typeOf (.ref C)) (.type "type"):=looks_typeIn I1.bQ c.mt;have tt:(Value.type "type" ==Value.type "type")=true:=by decide
 repeat (first|simp only[Bool.false_eq_true,if_false,if_true,tt]|lk)
 rw[h1'];refine wpAny_pure ?_;rw[if_neg (by decide)];exact wpAny_pure (wpAny_raiseNew_none (I1.ok.hd hc) hq)
end
@[reducible]def Cx.bD (X:Cx) (e:Value):Cx:={ X with A:=X.A.mark (some e),calm:=false,xe:=λ_ _=>False }
variable {xe:MC}{ps:MD}{D:Ends}
section
variable {X:Cx}{Y:MD}{U:St}{H:Hp}{s:Shared}
def Cx.Ok.bD (ok:X.Ok)(e:Value):(X.bD e).Ok:=
 ⟨ok.mod,ok.kind,ok.glob,ok.blt,ok.above,ok.inj,ok.has,ok.cab,(λz=>by cases z),ok.frames,ok.stk,ok.exf,ok.bs,ok.bsz,ok.noex,ok.exfs,ok.jI,ok.frf⟩
def Inv.bD (I:Inv X Y U H s)(e:Value):Inv (X.bD e) Y U H s:=⟨I.ok.bD e,I.os,I.bare,I.base,I.loc,I.cell,I.free,I.freeC,I.pin,I.hok,I.len⟩
def Inv.jY {e:Value}(ok:X.Ok)(I:Inv (X.bD e) Y U H s):Inv X Y U H s:=⟨ok,I.os,I.bare,I.base,I.loc,I.cell,I.free,I.freeC,I.pin,I.hok,I.len⟩
def fA {M:Model}{A:Around}{E:MC}{Q:MB}{i:Nat}{n:Str}{pos:Pos}(I:Inv X Y U H s)(hN:X.N.Nodup)(hi:X.N[i]? =some n)(hn:X.env.scope.names.lookup n=some .local)
  (h:∀ s',Inv X Y (U.set i none) H s'->Q () s'):wpAny M A (do bindName X.env n .none;unbindBehindTheSuite X.env n pos) Q E s:=by
 have hcls:(X.env.scope.kind ==.class||(X.env.scope.kind ==.module&&X.env.locals != X.env.globals))=false:=by rw[I.ok.kind];rfl
 refine wpAny_bind (wpAny_bindName (bj I hN hi (.inl hn) (v:=.non) rfl (λs1 I1=>?_) (.inr hn)));obtain ⟨m,hm,hl⟩:=I1.loc;unfold unbindBehindTheSuite;refine wpAny_onRaise ?_;unfold unbindName;refine wpAny_bind (wpAny_point (wpAny_bind ?_));unfold deleteName;have hk:X.env.kindOf n=some .local:=hn;have hiσ:i<U.length:=by rw[I.len];exact (List.getElem?_eq_some_iff.mp hi).1
 have hmn:(m n).isSome=true:=by
  obtain ⟨u,_,l⟩:=hl i n .non hi (by rw[getElem?_set_self hiσ]) (.inl hn);rcases l with ⟨_,q⟩|⟨q,_⟩
  ·rw[q];rfl
  ·rcases q with q|q<;>(rw[hk] at q;cases q)
 simp only[hk,hcls];rw[if_neg (by decide)];refine wpAny_bind (wpAny_nsDel_keeps hm λh2 v hn2 hs2=>?_);rw[hmn];simp only[if_true,Bool.not_true,Bool.false_eq_true,if_false];refine wpAny_pure (wpAny_point (h { s1 with heap:=h2 } ?_));obtain ⟨oL,esL,epL,hoL,_⟩:=id hm;have Ad:=I1.Ad;refine ⟨I1.ok,I1.os,I1.bare,⟨λb o e n hb hx=>?_,λb o e n hb hx=>?_,I1.base.free,λb o e hx=>?_,I1.base.tups,I1.base.frzs,I1.base.tbls⟩,⟨_,hn2,λj y v' e1 e2 e3=>?_⟩,λy c e=>?_,I1.free,I1.freeC,λp hp=>?_,λa u ha=>?_,by rw[length_set];exact I.len⟩
 ·exact (hs2.2 b (Nat.ne_of_lt (Nat.lt_of_lt_of_le (Heap.lt_size e) I1.ok.above))).trans (I1.base.keep b o e n hb hx)
 ·obtain ⟨sl,q⟩:=I1.base.slot b o e n hb hx;exact ⟨sl,(hs2.2 b (Nat.ne_of_lt (Nat.lt_of_lt_of_le (Heap.lt_size e) I1.ok.above))).trans q⟩
 ·obtain ⟨o',q⟩:=I1.base.there b o e hx;exact ⟨o',(hs2.2 b (Nat.ne_of_lt (Nat.lt_of_lt_of_le (Heap.lt_size e) I1.ok.above))).trans q⟩
 ·have hj:j≠i:=λz=>by rw[z,getElem?_set_self hiσ] at e2;cases e2
  rw[getElem?_set_ne (Ne.symm hj)] at e2;obtain ⟨u,r,q⟩:=hl j y v' e1 (by rw[getElem?_set_ne (Ne.symm hj)];exact e2) e3;refine ⟨u,r,?_⟩;rcases q with ⟨k,e⟩|⟨k,c,e,z⟩
  ·refine .inl ⟨k,?_⟩;have ny:y≠n:=λz=>hj (lu hN e1 (z▸hi))
   show (if y=n then v else m y)=some u;rw[if_neg ny];exact e
  ·exact .inr ⟨k,c,e,z.sameBut hs2 (Ad y c e)⟩
 ·obtain ⟨w',z⟩:=I1.cell y c e;exact ⟨w',z.sameBut hs2 (Ad y c e)⟩
 ·obtain ⟨e,n,ne,nf,d⟩:=I1.pin p hp;exact ⟨(hs2.2 p.1 ne).trans e,n,ne,nf,d⟩
 ·refine (I1.hok a u ha).jR (λb o hb hq=>(hs2.2 b ?_).trans hq) (λ_ q=>q) λ_ _ q=>q
  rintro rfl;rcases hb with hb|hb
  ·rw[<-hb,I1.free] at ha;cases ha
  ·rw[I1.free] at hb;cases hb
@[reducible]def Cx.fZ (X:Cx) (Y:MD) (xe:MC):Cx:={ X with pn:=X.pn++Y,xe:=xe }
def Cx.Ok.fZ (ok:X.Ok)(Y:MD)(xe:MC):(X.fZ Y xe).Ok:=
 ⟨ok.mod,ok.kind,ok.glob,ok.blt,ok.above,ok.inj,ok.has,ok.cab,ok.hd,ok.frames,ok.stk,ok.exf,ok.bs,ok.bsz,ok.noex,ok.exfs,ok.jI,ok.frf⟩
def Inv.fZ (I:Inv X Y U H s)(xe:MC):Inv (X.fZ Y xe) [] U H s:=
 ⟨I.ok.fZ Y xe,I.os,I.bare,I.base,I.loc,I.cell,I.free,I.freeC,λp hp=>I.pin p (by simpa using hp),I.hok,I.len⟩
def Inv.gc (ok:X.Ok)(I:Inv (X.fZ Y xe) ps U H s):Inv X Y U H s:=
 ⟨ok,I.os,I.bare,I.base,I.loc,I.cell,I.free,I.freeC,λp hp=>I.pin p (mem_append_left _ hp),I.hok,I.len⟩
def SP.gc {f:Flow}(ok:X.Ok)(h:SP (X.fZ Y xe) ps D f s):SP X Y D f s:=by
 cases f with
 |next=>obtain ⟨σ',H',I,q⟩:=h;exact ⟨σ',H',I.gc ok,q⟩
 |brk=>obtain ⟨σ',H',I,q⟩:=h;exact ⟨σ',H',I.gc ok,q⟩
 |cont=>obtain ⟨σ',H',I,q⟩:=h;exact ⟨σ',H',I.gc ok,q⟩
 |ret u=>obtain ⟨v,σ',H',I,r,q⟩:=h;exact ⟨v,σ',H',I.gc ok,r,q⟩
def FD {body:List Stmt}{h0:ExceptHandler}{hs:List ExceptHandler}{pos:Pos}{E':St->XK}(I:Inv X Y U H s)(hstk:X.stack=X.env::X.outer)(hfr:X.env.frame=some X.env.locals)
  (hb:∀ xe,G3 (X.fZ Y xe) E'->PassesOwn (model X.prog X.w) X.A X.env xe->wpAny (model X.prog X.w) X.A (execs body X.env) (SP (X.fZ Y xe) [] D) xe s)
  (hh:∀ (U:St) (H:Hp) (s:Shared) (e C:Addr) (dx:Option Addr) (fs:List (Str×V)) (T:Addr),Inv X Y U H s->H e=some (.exc C dx fs false)->X.s₀.heap.objs.size<=T->H T=none->(∀ p ∈ X.pn++Y,p.1≠T)->AI s.heap e T .none->E' U e H->
   wpAny (model X.prog X.w) X.A (handleBy (.ref e) X.env (h0::hs)) (SP X Y D) X.xe s):
  wpAny (model X.prog X.w) X.A (exec (.Try body (h0::hs) [] [] pos) X.env) (SP X Y D) X.xe s:=by
 refine wpAny_Try_except (wpAny_mono (hb (λu s1=>wpAny (model X.prog X.w) X.A (noteFrame u X.env) (λ_ s2=>wpAny (model X.prog X.w) X.A (setFlight u none) (λ_ s3=>wpAny (model X.prog X.w) X.A (handleBy u X.env (h0::hs)) (SP X Y D) X.xe s3) X.xe s2) X.xe s1) ?_ PassesOwn.looking) (λf s1 h1=>?_) λ_ _ z=>z)
 ·intro σ' H' s' e C dx fs J sf he q;exact mw (X:=X.fZ Y _) J hstk hfr sf he λs2 T J2 _ hT hH hp st=>hh σ' H' s2 e C dx fs T (J2.gc I.ok) he hT hH hp st q
 ·have h2:=SP.gc I.ok h1;cases f with
  |next=>exact wpAny_execs_nil h2
  |brk=>exact h2
  |cont=>exact h2
  |ret u=>exact h2
def rQ {n x:Str}{np hpos:Pos}{b0:Stmt}{bD:List Stmt}{rest:List ExceptHandler}{i:Nat}{e C Ch T:Addr}{fs:List (Str×V)}{b:Bool}(I:Inv X Y U H s)(he:H e=some (.exc C dx fs false))
  (hT:X.s₀.heap.objs.size<=T) (hH:H T=none) (hp:∀ p ∈ X.pn++Y,p.1≠T) (st:AI s.heap e T .none) (c:cU X.K C) (ch:cU X.K Ch) (hsub:W.mroIn X.K C (.ref Ch)=some b) (hg:Gl X x) (hm:X.mg x=some (.ref Ch))
  (hN:X.N.Nodup) (hi:X.N[i]? =some n) (hn:X.env.scope.names.lookup n=some .local) (hdb:(x ==("__debug__":Str))=false)
  (yes:b=true->∀ s2,Inv (X.bD (.ref e)) Y (U.set i (some (.ref e))) H s2->wpAny (model X.prog X.w) (X.A.mark (some (.ref e))) (execs (b0::bD) X.env)
   (SP (X.bD (.ref e)) Y { nx:=λσ' H'=>D.nx (σ'.set i none) H',rt:=D.rt,bk:=λσ' H'=>D.bk (σ'.set i none) H',ct:=λσ' H'=>D.ct (σ'.set i none) H' }) (λ_ _=>False) s2)
  (no:b=false->wpAny (model X.prog X.w) X.A (handleBy (.ref e) X.env rest) (SP X Y D) X.xe s):
  wpAny (model X.prog X.w) X.A (handleBy (.ref e) X.env (.ExceptHandler (some (.Name x np)) (some n) (b0::bD) hpos::rest)) (SP X Y D) X.xe s:=by
 have I':=I.bD (.ref e);refine wpAny_handleBy_cons (codeAny_handlers_test (bE (X:=X.bD (.ref e)) I' hg hm ?_ hdb)) (by intro q;cases q);obtain ⟨⟨vs,ho,hsz,h1⟩,z⟩:=id (I.hok e _ he);have L0:Looks (model X.prog X.w) s.heap (typeOf (.ref e)) (.ref C):=(Looks.ld ho).andThen .now;have L1:Looks (model X.prog X.w) s.heap (typeOf (.ref Ch)) (.type "type"):=looks_typeIn I.bQ ch.mt;have L2':Looks (model X.prog X.w) s.heap (isInstance (.ref Ch) (.type "tuple")) false:=L1.andThen (Looks.of_pure tc_notTuple);have L3:Looks (model X.prog X.w) s.heap (isType (.ref Ch)) true:=by
  obtain ⟨cd,rs,hcl,_⟩:=ch.mro;unfold W.clsIn at hcl
  split at hcl
  ·rename_i ho';intro A' Q' E' s' k q;unfold isType loadHead;exact wpAny_bind (wpAny_loadPart (k _ _ (I.bQ _ _ ho')) (wpAny_pure q))
  ·cases hcl
 have L4:Looks (model X.prog X.w) s.heap (isSubtype (.ref Ch) (.type "BaseException")) true:=looks_mroIn I.bQ (ch.sub (by decide+kernel));have L5:Looks (model X.prog X.w) s.heap (isSubtype (.ref C) (.ref Ch)) b:=looks_mroIn I.bQ hsub;have L6:Looks (model X.prog X.w) s.heap (isExcClass (.ref Ch)) true:=by
  unfold isExcClass;exact L3.andThen L4
 unfold excMatches;refine wpAny_bind (L2'.here ?_);rw[if_neg (by decide)];refine wpAny_bind (wpAny_pure ?_);simp only[forIn_cons,forIn_nil];refine wpAny_bind (wpAny_bind (wpAny_bind (L6.here ?_)));rw[if_neg (by decide)];refine wpAny_pure ?_;refine wpAny_pure ?_;refine wpAny_bind (L0.here ?_);refine wpAny_bind (wpAny_bind (wpAny_bind (L5.here ?_)));cases b with
 |false=>
  rw[if_neg (by decide)];refine wpAny_pure ?_;refine wpAny_pure ?_;refine wpAny_pure ?_;exact no rfl
 |true=>
  rw[if_pos rfl];refine wpAny_pure ?_;refine wpAny_pure ?_;refine wpAny_pure ?_;refine codeAny_handlers_suite_as (vj st λh2 pU oth _ th2 _=>?_);have I2:Inv X Y U H { s with heap:=h2 }:=by
   refine Inv.turned (it:=T) (h':=h2) (t':=s.toks) I (λb o hb hq=>(oth b hb).trans hq) hH ?_ (.inr hT) (λy cc hc z=>?_) hp
   ·intro z;obtain ⟨m,⟨o,es,ep,ho',hd,_⟩,_⟩:=I.loc;obtain ⟨_,_,oT,ts,_,_,_,_,hT2,hd2,_⟩:=st;rw[z,ho'] at hT2;cases hT2;rw[hd] at hd2;cases hd2
   ·obtain ⟨v,o,ho',hd⟩:=I.cell y cc hc;obtain ⟨_,_,oT,ts,_,_,_,_,hT2,hd2,_⟩:=st;rw[<-z,ho'] at hT2;cases hT2;rw[hd] at hd2;cases hd2
  refine bj (X:=X.bD (.ref e)) (I2.bD (.ref e)) hN hi (.inl hn) (v:=.ref e) rfl (λs3 I3=>?_) (.inr hn);refine wpAny_mono (yes rfl s3 I3) (λf s4 h4=>?_) λ_ _ z=>z.elim
  cases f with
  |next=>
   obtain ⟨σ',H',J,q⟩:=h4;exact fA (J.jY I.ok) hN hi hn λs5 J5=>⟨_,H',J5,q⟩
  |brk=>
   obtain ⟨σ',H',J,q⟩:=h4;exact fA (J.jY I.ok) hN hi hn λs5 J5=>⟨_,H',J5,q⟩
  |cont=>
   obtain ⟨σ',H',J,q⟩:=h4;exact fA (J.jY I.ok) hN hi hn λs5 J5=>⟨_,H',J5,q⟩
  |ret u=>
   obtain ⟨v,σ',H',J,r,q⟩:=h4;exact fA (J.jY I.ok) hN hi hn λs5 J5=>⟨v,_,H',J5,r,q⟩
end
end L2
namespace L2
open PySem PySem.Spec PyProof.Rows
def xQ:bootBuiltins "isinstance"=some (.builtin "isinstance"):=by decide+kernel
section
variable {X:Cx}
abbrev Jy (K:W.Frag):V->V->Hp->VK->Prop:=λx y H Q=>∃ p xs i v,x=.ref p/\y=.int i/\aS K H p xs/\0<=i/\xs[i.toNat]? =some v/\Q v H
def zT:EH X (Jy X.K):=by
 intro Y s U H o i ov iv Q I ro ri h;obtain ⟨p,xs,k,z,rfl,rfl,hq,h0,he,q⟩:=h;cases ro;obtain ⟨t,rfl⟩:=ri;obtain ⟨its,r,pl,hz⟩:=I.list hq;obtain ⟨w,ew,rw'⟩:=r.get he;have hl:k.toNat<xs.length:=(List.getElem?_eq_some_iff.mp he).1;have hn:=gg;exact wpAny_getItem_list pl.isList h0 nofun (by simpa using ew) ⟨z,H,I,rw',q⟩
def jX {xs:List V}{us:List Value}(r:Vals xs us){j:Nat}(h:j<us.toArray.size):∃ x,xs[j]? =some x/\RelV x (us.toArray[j]):=by
 have hl:=r.length;have hj:j<us.length:=by simpa using h
 have e:xs[j]? =some xs[j]:=getElem?_eq_getElem nofun;obtain ⟨u,h1,h2⟩:=r.get e;refine ⟨_,e,?_⟩;rw[getElem?_eq_getElem hj] at h1;cases h1;simpa using h2
end
section
variable {U:St}{H:Hp}{Q:VK}{D:Ends}{K:W.Frag}
abbrev rV (x:V)(H:Hp)(R:Bool->Hp->Prop):Prop:=∃ k,x=.bl k/\R k H
def du {α:Type}{xs:List α}{i:Int}(h0:0<=i)(h1:i<xs.length):∃ v,lL xs i=some v/\v ∈ xs:=by
 obtain ⟨n,rfl⟩:=Int.eq_ofNat_of_zero_le h0;have hn:n<xs.length:=by omega
 exact ⟨xs[n],pd (getElem?_eq_getElem hn),getElem_mem hn⟩
end
section
variable {K:W.Frag}{g:TG}{tb:TS}{D:Ends}{U:St}{H:Hp}{tl:TE}{ta:TA}
end
def fits {n:Nat}(h:n<=1000):n<=sizeLine:=Nat.le_of_lt (dq h)
section
variable {X:Cx}{H:Hp}{Q:VK}
end
section
variable {K:W.Frag}
end
section
variable {H H':Hp}{h c p:Addr}{m n:Int}{o:HO}
end
def HR (ns:List Int)(h:ns.length<=63):fg (ns.map V.int) none (some 63)=ns.map V.int:=by
 have e1:HT.ql (ns.map V.int).length 0 none=0:=rfl;have e2:HT.ql (ns.map V.int).length (ns.map V.int).length (some 63)=(ns.map V.int).length:=by
  show (if (63:Int)<0 then ((63:Int)+((ns.map V.int).length:Int)).toNat else min (63:Int).toNat (ns.map V.int).length)=(ns.map V.int).length;rw[if_neg (by decide),length_map];show min 63 ns.length=ns.length
  omega
 unfold fg;rw[e1,e2,drop_zero,Nat.sub_zero,take_length]
variable {ns:List Int}
def tZ {i:Nat}{x:V}(h:(ns.map V.int)[i]? =some x):∃ z,x=V.int z:=by
 rw[getElem?_map] at h;cases e:ns[i]? with
 |none=>rw[e] at h;cases h
 |some z=>rw[e] at h;exact ⟨z,(Option.some.inj h).symm⟩
def Aa {i:Int}(h0:0<=i)(h1:i<ns.length):∃ z,lL (ns.map V.int) i=some (.int z):=by
 obtain ⟨v,a,m⟩:=du (xs:=ns.map V.int) h0 (by rw[length_map];exact h1);obtain ⟨z,_,rfl⟩:=List.mem_map.mp m;exact ⟨z,a⟩
section
variable {H:Hp}{Q:VK}
end
section
variable {X:Cx}
end
variable {A:Around}{E:MC}{s:Shared}
def DU {α:Type}{t:Sem α}{Q Q':α->Shared->Prop}{M:Model}(h:wpAny M A t Q (λ_ _=>False) s) (hQ:∀ a s,Q a s->Q' a s):wpAny M A t Q' E s:=wpAny_mono h hQ λ_ _ x=>x.elim
abbrev fR (X:Cx)(scope:Scope)(cl:List (Str×Addr))(N:List Str)(s:Shared)(H:Hp)(fp:List Addr):Cx:=
 { X with N:=N,s₀:=s,H₀:=H,env:=compEnvC scope cl s.heap.objs.size X.env,outer:=X.stack,stack:=X.stack,ex:=fp,fn:=λ_=>false,pn:=[],xe:=λ_ _=>False }
structure bB (X:Cx) (scope:Scope) (cl:List (Str×Addr)) (xs:List Str) (fr:List Str) (sel:List Nat):Prop where
 clos:closureFor scope X.env=pure cl
 sub:∀ y c,cl.lookup y=some c->X.env.cells.lookup y=some c
 has:∀ y,((relabel scope X.env).names.lookup y=some .cell\/(relabel scope X.env).names.lookup y=some .free)->∃ c,cl.lookup y=some c
 kind:scope.kind=.function
 nocell:∀ y ∈ scope.names,y.2≠.cell
 names:∀ y ∈ scope.names,y.2=.local->scope.names.lookup y.1=some .local
 own:∀ x ∈ xs,scope.names.lookup x=some .local
 len:sel.length=fr.length
 out:∀ (j:Nat) (y:Str),fr[j]? =some y->∃ i,sel[j]? =some i/\X.N[i]? =some y/\X.env.scope.names.lookup y=some .cell/\(relabel scope X.env).names.lookup y=some .cell
 nd:(xs++fr).Nodup
abbrev gf (U:St)(sel:List Nat):St:=sel.map λi=>U.getD i none
abbrev LC (te:TE)(J:It)(σ₀:St)(H1:Hp)(Q:VK):Prop:=∀ D,H1 D=none->∃ W:Nat->Nat->St->Hp->Prop,(∃ m,W 0 m σ₀ (upd H1 D (.lst [])))/\∀ i m σ' H',W i m σ' H'->
 (J.stop i H'/\Q (.ref D) H')\/(J.go i H'/\∃ N:St->Hp->Prop,(∀ σ2 H2,N σ2 H2->∃ m',m'<m/\W (i+1) m' σ2 H2)/\
  ∀ x H'',J.yld i H' x H''->te (σ'.set 0 (some x)) H'' λv H3=>∃ zs,H3 D=some (.lst zs)/\zs.length<sizeLine/\N (σ'.set 0 (some x)) (upd H3 D (.lst (zs++[v]))))
abbrev gate (env:Env):List Expr->Sem Bool
 | []=>pure true
 |c::_=>isTrue c env (eval c env)
variable {ifs:List Expr}{scope:Scope}{pos:Pos}
def uS {M:Model}{elt target iter:Expr}{it acc:Value}{env:Env}{Q:PySem.Fin->Shared->Prop}(hi:ifs.length<=1)
  (h:wpAny M A (pyNext it) (λr s1=>match r with
   |none=>Q (.done .next) s1
   |some v=>wpAny M A (letOwnedTupleGo target it v) (λ_ s2=>wpAny M A (assign target env v) (λ_ s3=>wpAny M A (gate env ifs) (λok s4=>
    (ok=true->wpAny M A (eval elt env) (λx s5=>wpAny M A (call (.builtin "list.append") [acc,x]) (λ_ s6=>wpAny M A (again (.compLoop (.ListComp elt [⟨target,iter,ifs,0⟩] scope pos) 0 it acc env)) Q E s6) E s5) E s4)/\
    (ok=false->wpAny M A (again (.compLoop (.ListComp elt [⟨target,iter,ifs,0⟩] scope pos) 0 it acc env)) Q E s4)) E s3) E s2) E s1) E s):
  wpAny M A (compTurn (.ListComp elt [⟨target,iter,ifs,0⟩] scope pos) 0 it acc env) Q E s:=by
 have key:∀ {g:Sem Bool}{K:Sem PySem.Fin}{s:Shared},wpAny M A g (λok s4=>
    (ok=true->wpAny M A (eval elt env) (λx s5=>wpAny M A (call (.builtin "list.append") [acc,x]) (λ_ s6=>wpAny M A K Q E s6) E s5) E s4)/\
    (ok=false->wpAny M A K Q E s4)) E s->wpAny M A (g >>= λok=>if ok=true then (eval elt env >>= λx=>call (.builtin "list.append") [acc,x] >>= λ_=>pure ()) >>= λ_=>K else K) Q E s:=λ{g K s} h=>by
  refine wpAny_bind (wpAny_mono h (λok s4 h4=>?_) λ_ _ e=>e);cases ok with
  |false=>exact h4.2 rfl
  |true=>exact wpAny_bind (wpAny_bind (wpAny_mono (h4.1 rfl) (λx s5 h5=>wpAny_bind (wpAny_mono h5 (λ_ s6 h6=>wpAny_pure h6) λ_ _ e=>e)) λ_ _ e=>e))
 match ifs,hi with
 | [],_=>
  rw[compTurn_list1];refine wpAny_bind (wpAny_standAt (wpAny_bind (wpAny_mono h (λr s1 h1=>?_) λ_ _ e=>e)));cases r with
  |none=>exact wpAny_pure h1
  |some v=>
   refine wpAny_bind (wpAny_mono h1 (λ_ s2 h2=>wpAny_bind (wpAny_mono h2 (λ_ s3 h3=>?_) λ_ _ e=>e)) λ_ _ e=>e);exact key (g:=pure true) h3
 | [c],_=>
  unfold compTurn;simp only[List.getElem?_cons_zero,List.getElem?_cons_succ,List.getElem?_nil];dsimp only[forIn,List.forIn',List.forIn'.loop,forIn'];rw[if_neg (by decide),if_neg (by decide)];refine wpAny_bind (wpAny_standAt (wpAny_bind (wpAny_mono h (λr s1 h1=>?_) λ_ _ e=>e)));cases r with
  |none=>exact wpAny_pure h1
  |some v=>
   refine wpAny_bind (wpAny_mono h1 (λ_ s2 h2=>wpAny_bind (wpAny_mono h2 (λ_ s3 h3=>?_) λ_ _ e=>e)) λ_ _ e=>e);refine key ?_;rw[if_pos rfl];refine wpAny_bind (wpAny_bind (wpAny_mono h3 (λok s4 h4=>wpAny_pure ?_) λ_ _ e=>e));exact wpAny_pure h4
abbrev LCg (tg:TG)(tc:TT)(te:TE)(J:It)(σ₀:St)(H1:Hp)(Q:VK):Prop:=∀ D,H1 D=none->∃ W:Nat->Nat->St->Hp->Prop,(∃ m,W 0 m σ₀ (upd H1 D (.lst [])))/\∀ i m σ' H',W i m σ' H'->
 (J.stop i H'/\Q (.ref D) H')\/(J.go i H'/\∃ N:St->Hp->Prop,(∀ σ2 H2,N σ2 H2->∃ m',m'<m/\W (i+1) m' σ2 H2)/\
  ∀ x H'',J.yld i H' x H''->tg x σ' H'' λσ2 H2=>tc σ2 H2 λb H3=>(b=true->te σ2 H3 λv H4=>∃ zs,H4 D=some (.lst zs)/\zs.length<sizeLine/\N σ2 (upd H4 D (.lst (zs++[v]))))/\(b=false->N σ2 H3))
abbrev yes:TT:=λ_ H Q=>Q true H
variable {te:TE}
def LC.g {J:It}{σ₀:St}{H1:Hp}{Q:VK}(h:LC te J σ₀ H1 Q):LCg (gA 0) yes te J σ₀ H1 Q:=λD hD=>by
 obtain ⟨W,w0,turn⟩:=h D hD;refine ⟨W,w0,λi m σ' H' w=>?_⟩;rcases turn i m σ' H' w with z|⟨go,N,hN,step⟩
 ·exact .inl z
 ·exact .inr ⟨go,N,hN,λx H'' y=>⟨λ_=>step x H'' y,λe=>nomatch e⟩⟩
abbrev Jz (X:Cx)(ifs:List Expr)(tc:TT):Prop:=ifs.length<=1/\∀ (Y:MD) (s:Shared) (U:St) (H:Hp) (Q:Bool->Hp->Prop),Inv X Y U H s->tc U H Q->wpAny (model X.prog X.w) X.A (gate X.env ifs) (TP X Y U Q) X.xe s
variable {X:Cx}
def j0:Jz X [] yes:=⟨Nat.zero_le _,λY s U H Q I q=>wpAny_pure ⟨H,I,q⟩⟩
def B2 {c:Expr}{tc:TT}(h:PT X c tc):Jz X [c] tc:=⟨Nat.le_refl _,h⟩
abbrev qM (xs:List Str):St:=xs.map λ_=>none
abbrev Lo (wi:TI)(te:TE)(sel:List Nat):TE:=λU H Q=>wi U H λJ H1=>LC te J (none::gf U sel) H1 Q
abbrev Il (wi:TI)(tg:TG)(tc:TT)(te:TE)(xs:List Str)(sel:List Nat):TE:=λU H Q=>wi U H λJ H1=>LCg tg tc te J (qM xs++gf U sel) H1 Q
variable {cl:List (Str×Addr)}{xs fr:List Str}{sel:List Nat}{fp:List Addr}
section
variable {X:Cx}
def Un.sameBut {fs ex:List Addr}{H H':Hp}{h h1 h2:Heap}{C:Addr}(u:Un fs ex H H' h h1)(hs:Heap.SameBut C h1 h2)(hC:h.objs.size<=C):Un fs ex H H' h h2:=by
 have ne:∀ b o,h.get? b=some o->b≠C:=λb o e=>Nat.ne_of_lt (Nat.lt_of_lt_of_le (Heap.lt_size e) hC)
 refine ⟨λb o e n hb hx=>(hs.2 b (ne b o e)).trans (u.keep b o e n hb hx),λb o e n hb hx=>?_,u.free,λb o e hx=>?_,u.tups,u.frzs,u.tbls⟩
 ·obtain ⟨sl,q⟩:=u.slot b o e n hb hx;exact ⟨sl,(hs.2 b (ne b o e)).trans q⟩
 ·obtain ⟨o',q⟩:=u.there b o e hx;exact ⟨o',(hs.2 b (ne b o e)).trans q⟩
def qy {Y:MD}{U:St}{H:Hp}{h':Heap}{tk:Nat}{m':ME}
  (S:bB X scope cl xs fr sel) (I:Inv X Y U H s) (f2:∀ b ∈ fp,iQ X Y H b) (fo:∀ b ∈ fp,b<s.heap.objs.size) (hns:h'.Ns s.heap.objs.size m') (keep:∀ b o,s.heap.get? b=some o->h'.get? b=some o):
  Inv (fR X scope cl (xs++fr) s H fp) (X.pn++Y) (qM xs++gf U sel) H { s with heap:=h',toks:=tk }:=by
 have stk:∀ b,b≠X.env.locals->b ∉ X.fs->b ∉ nO X.stack:=λb h1 h2 hb=>(mem_cons.mp (I.iS b hb)).elim h1 h2
 refine ⟨⟨I.ok.mod,S.kind,I.ok.glob,I.ok.blt,Nat.le_refl _,λy z c h1 h2=>I.ok.inj y z c (S.sub y c h1) (S.sub z c h2),λy hy=>S.has y hy,(λy c h=>nomatch h),I.ok.hd,I.ok.frames,.inl rfl,λb hb=>⟨Nat.ne_of_lt (fo b hb),λy c h=>(f2 b hb).2.2.2.2.1 y c (S.sub y c h)⟩,I.bs,
  Nat.le_trans I.ok.bsz I.sz,λb o e hb=>?_,λb hb=>stk b (f2 b hb).2.1 (f2 b hb).2.2.1,I.stack,I.pA⟩,
  rfl,I.bare,Un.kept keep,⟨m',hns,λi y v e1 e2 e3=>?_⟩,λy c h=>?_,I.hok.fresh (Nat.le_refl _),λy c h=>I.freeC y c (S.sub y c h),λp hp=>?_,I.hok.kept keep,?_⟩
 ·rcases (f2 b hb).2.2.2.1 with z|z
  ·exact I.ok.noex b o e z
  ·exact absurd (Nat.lt_of_lt_of_le (Nat.lt_of_lt_of_le (Heap.lt_size e) I.ok.bsz) z) (Nat.lt_irrefl _)
 ·have hln:(qM xs).length=xs.length:=length_map ..
  by_cases hlt:i<xs.length
  ·rw[List.getElem?_append_left (by rw[hln];exact hlt)] at e2;unfold qM at e2;rw[getElem?_map,getElem?_eq_getElem hlt] at e2;cases e2
  ·obtain ⟨j,rfl⟩:∃ j,i=xs.length+j:=⟨i-xs.length,by omega⟩;have e1':fr[j]? =some y:=by
    have e1:(xs++fr)[xs.length+j]? =some y:=e1;rw[List.getElem?_append_right nofun,show xs.length+j-xs.length=j by omega] at e1;exact e1
   obtain ⟨i,hi,hN,k1,k2⟩:=S.out j y e1';have e2':(gf U sel)[j]? =some (some v):=by
    rw[List.getElem?_append_right (by rw[hln];omega),hln,show xs.length+j-xs.length=j by omega] at e2;exact e2
   have e4:U[i]? =some (some v):=by
    unfold gf at e2';rw[getElem?_map,hi] at e2';have e5:U.getD i none=some v:=Option.some.inj e2';rw[List.getD_eq_getElem?_getD] at e5;cases e6:U[i]? with
    |none=>rw[e6] at e5;cases e5
    |some z=>rw[e6] at e5;exact congrArg some e5
   obtain ⟨m,hn,hl⟩:=I.loc;obtain ⟨u,r,l⟩:=hl i y v hN e4 (.inr (.inl k1));refine ⟨u,r,.inr ⟨.inl k2,?_⟩⟩;rcases l with ⟨hk,_⟩|⟨_,c,hc,o,ho,hd⟩
   ·have hk':X.env.scope.names.lookup y=some .local:=hk;rw[k1] at hk';cases hk'
   ·obtain ⟨c',hc'⟩:=S.has y (.inl k2);have:=(S.sub y c' hc').symm.trans hc;cases this;exact ⟨c,hc',o,keep c o ho,hd⟩
 ·obtain ⟨v,o,ho,hd⟩:=I.cell y c (S.sub y c h);exact ⟨v,o,keep c o ho,hd⟩
 ·obtain ⟨e,n,ne,nf,d⟩:=I.pin p (by simpa [fR] using hp);exact ⟨keep p.1 p.2 e,n,Nat.ne_of_lt (Heap.lt_size e),stk p.1 ne nf,d⟩
 ·show (qM xs++gf U sel).length=(xs++fr).length;unfold gf qM;simp[S.len]
def mW {elt iter tgt:Expr}{wi:TI}{tg:TG}{tc:TT}(hc:X.calm=true)(S:bB X scope cl xs fr sel)(hi:PI X tgt iter wi)
  (hg:∀ (s:Shared) (H:Hp) (fp:List Addr),PG (fR X scope cl (xs++fr) s H fp) tgt tg) (ht:∀ (s:Shared) (H:Hp) (fp:List Addr),Jz (fR X scope cl (xs++fr) s H fp) ifs tc)
  (he:∀ (s:Shared) (H:Hp) (fp:List Addr),PE (fR X scope cl (xs++fr) s H fp) elt te) (hs:∀ x,foldedSetIterable iter X.env x=pure x):PE X (.ListComp elt [⟨tgt,iter,ifs,0⟩] scope pos) (Il wi tg tc te xs sel):=by
 intro Y s U H Q I h;rw[eval_ListComp];refine wpAny_comprehension_free (use:=none) rfl hs S.clos S.kind S.names ?_;refine az (hi Y s U H _ I h) λv s1 h1=>az h1 λitv s2 h2=>?_
 obtain ⟨it,fp,tn,J,H2,e,I2,T,pU,f2,h2⟩:=h2;subst e;refine wpAny_newObj_type ?_;have hD:H2 s2.heap.objs.size=none:=I2.hok.fresh (Nat.le_refl _);have I3:Inv X Y U (upd H2 s2.heap.objs.size (.lst [])) { s2 with heap:=s2.heap.push { cls:=.type "list",dict:=none,data:=.seq ([]:List Value).toArray } }:=
  I2.laid (t':=s2.toks) (λb u e=>Heap.get?_push_of_some _ e) (Nat.le_refl _) ⟨Nat.zero_le _,[],0,.nil,Heap.get?_push_size _ rfl⟩
 have fo2:∀ b ∈ fp,b<s2.heap.objs.size:=λb hb=>by
  obtain ⟨o,ho,_⟩:=T.obj _ _ pU b hb;exact Heap.lt_size ho
 have f3:∀ b ∈ fp,iQ X Y (upd H2 s2.heap.objs.size (.lst [])) b:=λb hb=>⟨by rw[ai (Nat.ne_of_lt (fo2 b hb))];exact (f2 b hb).1,(f2 b hb).2⟩
 have st3:tn 0 (s2.heap.push { cls:=.type "list",dict:=none,data:=.seq ([]:List Value).toArray }):=T.keep _ _ _ pU λb hb o e=>Heap.get?_push_of_some _ e
 have fo3:∀ b ∈ fp,b<(s2.heap.push { cls:=.type "list",dict:=none,data:=.seq ([]:List Value).toArray }).objs.size:=λb hb=>by
  rw[Heap.size_push];exact Nat.lt_succ_of_lt (fo2 b hb)
 obtain ⟨W,⟨m0,w0⟩,turn⟩:=h2 _ hD;generalize s2.heap.objs.size=D at*;generalize hs3:({ s2 with heap:=s2.heap.push { cls:=.type "list",dict:=none,data:=.seq ([]:List Value).toArray } }:Shared)=s3 at*;have st3':tn 0 s3.heap:=by rw[<-hs3];exact st3
 have fo3':∀ b ∈ fp,b<s3.heap.objs.size:=by rw[<-hs3];exact fo3
 refine wpAny_newFunctionEnv S.nocell (by intro y hy;simp at hy) (λh' hns hsb=>?_) S.kind;have keep:∀ b o,s3.heap.get? b=some o->h'.get? b=some o:=λb o e=>(hsb.2 b (Nat.ne_of_lt (Heap.lt_size e))).trans (Heap.get?_push_of_some _ e)
 have I4:=qy (tk:=s3.toks+([]:List (Str×Value)).length) S I3 f3 fo3' hns keep;have st4:tn 0 h':=T.keep _ _ _ st3' λb hb o e=>keep b o e
 have stat:∀ {H':Hp},(∀ b ∈ fp,H' b=none)->∀ b ∈ fp,iQ (fR X scope cl (xs++fr) s3 (upd H2 D (.lst [])) fp) (X.pn++Y) H' b:=λ{H'} hn b hb=>
  ⟨hn b hb,Nat.ne_of_lt (fo3' b hb),λz=>(mem_cons.mp (I3.iS b z)).elim (f3 b hb).2.1 (f3 b hb).2.2.1,.inl hb,λy c hy=>(f3 b hb).2.2.2.2.1 y c (S.sub y c hy),λp hp=>(f3 b hb).2.2.2.2.2 p (by simpa [fR] using hp)⟩
 have loop:codeAny (model X.prog X.w) X.A (.compLoop (.ListComp elt [⟨tgt,iter,ifs,0⟩] scope pos) 0 (.ref it) (.ref D) (compEnvC scope cl s3.heap.objs.size X.env))
   (compPost (model X.prog X.w) X.A X.xe none (EP X Y U Q) (.ref D) s3.heap.objs.size) { s3 with heap:=h',toks:=s3.toks+([]:List (Str×Value)).length }:=by
  refine codeAny_loop rfl (λn s'=>∃ i σ' H',Inv (fR X scope cl (xs++fr) s3 (upd H2 D (.lst [])) fp) (X.pn++Y) σ' H' s'/\tn i s'.heap/\(∀ b ∈ fp,H' b=none)/\W i n σ' H') (λn s5 hI=>?_) m0 ⟨0,_,_,I4,st4,λb hb=>(f3 b hb).1,w0⟩;show wpAny _ _ ((compTurn (.ListComp elt [⟨tgt,iter,ifs,0⟩] scope pos) 0 (.ref it) (.ref D) (compEnvC scope cl s3.heap.objs.size X.env)).onRaise (λx=>do noteFrame x (compEnvC scope cl s3.heap.objs.size X.env);theTreesLotGoes x)) _ _ s5;refine wpAny_noted ?_;refine uS (ht s3 (upd H2 D (.lst [])) fp).1 ?_;obtain ⟨i,σ5,H5,I5,st5,fr5,w5⟩:=hI;rcases turn i n σ5 H5 w5 with ⟨stop,q⟩|⟨go,Nn,hN,step⟩
  ·refine az (T.done (fR X scope cl (xs++fr) s3 (upd H2 D (.lst [])) fp) rfl rfl rfl hc i _ s5 σ5 H5 _ I5 (stat fr5) st5 stop) λr s6 ⟨hr,I6⟩=>?_
   subst hr;obtain ⟨m,hn,_⟩:=I6.loc;refine ⟨m,hn,λh'' hs''=>⟨.ref D,H5,I3.ym (ch:=fp) I6.os (I6.base.sameBut hs'' (Nat.le_refl _)) (λb ob e=>?_) I6.bare λb hb=>⟨(f3 b hb).2.2.2.1,(f3 b hb).2.1,(f3 b hb).2.2.2.2.1,(f3 b hb).2.2.2.2.2⟩,rfl,q⟩⟩;refine (I6.hok b ob e).jR (λc w' hc' q'=>(hs''.2 c ?_).trans q') (λ_ q'=>q') λ_ _ q'=>q'
   have fC:H5 s3.heap.objs.size=none:=I6.free;intro z;rcases hc' with z2|z2
   ·rw[z2] at z;rw[z,fC] at e;cases e
   ·rw[z,fC] at z2;cases z2
  ·have fin:∀ {σ8:St}{H10:Hp}{s10:Shared},Inv (fR X scope cl (xs++fr) s3 (upd H2 D (.lst [])) fp) (X.pn++Y) σ8 H10 s10/\tn (i+1) s10.heap/\(∀ b ∈ fp,H10 b=none)->Nn σ8 H10->∃ m',m'<n/\∃ i σ' H',Inv (fR X scope cl (xs++fr) s3 (upd H2 D (.lst [])) fp) (X.pn++Y) σ' H' s10/\tn i s10.heap/\(∀ b ∈ fp,H' b=none)/\W i m' σ' H':=λ⟨I,t,f⟩ nn=>by
    obtain ⟨m',hm,w10⟩:=hN _ _ nn;exact ⟨m',hm,i+1,_,_,I,t,f,w10⟩
   refine az (T.item (fR X scope cl (xs++fr) s3 (upd H2 D (.lst [])) fp) rfl rfl rfl hc i _ s5 σ5 H5 _ I5 (stat fr5) st5 go) λr s6 ⟨u,hr,h6⟩=>?_
   subst hr;refine az h6 λ_ s7 ⟨xv,H7,I7,r7,y7,st7,fr7⟩=>?_
   have I7':=I7.pinned (stat fr7) (T.obj _ _ st7);refine DU (hg s3 _ fp _ s7 σ5 H7 xv u _ I7' r7 (step xv _ y7)) λ_ s8 ⟨σ8,H8,I8,q8⟩=>?_
   refine DU ((ht s3 _ fp).2 _ s8 σ8 H8 _ I8 q8) λok s9 ⟨H9,I9,q9⟩=>?_
   have back:∀ {H10:Hp}{s10:Shared},Inv (fR X scope cl (xs++fr) s3 (upd H2 D (.lst [])) fp) _ σ8 H10 s10->Inv (fR X scope cl (xs++fr) s3 (upd H2 D (.lst [])) fp) (X.pn++Y) σ8 H10 s10/\tn (i+1) s10.heap/\(∀ b ∈ fp,H10 b=none):=λ{H10 s10} I10=>⟨I10.e9,T.keep _ _ _ st7 λb hb o e=>(I10.pin (b,o) (mem_append_right _ (mem_append_right _ (bU hb e)))).1,λb hb=>by
    obtain ⟨o,e,d⟩:=T.obj _ _ st7 b hb;exact (I10.pin (b,o) (mem_append_right _ (mem_append_right _ (bU hb e)))).2.1⟩
   refine ⟨λek=>?_,λek=>wpAny_pure ⟨rfl,fin (back I9) (q9.2 ek)⟩⟩;refine DU (he s3 _ fp _ s9 _ _ _ I9 (q9.1 ek)) λuv s10 ⟨vv,H10,I10,r10,zs,hz,hzl,n10⟩=>?_
   refine DU (iV (X:=fR X scope cl (xs++fr) s3 (upd H2 D (.lst [])) fp) _ s10 _ H10 (.ref D) [vv] (.ref D) [uv] (λ_ H'=>H'=upd H10 D (.lst (zs++[vv]))) I10 rfl (.cons r10 .nil) ⟨D,zs,vv,rfl,rfl,hz,hzl,rfl⟩) λ_ s11 ⟨_,H11,I11,_,e11⟩=>?_
   subst e11;exact wpAny_pure ⟨rfl,fin (back I11) n10⟩
 exact codeAny_compStart_list loop (T.self _ 0 _ _ _ st4 loop)
def tX {x:Str}{px:Pos}{H:Hp}(S:bB X scope cl [x] fr sel):PG (fR X scope cl ([x]++fr) s H fp) (.Name x px) (gA 0):=gJ S.nd rfl (.inl (lookup_relabel_local (S.own x (mem_cons_self ..)))) (.inr (lookup_relabel_local (S.own x (mem_cons_self ..))))
abbrev L8 (wi:TI):TI:=λU H R=>∃ R0:It->Hp->Prop,wi U H R0/\∀ J H,R0 J H->R J H
def PI.up {tg iter:Expr}{wi:TI}(h:PI X tg iter wi):PI X tg iter (L8 wi):=λY s U H R I ⟨R0,q,m⟩=>
 az (h Y s U H R0 I q) λv s1 h1=>wpAny_mono h1 (λitv s2 ⟨it,fp,tn,J,H',e,I,T,t0,f,r⟩=>⟨it,fp,tn,J,H',e,I,T,t0,f,m _ _ r⟩) λ_ _ e=>e
def zE {elt iter:Expr}{x:Str}{px:Pos}{wi:TI}(hc:X.calm=true)(S:bB X scope cl [x] fr sel)(hi:PI X (.Name x px) iter wi)
  (he:∀ (s:Shared) (H:Hp) (fp:List Addr),PE (fR X scope cl (x::fr) s H fp) elt te) (hs:∀ x,foldedSetIterable iter X.env x=pure x):PE X (.ListComp elt [⟨.Name x px,iter,[],0⟩] scope pos) (Lo wi te sel):=λY s U H Q I h=>
 mW (tg:=gA 0) hc S hi.up (λs H fp=>tX S) (λ_ _ _=>j0) he hs Y s U H Q I ⟨_,h,λ_ _ q=>q.g⟩
end
section
variable {U:St}{H:Hp}{Q:VK}{te tl:TE}{ta:TA}{sel:List Nat}{σ₀ rest:St}{K:W.Frag}
end
def dN {env:Env}:∀ {names:List (Str×NameKind)}{y:Str}{k':NameKind},(names.map λ(n,k)=>if (k ==NameKind.free&&env.scope.kind ==.function&&env.kindOf n ==some .cell) then (n,NameKind.cell) else (n,k)).lookup y=some k'->∃ k,(y,k) ∈ names/\(k'=k\/(k=.free/\k'=.cell))
 | [],_,_,h=>by simp at h
 |(n,k)::r,y,k',h=>by
  rw[map_cons,lookup_cons] at h
  by_cases hc:(k ==NameKind.free&&env.scope.kind ==.function&&env.kindOf n ==some .cell)=true
  ·simp only[hc,if_true] at h
   by_cases e:y=n
   ·subst e;simp at h;simp at hc;exact ⟨k,mem_cons_self,.inr ⟨hc.1.1,h.symm⟩⟩
   ·rw[show (y ==n)=false from beq_eq_false_iff_ne.mpr e] at h;obtain ⟨k2,m,q⟩:=dN (env:=env) h;exact ⟨k2,mem_cons_of_mem _ m,q⟩
  ·rw[Bool.not_eq_true] at hc;simp only[hc,Bool.false_eq_true,if_false] at h
   by_cases e:y=n
   ·subst e;simp at h;exact ⟨k,mem_cons_self,.inl h.symm⟩
   ·simp only[show (y ==n)=false from beq_eq_false_iff_ne.mpr e] at h;obtain ⟨k2,m,q⟩:=dN (env:=env) h;exact ⟨k2,mem_cons_of_mem _ m,q⟩
section
variable {K:W.Frag}
end
section
variable {K:W.Frag}{H:Hp}
end
section
variable {U:St}{H:Hp}{Q:VK}
end
abbrev notStar:Expr->Bool
 | .Starred ..=>false
 |_=>true
variable {es:List Expr}
def ag {e:Expr}{env:Env}(h:notStar e=true):starEach (e::es) env=(false,eval e env)::starEach es env:=by
 cases e<;>first|rfl|cases h
def jP {e:Expr}{t:TA}(ha:PE X e te)(hr:PA X es t)(h:notStar e=true:=by rfl):PA X (e::es) (DQ te t):=A8 ha hr (ag h)
section
variable {X:Cx}{Y:MD}{U:St}{H:Hp}{s:Shared}{h':Heap}
def Inv.qV {t':Nat}{ch:List Addr}{a:Addr}{o:HO}(I:Inv X Y U H s)(k:∀ b u,b ∉ ch->s.heap.get? b=some u->h'.get? b=some u) (hf:∀ b ∈ ch,iQ X Y H b)
  (hp:s.heap.objs.size<=a) (new:aA X.prog X.w (upd H a o) h' a o):Inv X Y U (upd H a o) { s with heap:=h',toks:=t' }:=by
 have hn:H a=none:=I.hok.fresh hp;have nch:∀ b u,H b=some u->b ∉ ch:=λb u e z=>by rw[(hf b z).1] at e;cases e
 refine I.step (g':=s.gens) (d':=s.drawn) (ch:=ch) (λb hb=>?_) (λb o _ _ hc e _=>k b o hc e) (λb o _ _ hc e _=>⟨o.slots,k b o hc e⟩) (λb o hc e n=>?_)
  (λb o hc e=>⟨o,k b o hc e⟩) (λb xs e=>?_) (λb ob u e=>?_) (λb ps e=>?_) (λm hm=>?_) (λb u e=>?_) I.bare
 ·obtain ⟨_,f1,_,f3,f4,f5⟩:=hf b hb;exact ⟨f3,f1,f4,f5⟩
 ·rw[ai (Nat.ne_of_lt (Nat.lt_of_lt_of_le (Heap.lt_size e) hp))];exact n
 ·rw[ai (aP e hn)];exact e
 ·rw[ai (aP e hn)];exact e
 ·exact ⟨#[],by rw[ai (aP e hn),e];simp⟩
 ·obtain ⟨o,es,ep,ho,r⟩:=hm;exact ⟨o,es,ep,k _ o (λz=>(hf _ z).2.1 rfl) ho,r⟩
 ·by_cases hb:b=a
  ·subst hb;rw[av] at e;cases e;exact new
  ·rw[ai hb] at e;refine (I.hok b u e).jR (λc v hc q=>k c v ?_ q) (λc q=>by rw[ai (aP q hn)];exact q) λc xs q=>by rw[ai (aP q hn)];exact q
   rcases hc with rfl|hc
   ·exact nch _ _ e
   ·exact nch _ _ hc
end
abbrev HQ (l:Addr):It:=
 ⟨λi H=>∃ xs x,H l=some (.lst xs)/\xs[i]? =some x,λi H x H'=>∃ T y,H T=none/\x=.ref T/\H'=upd H T (.tup [.int i,y])/\∀ xs,H l=some (.lst xs)->xs[i]? =some y,λi H=>∃ xs,H l=some (.lst xs)/\xs.length<=i⟩
variable {elts:List Expr}
def vU {P:Program}{w:World}{K:W.Frag}{k:Nat}(l e it:Addr)(hei:e≠it):
  Turn P w K (.Tuple elts k pos) (HQ l) [e,it] e (λi h=>(∃ old,IsEnum h e it ((i:Nat):Int) old)/\h.IsListIter it l i) where
 mem:=by simp
 obj:=λi h st b hb=>by
  obtain ⟨⟨old,he⟩,hit⟩:=st;rcases mem_cons.mp hb with rfl|hb
  ·exact ⟨_,he,λv z=>by
    have z':Data.fields _=Data.cell v:=z;cases z'⟩
  ·have e':b=it:=by simpa using hb
   subst e';obtain ⟨o,e,c,d⟩:=hit;exact ⟨o,e,λv z=>by rw[d] at z;cases z⟩
 keep:=λi h h' st k=>by
  obtain ⟨⟨old,he⟩,hit⟩:=st;exact ⟨⟨old,k e (by simp) _ he⟩,hit.at λo q=>k it (by simp) o q⟩
 item:=by
  intro X hP hw hK hc i Y s U H E I hf st hg;subst hP hw hK;obtain ⟨xs,x,hq,hx⟩:=hg;obtain ⟨⟨old,he⟩,hit⟩:=st;obtain ⟨its,rv,p,hz⟩:=I.list (aS.of hq);obtain ⟨u,hu,ru⟩:=rv.get hx;have heN:H e=none:=(hf e (by simp)).1;have hes:e≠s.heap.objs.size:=Nat.ne_of_lt (Heap.lt_size he);obtain ⟨oi,hoi,_⟩:=id hit;have his:it≠s.heap.objs.size:=Nat.ne_of_lt (Heap.lt_size hoi);refine wpAny_pyNext_enum_item he hit p.isList (x:=u) (by simpa using hu) hei λh1 heo hit1 ht1 hz1 hk1=>?_
  have I1:Inv X Y U (upd H s.heap.objs.size (.tup [.int i,x])) { s with heap:=h1,toks:=s.toks+1 }:=
   I.qV (ch:=[e,it]) (λb o hb q=>hk1 b o (λz=>hb (by simp[z])) (λz=>hb (by simp[z])) q) hf (Nat.le_refl _)
    ⟨fits (Nat.le_of_ble_eq_true rfl),[.int i s.toks,u],.cons ⟨_,rfl⟩ (.cons ru .nil),⟨_,ht1,rfl,_,rfl⟩⟩
  refine ⟨_,rfl,wpAny_letOwnedTupleGo_enum heo λh2 he2 hs2=>?_⟩;obtain ⟨f0,f1,f2,f3,f4,f5⟩:=hf e (by simp);have I2:=I1.turned (h':=h2) (t':=s.toks+1) (it:=e) (λb o hb q=>(hs2.2 b hb).trans q) (by rw[ai hes];exact heN) f1 f3 f4 f5;refine ⟨.ref s.heap.objs.size,_,I2,rfl,⟨_,x,I.hok.fresh (Nat.le_refl _),rfl,rfl,λys hy=>?_⟩,⟨⟨_,by simpa using he2⟩,hit1.at λo q=>(hs2.2 it hei.symm).trans q⟩,λb hb=>?_⟩
  ·rw[hq] at hy;cases hy;exact hx
  ·have hb':b≠s.heap.objs.size:=by
    rcases mem_cons.mp hb with rfl|hb
    ·exact hes
    ·have e':b=it:=by simpa using hb
     subst e';exact his
   rw[ai hb'];exact (hf b hb).1
 done:=by
  intro X hP hw hK hc i Y s U H E I hf st hg;subst hP hw hK;obtain ⟨xs,hq,hx⟩:=hg;obtain ⟨⟨old,he⟩,hit⟩:=st;obtain ⟨its,rv,p,hz⟩:=I.list (aS.of hq);obtain ⟨f0,f1,f2,f3,f4,f5⟩:=hf it (by simp);have hl:=rv.length;exact wpAny_pyNext_enum_end (I.ok.hd hc) he hit p.isList (by simp;omega) λh' eb=>⟨rfl,I.turned (t':=s.toks) (λb o hb q=>eb b o hb q) f0 f1 f3 f4 f5⟩
 self:=λ_ _ _ _ _ st h=>by
  obtain ⟨⟨old,he⟩,hit⟩:=st;exact wpAny_pyIter_enum he h
def pJ:bootBuiltins "enumerate"=some (.type "enumerate"):=by decide+kernel
abbrev HB (ta:TA):TI:=λU H R=>ta U H λvs H1=>∃ l,vs=[.ref l]/\(∃ xs,H1 l=some (.lst xs))/\R (HQ l) H1
def Dc {k:Nat}{a:Expr}{ta:TA}{p pos':Pos}(hg:Gl X "enumerate") (hm:X.mg "enumerate"=none) (ha:PA X [a] ta) (hs:starEach [a] X.env=[(false,eval a X.env)]:=by rfl):
  PI X (.Tuple elts k pos') (.Call (.Name "enumerate" p) [a] [] pos) (HB ta):=by
 intro Y s U H R I h;refine Call_ (dc I hg hm pJ (PyProof.Rows.callWith_type1 (az (ha pos Y s U H _ I h) λus s1 ⟨vs,H1,I1,r1,q1⟩=>?_) hs rfl));obtain ⟨l,e,⟨xs,hl⟩,q⟩:=q1;subst e;cases r1 with
 |cons r rr=>
  cases rr;cases r;obtain ⟨z,its,n,r,hlen,e⟩:=I1.qK hl;refine call_enumerate_1 e λh' he hit hsz hk=>?_
  refine wpAny_pyIter_enum he ?_;refine ⟨s1.heap.objs.size+1,[s1.heap.objs.size+1,s1.heap.objs.size],_,_,H1,rfl,I1.kept (t':=s1.toks) hk,vU l _ _ (Nat.succ_ne_self _),⟨⟨_,he⟩,hit⟩,λb hb=>?_,q⟩;have hb':s1.heap.objs.size<=b:=by
   rcases mem_cons.mp hb with rfl|hb
   ·exact Nat.le_succ _
   ·have e':b=s1.heap.objs.size:=by simpa using hb
    exact Nat.le_of_eq e'.symm
  exact I1.xN hb' (I1.hok.fresh hb')
section
variable {g:TG}{tb:TS}{D:Ends}{U:St}{H:Hp}{ta:TA}
end
section
variable {X:Cx}
abbrev Bl:V->List V->Hp->VK->Prop:=λx vs H Q=>∃ l xs i y,x=.ref l/\vs=[.int i,y]/\H l=some (.lst xs)/\0<=i/\i<=xs.length/\xs.length<sizeLine/\Q .non (upd H l (.lst (xs.take i.toNat++y::xs.drop i.toNat)))
def Vals.take':∀ {xs:List V}{us:List Value}(n:Nat),Vals xs us->Vals (xs.take n) (us.take n)
 |_,_,0,_=>by simpa using Paired.nil
 |_,_,n+1,.nil=>.nil
 |_,_,n+1,.cons r t=>.cons r (Vals.take' n t)
def Vals.drop':∀ {xs:List V}{us:List Value}(n:Nat),Vals xs us->Vals (xs.drop n) (us.drop n)
 |_,_,0,r=>r
 |_,_,n+1,.nil=>.nil
 |_,_,n+1,.cons r t=>Vals.drop' n t
def vN:JZ X "list.insert" Bl:=by
 intro Y s U H x vs v us Q I rx rv h;obtain ⟨l,xs,i,y,rfl,rfl,hH,h0,h1,hz,q⟩:=h;cases rx;obtain ⟨u,u2,rfl,ru,ru2⟩:=vals2 rv;obtain ⟨t,rfl⟩:=ru;obtain ⟨z,its,n,r,hl,e⟩:=I.qK hH;have hk:i.toNat<=its.length:=by omega
 have hn:=gg;have hfit:¬ (!Builtin.List.listFitsIndex i)=true:=by
  rw[fitsIndex_both (k:=i) nofun nofun]
  decide
 have hsz:its.toArray.size<=sizeLine:=by rw[size_toArray];omega
 have hmt:=AutoSeq1.list_insert_list_int_val_1 l its.toArray n i t u2 hfit hsz;refine call_meets F.slot_list_insert ⟨_,e,rfl⟩ F.entry_list_insert (F.args_list_insert_3 _ _ _) hmt ⟨e,?_⟩;refine ⟨.non,_,I.GR (its':=its.take i.toNat++u2::its.drop i.toNat) hH e ?_ ?_ ?_,rfl,q⟩
 ·have ek:(if i<0 then (i+(its.toArray.size:Int)).toNat else min i.toNat its.toArray.size)=i.toNat:=by
   rw[if_neg nofun,size_toArray];exact Nat.min_eq_left hk
  show ((its.toArray.extract 0 (if i<0 then (i+(its.toArray.size:Int)).toNat else min i.toNat its.toArray.size)).push u2++its.toArray.extract (if i<0 then (i+(its.toArray.size:Int)).toNat else min i.toNat its.toArray.size))=_;rw[ek];apply Array.ext';simp;exact take_of_length_le (by rw[length_drop];omega)
 ·exact (Vals.take' i.toNat r).append (.cons ru2 (Vals.drop' i.toNat r))
 ·rw[length_append,length_cons,length_take,length_drop]
  omega
end
section
variable {K:W.Frag}{r:V->List V->Hp->VK->Prop}{to:TE}{t:TA}{U:St}{H:Hp}{Q:VK}
end
section
variable {H H1 H2:Hp}{p h c:Addr}{o:HO}{m:Int}
end
section
variable {H H':Hp}{xs ys:List V}{f:Nat->Int×Int}
end
section
variable {X:Cx}{a b c d:Expr}{ta tb tc td:TE}{pos:Pos}
abbrev De (r r' r2:R2)(ta tb tc td:TE):TE:=λU H Q=>ta U H λx H1=>tb U H1 λy H2=>r x y H2 λz H3=>rV z H3 λk H3=>
 (if k=true then tc U H3 λw' H4=>r' y w' H4 λz' H5=>rV z' H5 λk' H5=>(if k'=true then td U H5 λw2 H6=>r2 w' w2 H6 Q else Q (.bl false) H5) else Q (.bl false) H3)
def wR {op op' op2:CmpOp}{r r' r2:R2}(ho:cR X (compareOp op) r)(ho':cR X (compareOp op') r')(ho2:cR X (compareOp op2) r2)(ha:PE X a ta)(hb:PE X b tb)(hc:PE X c tc)(hd:PE X d td)
  (hm:lastMarks [op,op',op2] [b,c,d]=false:=by with_unfolding_all rfl):PE X (.Compare a [op,op',op2] [b,c,d] pos) (De r r' r2 ta tb tc td):=by
 intro Y s U H Q I h;refine Compare_chain (az (ha Y s U H _ I h) λv s1 ⟨x,H1,I1,r1,q1⟩=>chain_link (az (hb Y s1 U H1 _ I1 q1) λu s2 ⟨y,H2,I2,r2',q2⟩=>
  az (ho Y s2 U H2 x y v u _ I2 r1 r2' q2) λd s3 ⟨z,H3,I3,r3,k,e,q3⟩=>?_)) hm
 subst e;cases r3;refine wpAny_truthy_bool ?_;cases k with
 |false=>exact ite_ff ⟨.bl false,H3,I3,rfl,q3⟩
 |true=>
  refine ite_tt (chain_link (az (hc Y s3 U H3 _ I3 q3) λw' s4 ⟨z',H4,I4,r4,q4⟩=>az (ho' Y s4 U H4 y z' u w' _ I4 r2' r4 q4) λd2 s5 ⟨z2,H5,I5,r5,k2,e2,q5⟩=>?_));subst e2;cases r5;refine wpAny_truthy_bool ?_;cases k2 with
  |false=>exact ite_ff ⟨.bl false,H5,I5,rfl,q5⟩
  |true=>exact ite_tt (chain_last (az (hd Y s5 U H5 _ I5 q5) λw2 s6 ⟨z3,H6,I6,r6,q6⟩=>ho2 Y s6 U H6 z' z3 w' w2 Q I6 r4 r6 q6))
end
section
variable {K:W.Frag}{U:St}{H:Hp}{Q:VK}{ta tb tc td tv:TE}{t:TA}{f m:Str}{D:Ends}{C:Addr}{sp:Sp}{dvs:List V}{E:XK}
end
section
variable {g:TG}{tb:TS}{D:Ends}{U:St}{H:Hp}{ta:TA}
end
section
variable {C:Addr}{H H':Hp}{S D h c:Addr}{rs:List Rec}{r:Rec}
end
section
variable {X:Cx}
end
end L2
namespace L2
end L2
namespace L2
open PySem PySem.Spec PyProof.Rows
section
variable {C:Addr}{H HF:Hp}{S D h c:Addr}{rs:List Rec}{r':Rec}
end
section
variable {X:Cx}
end
structure J9 (K:W.Frag) (C:Addr):Prop where
 ha:W.findIn K (.ref C) "__class__"=some (some (.builtin "object.__class__"))
 hn:W.specialIn K (.builtin "object.__class__") "__get__"=some (some (.builtin "getset_descriptor.__get__"))
 htk:W.takesIn K (.builtin "object.__class__")=some true
 hm:W.mroIn K C (.type "object")=some true
end L2
namespace L2
open PySem PySem.Spec PySem.W PyProof.Rows
abbrev aQ (tp:Bool)(h:Heap)(j b:Addr)(k:Nat):Prop:=match tp with
 |true=>h.IsTupleIter j b k
 |false=>h.IsListIter j b k
abbrev bh (tp:Bool)(h:Heap)(b:Addr)(xs:Array Value):Prop:=match tp with
 |true=>h.IsTuple b xs
 |false=>h.IsList b xs
variable {tp:Bool}{k:Nat}
def aQ.to {h h':Heap}{j b:Addr}(g:aQ tp h j b k)(e:∀ o,h.get? j=some o->h'.get? j=some o):aQ tp h' j b k:=by
 cases tp
 ·obtain ⟨o,e1,r⟩:=(show h.IsListIter j b k from g);exact ⟨o,e o e1,r⟩
 ·obtain ⟨o,e1,r⟩:=(show h.IsTupleIter j b k from g);exact ⟨o,e o e1,r⟩
def bh.to {h h':Heap}{b:Addr}{xs:Array Value}(g:bh tp h b xs)(e:∀ o,h.get? b=some o->h'.get? b=some o):bh tp h' b xs:=by
 cases tp
 ·obtain ⟨o,e1,r⟩:=(show h.IsList b xs from g);exact ⟨o,e o e1,r⟩
 ·obtain ⟨o,e1,r⟩:=(show h.IsTuple b xs from g);exact ⟨o,e o e1,r⟩
def aQ.lt {tp:Bool}{h:Heap}{j b:Addr}{k:Nat}(g:aQ tp h j b k):j<h.objs.size:=by
 cases tp
 ·obtain ⟨o,e1,r⟩:=(show h.IsListIter j b k from g);exact Heap.lt_size e1
 ·obtain ⟨o,e1,r⟩:=(show h.IsTupleIter j b k from g);exact Heap.lt_size e1
def bh.lt {tp:Bool}{h:Heap}{b:Addr}{xs:Array Value}(g:bh tp h b xs):b<h.objs.size:=by
 cases tp
 ·obtain ⟨o,e1,r⟩:=(show h.IsList b xs from g);exact Heap.lt_size e1
 ·obtain ⟨o,e1,r⟩:=(show h.IsTuple b xs from g);exact Heap.lt_size e1
variable {Q:MC}{c:Addr}{T:Int}{fb:Bool}{oT:Obj}{elts:List Expr}{pos:Pos}
section
variable {prog:Program}{w:World}{A:Around}{E:MC}{s:Shared}
def EL {j b:Addr}{xs:Array Value}{x:Value}(g:s.heap.IsTupleIter j b k)(t:s.heap.IsTuple b xs)(hx:xs[k]? =some x)
  (q:∀ h',h'.IsTupleIter j b (k+1)->Heap.SameBut j s.heap h'->Q x { s with heap:=h' }):wpAny (model prog w) A (Builtin.SmallTypes.nextOf (.ref j)) Q E s:=by
 obtain ⟨o1,e1,c1,d1⟩:=id g;obtain ⟨o2,e2,_,n2,d2⟩:=t;unfold Builtin.SmallTypes.nextOf;refine wpAny_bind (wpAny_callSpecial?_slot (name:=Str.ofString "__next__") g.typeIs F.slot_tuple_iterator_next (wpAny_call_entry F.slot_tuple_iterator_next g.typeIs F.entry_tuple_iterator_next ?_ (F.args_tuple_iterator_next_1 _)));show wpAny _ _ (field (.ref j) 0 >>= _) _ _ s;refine wpAny_bind (wpAny_field e1 d1 (x:=.ref b) rfl ?_);show wpAny _ _ (if (Value.ref b ==Value.none)=true then _ else _) _ _ s;rw[if_neg (show ¬ ((Value.ref b ==Value.none)=true) from Bool.false_ne_true)];show wpAny _ _ (field (.ref j) 1 >>= _) _ _ s;refine wpAny_bind (wpAny_field e1 d1 (x:=.int k 0) rfl ?_);show wpAny _ _ (seqItems? (.ref b) >>= _) _ _ s;refine wpAny_bind (wpAny_seqItems e2 d2 ?_);simp only[Int.toNat_natCast,hx];refine wpAny_bind (wpAny_setField e1 d1 (by simp) (wpAny_pure ⟨x,rfl,wpAny_pure (q _ ?_ (Heap.SameBut.update ..))⟩));refine ⟨_,Heap.get?_update_self _ e1 (Obj.isFreed_of_fields (Obj.data_mapFields d1 _)),(Obj.cls_mapFields ..).trans c1,?_⟩;rw[Obj.data_mapFields d1];simp[rawInt]
def CF {j b:Addr}{xs:Array Value}(hh:A.handled=none)(g:s.heap.IsTupleIter j b k)(t:s.heap.IsTuple b xs)(hx:xs[k]? =none)
  (q:∀ h' e,Heap.ExtBut j s.heap h'->(∃ o,h'.get? e=some o/\o.cls=.type "StopIteration")->E (.ref e) { s with heap:=h' }):wpAny (model prog w) A (Builtin.SmallTypes.nextOf (.ref j)) Q E s:=by
 obtain ⟨o1,e1,c1,d1⟩:=id g;obtain ⟨o2,e2,_,n2,d2⟩:=t;unfold Builtin.SmallTypes.nextOf;refine wpAny_bind (wpAny_callSpecial?_slot (name:=Str.ofString "__next__") g.typeIs F.slot_tuple_iterator_next (wpAny_call_entry F.slot_tuple_iterator_next g.typeIs F.entry_tuple_iterator_next ?_ (F.args_tuple_iterator_next_1 _)));show wpAny _ _ (field (.ref j) 0 >>= _) _ _ s;refine wpAny_bind (wpAny_field e1 d1 (x:=.ref b) rfl ?_);show wpAny _ _ (if (Value.ref b ==Value.none)=true then _ else _) _ _ s;rw[if_neg (show ¬ ((Value.ref b ==Value.none)=true) from Bool.false_ne_true)];show wpAny _ _ (field (.ref j) 1 >>= _) _ _ s;refine wpAny_bind (wpAny_field e1 d1 (x:=.int k 0) rfl ?_);show wpAny _ _ (seqItems? (.ref b) >>= _) _ _ s;refine wpAny_bind (wpAny_seqItems e2 d2 ?_);simp only[Int.toNat_natCast,hx];refine wpAny_bind (wpAny_rule (wpAny_bind (wpAny_setField e1 d1 (by simp) ?_)));show wpAny _ _ (newExc (.type "StopIteration") [] >>= _) _ _ _;refine wpAny_bind ?_;simp only[newExc,newTuple];refine wpAny_bind (wpAny_newObj_type ?_ (by size_fits));refine wpAny_bind (m:=firstArgMember _ _) (wpAny_of_eq (a:=Value.none) (by first|rfl|(simp only[firstArgMember];rfl)) ?_);refine wpAny_newObj_type ?_ (by size_fits);simp only[raiseNew];refine wpAny_bind (wpAny_handled ?_);first|rw[show A.in1.handled=none from hh]|rw[hh]
 refine wpAny_bind (wpAny_pure (wpAny_throw ?_));exact q _ _ (((Heap.SameBut.update ..).extBut.push _).push _) ⟨_,Heap.get?_push_size _ rfl,rfl⟩
def fw {j b:Addr}{xs:Array Value}{x:Value}(g:aQ tp s.heap j b k)(t:bh tp s.heap b xs)(hx:xs[k]? =some x)
  (q:∀ h',aQ tp h' j b (k+1)->Heap.SameBut j s.heap h'->Q x { s with heap:=h' }):wpAny (model prog w) A (Builtin.SmallTypes.nextOf (.ref j)) Q E s:=by
 cases tp
 ·exact wpAny_nextOf_list_item g t hx q
 ·exact EL g t hx q
def oq {j b:Addr}{xs:Array Value}(hh:A.handled=none)(g:aQ tp s.heap j b k)(t:bh tp s.heap b xs)(hx:xs[k]? =none)
  (q:∀ h' e,Heap.ExtBut j s.heap h'->(∃ o,h'.get? e=some o/\o.cls=.type "StopIteration")->E (.ref e) { s with heap:=h' }):wpAny (model prog w) A (Builtin.SmallTypes.nextOf (.ref j)) Q E s:=by
 cases tp
 ·exact wpAny_nextOf_list_end hh g t hx q
 ·exact CF hh g t hx q
@[reducible]def bq (h:Heap) (z TI TO:Addr) (f0 f1:Value):Prop:=h.get? z=some { cls:=.type "zip",dict:=none,data:=.fields #[f0,f1,.bool false,.ref TI,.ref TO],slots:=#[] }
variable {z TI TO i1 i2 l1 l2:Addr}{k1 k2:Nat}{tp1 tp2:Bool}{xs ys:Array Value}{x y a b f1:Value}
def Cs (D:ZipApart z TI TO i1 i2 l1 l2)(hz:bq s.heap z TI TO .none f1)(hI:IsPair s.heap TI (.ref i1) (.ref i2))(hO:IsPair s.heap TO a b)
  (g1:aQ tp1 s.heap i1 l1 k1) (g2:aQ tp2 s.heap i2 l2 k2) (t1:bh tp1 s.heap l1 xs) (t2:bh tp2 s.heap l2 ys) (hx:xs[k1]? =some x) (hy:ys[k2]? =some y)
  (q:∀ h',bq h' z TI TO (rawInt s.heap.objs.size) (.bool false)->IsPair h' TO x y->aQ tp1 h' i1 l1 (k1+1)->aQ tp2 h' i2 l2 (k2+1)->IsPair h' s.heap.objs.size x y->h'.objs.size=s.heap.objs.size+1->
   (∀ c o,c≠z->c≠TO->c≠i1->c≠i2->s.heap.get? c=some o->h'.get? c=some o)->Q (.ref s.heap.objs.size) { s with heap:=h' }):
  wpAny (model prog w) A (Builtin.«zip.__next__» ⟨[.ref z],[]⟩) (λfin s'=>∃ v,fin=.done (.ret v)/\Q v s') E s:=by
 show wpAny _ _ (field (.ref z) 2 >>= _) _ _ _;refine wpAny_bind (wpAny_field (x:=.bool false) hz rfl rfl ?_);show wpAny _ _ (field (.ref z) 3 >>= _) _ _ _;refine wpAny_bind (wpAny_field (x:=.ref TI) hz rfl rfl ?_);refine wpAny_bind (wpAny_seqItems hI rfl ?_);show wpAny _ _ (Builtin.SmallTypes.ownedTupleIsFree (.ref z) >>= _) _ _ _;refine wpAny_bind ?_;unfold Builtin.SmallTypes.ownedTupleIsFree;refine wpAny_bind (wpAny_field (x:=.none) hz rfl rfl (wpAny_pure ?_));simp only[if_true];refine wpAny_bind (wpAny_rule ?_);refine wpAny_bind (wpAny_field (x:=.ref TO) hz rfl rfl ?_);refine wpAny_bind (wpAny_setField_rec hz (by simp) λp1 z1 b1=>?_)
 replace z1:bq p1 z TI TO .ellipsis f1:=z1
 refine wpAny_bind ?_;simp only[List.zipIdx_cons,List.zipIdx_nil,forIn_cons,forIn_nil];refine wpAny_bind (wpAny_bind (wpAny_onRaise ?_));show wpAny _ _ (Builtin.SmallTypes.nextOf (.ref i1) >>= _) _ _ _;refine wpAny_bind (fw (g1.to λo e=>b1.extBut _ o D.i1z e) (t1.to λo e=>b1.extBut _ o D.l1z e) hx λp2 g1b b2=>wpAny_pure ?_);have hO2:IsPair p2 TO a b:=b2.extBut _ _ D.TOi1 (b1.extBut _ _ D.TOz hO);refine wpAny_bind (wpAny_seqItems hO2 rfl ?_);refine wpAny_bind (wpAny_updateSeq_pair hO2 λp3 hO3 b3=>?_)
 replace hO3:IsPair p3 TO x b:=hO3
 refine wpAny_bind (wpAny_letGo (wpAny_pure ?_));refine wpAny_bind (wpAny_bind (wpAny_onRaise ?_));show wpAny _ _ (Builtin.SmallTypes.nextOf (.ref i2) >>= _) _ _ _;refine wpAny_bind (fw (g2.to λo e=>b3.extBut _ o D.TOi2.symm (b2.extBut _ o D.i12.symm (b1.extBut _ o D.i2z e))) (t2.to λo e=>b3.extBut _ o D.l2TO (b2.extBut _ o D.l2i1 (b1.extBut _ o D.l2z e))) hy λp4 g2b b4=>wpAny_pure ?_);have hO4:IsPair p4 TO x b:=b4.extBut _ _ D.TOi2 hO3;refine wpAny_bind (wpAny_seqItems hO4 rfl ?_);refine wpAny_bind (wpAny_updateSeq_pair hO4 λp5 hO5 b5=>?_)
 replace hO5:IsPair p5 TO x y:=hO5
 refine wpAny_bind (wpAny_letGo (wpAny_pure (wpAny_pure ?_)));refine wpAny_bind (wpAny_seqItems hO5 rfl ?_);refine wpAny_bind (wpAny_newTuple ?_);have hsz:p5.objs.size=s.heap.objs.size:=by rw[b5.1,b4.1,b3.1,b2.1,b1.1]
 have z5:bq p5 z TI TO .ellipsis f1:=b5.extBut _ _ D.TOz.symm (b4.extBut _ _ D.i2z.symm (b3.extBut _ _ D.TOz.symm (b2.extBut _ _ D.i1z.symm z1)));have k5:∀ c o,c≠z->c≠TO->c≠i1->c≠i2->s.heap.get? c=some o->p5.get? c=some o:=λc o n1 n2 n3 n4 e=>b5.extBut _ _ n2 (b4.extBut _ _ n4 (b3.extBut _ _ n2 (b2.extBut _ _ n3 (b1.extBut _ _ n1 e))))
 have g15:aQ tp1 p5 i1 l1 (k1+1):=g1b.to λo e=>b5.extBut _ o D.TOi1.symm (b4.extBut _ o D.i12 (b3.extBut _ o D.TOi1.symm e))
 have g25:aQ tp2 p5 i2 l2 (k2+1):=g2b.to λo e=>b5.extBut _ o D.TOi2.symm e
 have zlt:z<p5.objs.size:=Heap.lt_size z5;show wpAny _ _ (Builtin.SmallTypes.ownedTupleHandOut (.ref z) (.ref p5.objs.size) >>= _) _ _ _;refine wpAny_bind ?_;unfold Builtin.SmallTypes.ownedTupleHandOut;have z6:bq (p5.push { cls:=.type "tuple",data:=.seq #[x,y] }) z TI TO .ellipsis f1:=Heap.get?_push_of_some _ z5;refine wpAny_bind (wpAny_setField_rec z6 (by simp) λp7 z7 b7=>?_)
 replace z7:bq p7 z TI TO (rawInt p5.objs.size) f1:=z7
 refine wpAny_setField_rec z7 (by simp) λp8 z8 b8=>?_
 replace z8:bq p8 z TI TO (rawInt p5.objs.size) (.bool false):=z8
 have up:∀ c o,c≠z->p5.get? c=some o->p8.get? c=some o:=λc o n1 e=>b8.extBut _ _ n1 (b7.extBut _ _ n1 (Heap.get?_push_of_some _ e))
 have hT:IsPair p8 p5.objs.size x y:=b8.extBut _ _ (Nat.ne_of_gt zlt) (b7.extBut _ _ (Nat.ne_of_gt zlt) (Heap.get?_push_size _ rfl));have h8:p8.objs.size=p5.objs.size+1:=by rw[b8.1,b7.1,Heap.size_push]
 rw[hsz] at z8 hT h8;refine wpAny_pure ⟨_,rfl,?_⟩;show Q (.ref p5.objs.size) _;rw[hsz];exact q p8 z8 (up _ _ D.TOz hO5) (g15.to λo e=>up _ o D.i1z e) (g25.to λo e=>up _ o D.i2z e) hT h8 λc o n1 n2 n3 n4 e=>up c o n1 (k5 c o n1 n2 n3 n4 e)
def GB {Q:Fin->Shared->Prop}(hh:A.handled=none)(D:ZipApart z TI TO i1 i2 l1 l2)(hz:bq s.heap z TI TO .none f1)(hI:IsPair s.heap TI (.ref i1) (.ref i2))(hO:IsPair s.heap TO a b)
  (g1:aQ tp1 s.heap i1 l1 k1) (g2:aQ tp2 s.heap i2 l2 k2) (t1:bh tp1 s.heap l1 xs) (t2:bh tp2 s.heap l2 ys) (hx:xs[k1]? =none\/ys[k2]? =none)
  (q:∀ h' e,(∀ c o,c≠z->c≠TO->c≠i1->c≠i2->s.heap.get? c=some o->h'.get? c=some o)->(∃ o,h'.get? e=some o/\o.cls=.type "StopIteration")->E (.ref e) { s with heap:=h' }):
  wpAny (model prog w) A (Builtin.«zip.__next__» ⟨[.ref z],[]⟩) Q E s:=by
 show wpAny _ _ (field (.ref z) 2 >>= _) _ _ _;refine wpAny_bind (wpAny_field (x:=.bool false) hz rfl rfl ?_);show wpAny _ _ (field (.ref z) 3 >>= _) _ _ _;refine wpAny_bind (wpAny_field (x:=.ref TI) hz rfl rfl ?_);refine wpAny_bind (wpAny_seqItems hI rfl ?_);show wpAny _ _ (Builtin.SmallTypes.ownedTupleIsFree (.ref z) >>= _) _ _ _;refine wpAny_bind ?_;unfold Builtin.SmallTypes.ownedTupleIsFree;refine wpAny_bind (wpAny_field (x:=.none) hz rfl rfl (wpAny_pure ?_));simp only[if_true];refine wpAny_bind (wpAny_rule ?_);refine wpAny_bind (wpAny_field (x:=.ref TO) hz rfl rfl ?_);refine wpAny_bind (wpAny_setField_rec hz (by simp) λp1 z1 b1=>?_)
 replace z1:bq p1 z TI TO .ellipsis f1:=z1
 refine wpAny_bind ?_;simp only[List.zipIdx_cons,List.zipIdx_nil,forIn_cons,forIn_nil];refine wpAny_bind (wpAny_bind (wpAny_onRaise ?_));show wpAny _ _ (Builtin.SmallTypes.nextOf (.ref i1) >>= _) _ _ _;cases e1:xs[k1]? with
 |none=>
  refine wpAny_bind (oq hh (g1.to λo e=>b1.extBut _ o D.i1z e) (t1.to λo e=>b1.extBut _ o D.l1z e) e1 λp2 e b2 he=>?_);obtain ⟨oe,ho,hc⟩:=he;have z2:bq p2 z TI TO .ellipsis f1:=b2 _ _ D.i1z.symm z1;have ne:e≠z:=λn=>by subst n;rw[z2] at ho;cases ho;simp at hc
  exact wpAny_setField_rec z2 (by simp) λp3 _ b3=>q p3 e (λc o n1 _ n3 _ v=>b3.extBut _ _ n1 (b2 _ _ n3 (b1.extBut _ _ n1 v))) ⟨oe,b3.extBut _ _ ne ho,hc⟩
 |some x=>
  have e2:ys[k2]? =none:=by rcases hx with h|h;(rw[e1] at h;cases h);exact h
  refine wpAny_bind (fw (g1.to λo e=>b1.extBut _ o D.i1z e) (t1.to λo e=>b1.extBut _ o D.l1z e) e1 λp2 g1b b2=>wpAny_pure ?_);have hO2:IsPair p2 TO a b:=b2.extBut _ _ D.TOi1 (b1.extBut _ _ D.TOz hO);refine wpAny_bind (wpAny_seqItems hO2 rfl ?_);refine wpAny_bind (wpAny_updateSeq_pair hO2 λp3 hO3 b3=>?_);refine wpAny_bind (wpAny_letGo (wpAny_pure ?_));refine wpAny_bind (wpAny_bind (wpAny_onRaise ?_));show wpAny _ _ (Builtin.SmallTypes.nextOf (.ref i2) >>= _) _ _ _;refine wpAny_bind (oq hh (g2.to λo e=>b3.extBut _ o D.TOi2.symm (b2.extBut _ o D.i12.symm (b1.extBut _ o D.i2z e))) (t2.to λo e=>b3.extBut _ o D.l2TO (b2.extBut _ o D.l2i1 (b1.extBut _ o D.l2z e))) e2 λp4 e b4 he=>?_);obtain ⟨oe,ho,hc⟩:=he;have z4:bq p4 z TI TO .ellipsis f1:=b4 _ _ D.i2z.symm (b3.extBut _ _ D.TOz.symm (b2.extBut _ _ D.i1z.symm z1));have ne:e≠z:=λn=>by subst n;rw[z4] at ho;cases ho;simp at hc
  exact wpAny_setField_rec z4 (by simp) λp5 _ b5=>q p5 e (λc o n1 n2 n3 n4 v=>b5.extBut _ _ n1 (b4 _ _ n4 (b3.extBut _ _ n2 (b2.extBut _ _ n3 (b1.extBut _ _ n1 v))))) ⟨oe,b5.extBut _ _ ne ho,hc⟩
def qR {Q:Option Obj->Shared->Prop}(h:Q (s.heap.get? c) s):wpAny (model prog w) A (loadIfAlive c) Q E s:=λ_ _ _=>h
variable {t:Tok}
def qw {Q:Bool->Shared->Prop}(hz:bq s.heap z TI TO (.int T t) (.bool fb))(hT:s.heap.get? T.toNat=some oT)(q:∀ h',bq h' z TI TO (.int T t) (.bool true)->Heap.SameBut z s.heap h'->Q false { s with heap:=h' }):
  wpAny (model prog w) A (Builtin.SmallTypes.ownedTupleIsFree (.ref z)) Q E s:=by
 unfold Builtin.SmallTypes.ownedTupleIsFree;refine wpAny_bind (wpAny_field (x:=.int T t) hz rfl rfl ?_);refine wpAny_bind (qR ?_);rw[hT];refine wpAny_bind (wpAny_field (x:=.bool fb) hz rfl rfl ?_);cases fb
 ·refine wpAny_bind (wpAny_setField_rec hz (by simp) λp1 z1 b1=>wpAny_pure ?_);exact q p1 z1 b1
 ·exact wpAny_bind (wpAny_pure (wpAny_pure (q s.heap hz (Heap.SameBut.refl ..))))
def CG (D:ZipApart z TI TO i1 i2 l1 l2)(hz:bq s.heap z TI TO (.int T t) (.bool fb))(hT:s.heap.get? T.toNat=some oT)(hI:IsPair s.heap TI (.ref i1) (.ref i2))
  (g1:aQ tp1 s.heap i1 l1 k1) (g2:aQ tp2 s.heap i2 l2 k2) (t1:bh tp1 s.heap l1 xs) (t2:bh tp2 s.heap l2 ys) (hx:xs[k1]? =some x) (hy:ys[k2]? =some y)
  (q:∀ h',bq h' z TI TO (.int T t) (.bool true)->aQ tp1 h' i1 l1 (k1+1)->aQ tp2 h' i2 l2 (k2+1)->IsPair h' s.heap.objs.size x y->h'.objs.size=s.heap.objs.size+1->
   (∀ c o,c≠z->c≠i1->c≠i2->s.heap.get? c=some o->h'.get? c=some o)->Q (.ref s.heap.objs.size) { s with heap:=h' }):
  wpAny (model prog w) A (Builtin.«zip.__next__» ⟨[.ref z],[]⟩) (λfin s'=>∃ v,fin=.done (.ret v)/\Q v s') E s:=by
 show wpAny _ _ (field (.ref z) 2 >>= _) _ _ _;refine wpAny_bind (wpAny_field (x:=.bool false) hz rfl rfl ?_);show wpAny _ _ (field (.ref z) 3 >>= _) _ _ _;refine wpAny_bind (wpAny_field (x:=.ref TI) hz rfl rfl ?_);refine wpAny_bind (wpAny_seqItems hI rfl ?_);show wpAny _ _ (Builtin.SmallTypes.ownedTupleIsFree (.ref z) >>= _) _ _ _;refine wpAny_bind (qw hz hT λp1 z1 b1=>?_);simp only[Bool.false_eq_true,if_false];simp only[List.forIn_toArray,forIn_cons,forIn_nil];refine wpAny_bind (wpAny_bind (wpAny_bind (wpAny_holding ?_)));show wpAny _ _ (Builtin.SmallTypes.nextOf (.ref i1) >>= _) _ _ _;refine wpAny_bind (fw (g1.to λo e=>b1.extBut _ o D.i1z e) (t1.to λo e=>b1.extBut _ o D.l1z e) hx λp2 g1b b2=>wpAny_pure (wpAny_pure ?_));dsimp only;refine wpAny_bind (wpAny_bind (wpAny_holding ?_));show wpAny _ _ (Builtin.SmallTypes.nextOf (.ref i2) >>= _) _ _ _;refine wpAny_bind (fw (g2.to λo e=>b2.extBut _ o D.i12.symm (b1.extBut _ o D.i2z e)) (t2.to λo e=>b2.extBut _ o D.l2i1 (b1.extBut _ o D.l2z e)) hy λp3 g2b b3=>wpAny_pure (wpAny_pure (wpAny_pure ?_)));dsimp only;refine wpAny_bind (wpAny_newTuple ?_ (hsz:=fits (Nat.le_of_ble_eq_true rfl)));have hsz:p3.objs.size=s.heap.objs.size:=by rw[b3.1,b2.1,b1.1]
 refine wpAny_pure ⟨_,rfl,?_⟩;show Q (.ref p3.objs.size) _;have z3:bq p3 z TI TO (.int T t) (.bool true):=b3.extBut _ _ D.i2z.symm (b2.extBut _ _ D.i1z.symm z1);rw[hsz];refine q _ (Heap.get?_push_of_some _ z3) (g1b.to λo e=>Heap.get?_push_of_some _ (b3.extBut _ o D.i12 e)) (g2b.to λo e=>Heap.get?_push_of_some _ e) (by rw[<-hsz];exact Heap.get?_push_size _ rfl) (by rw[Heap.size_push,hsz]) λc o n1 n2 n3 e=>?_
 exact Heap.get?_push_of_some _ (b3.extBut _ _ n3 (b2.extBut _ _ n2 (b1.extBut _ _ n1 e)))
def xK {Q:Fin->Shared->Prop}(hh:A.handled=none)(D:ZipApart z TI TO i1 i2 l1 l2)(hz:bq s.heap z TI TO (.int T t) (.bool fb))(hT:s.heap.get? T.toNat=some oT)(hI:IsPair s.heap TI (.ref i1) (.ref i2))
  (g1:aQ tp1 s.heap i1 l1 k1) (g2:aQ tp2 s.heap i2 l2 k2) (t1:bh tp1 s.heap l1 xs) (t2:bh tp2 s.heap l2 ys) (hx:xs[k1]? =none\/ys[k2]? =none)
  (q:∀ h' e,(∀ c o,c≠z->c≠i1->c≠i2->s.heap.get? c=some o->h'.get? c=some o)->(∃ o,h'.get? e=some o/\o.cls=.type "StopIteration")->E (.ref e) { s with heap:=h' }):
  wpAny (model prog w) A (Builtin.«zip.__next__» ⟨[.ref z],[]⟩) Q E s:=by
 show wpAny _ _ (field (.ref z) 2 >>= _) _ _ _;refine wpAny_bind (wpAny_field (x:=.bool false) hz rfl rfl ?_);show wpAny _ _ (field (.ref z) 3 >>= _) _ _ _;refine wpAny_bind (wpAny_field (x:=.ref TI) hz rfl rfl ?_);refine wpAny_bind (wpAny_seqItems hI rfl ?_);show wpAny _ _ (Builtin.SmallTypes.ownedTupleIsFree (.ref z) >>= _) _ _ _;refine wpAny_bind (qw hz hT λp1 z1 b1=>?_);simp only[Bool.false_eq_true,if_false];simp only[List.forIn_toArray,forIn_cons,forIn_nil];refine wpAny_bind (wpAny_bind (wpAny_bind (wpAny_holding ?_)));show wpAny _ _ (Builtin.SmallTypes.nextOf (.ref i1) >>= _) _ _ _;cases e1:xs[k1]? with
 |none=>exact wpAny_bind (oq hh (g1.to λo e=>b1.extBut _ o D.i1z e) (t1.to λo e=>b1.extBut _ o D.l1z e) e1 λp2 e b2 he=>q p2 e (λc o n1 n2 n3 v=>b2 _ _ n2 (b1.extBut _ _ n1 v)) he)
 |some x=>
  have e2:ys[k2]? =none:=by rcases hx with h|h;(rw[e1] at h;cases h);exact h
  refine wpAny_bind (fw (g1.to λo e=>b1.extBut _ o D.i1z e) (t1.to λo e=>b1.extBut _ o D.l1z e) e1 λp2 g1b b2=>wpAny_pure (wpAny_pure ?_));dsimp only;refine wpAny_bind (wpAny_bind (wpAny_holding ?_));show wpAny _ _ (Builtin.SmallTypes.nextOf (.ref i2) >>= _) _ _ _;exact wpAny_bind (oq hh (g2.to λo e=>b2.extBut _ o D.i12.symm (b1.extBut _ o D.i2z e)) (t2.to λo e=>b2.extBut _ o D.l2i1 (b1.extBut _ o D.l2z e)) e2 λp4 e b4 he=>q p4 e (λc o n1 n2 n3 v=>b4 _ _ n3 (b2.extBut _ _ n2 (b1.extBut _ _ n1 v))) he)
def vk {Q:MA}(D:ZipApart z TI TO i1 i2 l1 l2)(hz:bq s.heap z TI TO .none f1)(hI:IsPair s.heap TI (.ref i1) (.ref i2))(hO:IsPair s.heap TO a b)
  (g1:aQ tp1 s.heap i1 l1 k1) (g2:aQ tp2 s.heap i2 l2 k2) (t1:bh tp1 s.heap l1 xs) (t2:bh tp2 s.heap l2 ys) (hx:xs[k1]? =some x) (hy:ys[k2]? =some y)
  (q:∀ h',bq h' z TI TO (rawInt s.heap.objs.size) (.bool false)->IsPair h' TO x y->aQ tp1 h' i1 l1 (k1+1)->aQ tp2 h' i2 l2 (k2+1)->IsPair h' s.heap.objs.size x y->h'.objs.size=s.heap.objs.size+1->
   (∀ c o,c≠z->c≠TO->c≠i1->c≠i2->s.heap.get? c=some o->h'.get? c=some o)->Q (some (.ref s.heap.objs.size)) { s with heap:=h' }):wpAny (model prog w) A (pyNext (.ref z)) Q E s:=by
 have hT:s.TypeIs (.ref z) "zip":=⟨_,hz,rfl⟩;unfold pyNext;exact wpAny_bind (wpAny_attempt (wpAny_callSpecial?_slot (name:=Str.ofString "__next__") hT F.slot_zip_next (wpAny_call_entry F.slot_zip_next hT F.entry_zip_next (Cs D hz hI hO g1 g2 t1 t2 hx hy λh' a1 a2 a3 a4 a5 a6 a7=>wpAny_pure (q h' a1 a2 a3 a4 a5 a6 a7)) (F.args_zip_next_1 _))))
def CD {Q:MA}(D:ZipApart z TI TO i1 i2 l1 l2)(hz:bq s.heap z TI TO (.int T t) (.bool fb))(hT:s.heap.get? T.toNat=some oT)(hI:IsPair s.heap TI (.ref i1) (.ref i2))
  (g1:aQ tp1 s.heap i1 l1 k1) (g2:aQ tp2 s.heap i2 l2 k2) (t1:bh tp1 s.heap l1 xs) (t2:bh tp2 s.heap l2 ys) (hx:xs[k1]? =some x) (hy:ys[k2]? =some y)
  (q:∀ h',bq h' z TI TO (.int T t) (.bool true)->aQ tp1 h' i1 l1 (k1+1)->aQ tp2 h' i2 l2 (k2+1)->IsPair h' s.heap.objs.size x y->h'.objs.size=s.heap.objs.size+1->
   (∀ c o,c≠z->c≠i1->c≠i2->s.heap.get? c=some o->h'.get? c=some o)->Q (some (.ref s.heap.objs.size)) { s with heap:=h' }):wpAny (model prog w) A (pyNext (.ref z)) Q E s:=by
 have hT':s.TypeIs (.ref z) "zip":=⟨_,hz,rfl⟩;unfold pyNext;exact wpAny_bind (wpAny_attempt (wpAny_callSpecial?_slot (name:=Str.ofString "__next__") hT' F.slot_zip_next (wpAny_call_entry F.slot_zip_next hT' F.entry_zip_next (CG D hz hT hI g1 g2 t1 t2 hx hy λh' a1 a2 a3 a4 a5 a6=>wpAny_pure (q h' a1 a2 a3 a4 a5 a6)) (F.args_zip_next_1 _))))
def x9 {Q:MA}(hh:A.handled=none)(D:ZipApart z TI TO i1 i2 l1 l2)(hz:bq s.heap z TI TO .none f1)(hI:IsPair s.heap TI (.ref i1) (.ref i2))(hO:IsPair s.heap TO a b)
  (g1:aQ tp1 s.heap i1 l1 k1) (g2:aQ tp2 s.heap i2 l2 k2) (t1:bh tp1 s.heap l1 xs) (t2:bh tp2 s.heap l2 ys) (hx:xs[k1]? =none\/ys[k2]? =none)
  (q:∀ h',(∀ c o,c≠z->c≠TO->c≠i1->c≠i2->s.heap.get? c=some o->h'.get? c=some o)->Q none { s with heap:=h' }):wpAny (model prog w) A (pyNext (.ref z)) Q E s:=by
 have hT:s.TypeIs (.ref z) "zip":=⟨_,hz,rfl⟩;unfold pyNext;refine wpAny_bind (wpAny_attempt (wpAny_callSpecial?_slot (name:=Str.ofString "__next__") hT F.slot_zip_next (wpAny_call_entry F.slot_zip_next hT F.entry_zip_next (GB hh D hz hI hO g1 g2 t1 t2 hx λh' e k ⟨o,ho,hc⟩=>?_) (F.args_zip_next_1 _))));exact wpAny_bind (wpAny_isInstance (T:="StopIteration") (b:=true) ⟨o,ho,hc⟩ isSubtype_stop (wpAny_pure (q _ k)))
def xI {Q:MA}(hh:A.handled=none)(D:ZipApart z TI TO i1 i2 l1 l2)(hz:bq s.heap z TI TO (.int T t) (.bool fb))(hT:s.heap.get? T.toNat=some oT)(hI:IsPair s.heap TI (.ref i1) (.ref i2))
  (g1:aQ tp1 s.heap i1 l1 k1) (g2:aQ tp2 s.heap i2 l2 k2) (t1:bh tp1 s.heap l1 xs) (t2:bh tp2 s.heap l2 ys) (hx:xs[k1]? =none\/ys[k2]? =none)
  (q:∀ h',(∀ c o,c≠z->c≠i1->c≠i2->s.heap.get? c=some o->h'.get? c=some o)->Q none { s with heap:=h' }):wpAny (model prog w) A (pyNext (.ref z)) Q E s:=by
 have hT':s.TypeIs (.ref z) "zip":=⟨_,hz,rfl⟩;unfold pyNext;refine wpAny_bind (wpAny_attempt (wpAny_callSpecial?_slot (name:=Str.ofString "__next__") hT' F.slot_zip_next (wpAny_call_entry F.slot_zip_next hT' F.entry_zip_next (xK hh D hz hT hI g1 g2 t1 t2 hx λh' e k ⟨o,ho,hc⟩=>?_) (F.args_zip_next_1 _))));exact wpAny_bind (wpAny_isInstance (T:="StopIteration") (b:=true) ⟨o,ho,hc⟩ isSubtype_stop (wpAny_pure (q _ k)))
abbrev kU (tp:Bool)(c:Addr):Obj:=match tp with
 |true=>{ cls:=.type "tuple_iterator",data:=.fields #[.ref c,.int 0 0] }
 |false=>{ cls:=.type "list_iterator",data:=.fields #[.ref c,.int 0 0] }
def pX {vs:Array Value}(t:bh tp s.heap c vs)(q:Q (.ref s.heap.objs.size) { s with heap:=s.heap.push (kU tp c) }):wpAny (model prog w) A (pyIter (.ref c)) Q E s:=by
 cases tp
 ·exact wpAny_pyIter_list t q
 ·exact wpAny_pyIter_tuple t q
noncomputable abbrev Ea (h:Heap)(tp1 tp2:Bool)(l1 l2:Addr):Heap:=((((h.push (kU tp1 l1)).push (kU tp2 l2)).push { cls:=.type "tuple",data:=.seq #[.ref h.objs.size,.ref (h.objs.size+1)] }).push { cls:=.type "tuple",data:=.seq #[.none,.none] }).push { cls:=.type "zip",data:=.fields #[.none,.bool false,.bool false,.ref (h.objs.size+2),.ref (h.objs.size+3)] }
def Cq (tp1 tp2:Bool)(l1 l2:Addr)(xs ys:Array Value):Meets (Builtin.«zip.__new__» ⟨[.type "zip",.ref l1,.ref l2],[]⟩)
  (λ_ R s=>bh tp1 s.heap l1 xs/\bh tp2 s.heap l2 ys/\R (.ok (.ret (.ref (s.heap.objs.size+4)))) { s with heap:=Ea s.heap tp1 tp2 l1 l2 }):=.of_wp λprog w A R s h=>by
 obtain ⟨hp,g,d,tk,os⟩:=s;obtain ⟨t1,t2,q⟩:=h;have hsub:=sub_zip;have t2':bh tp2 (hp.push (kU tp1 l1)) l2 ys:=t2.to λo e=>Heap.get?_push_of_some _ e
 wp_walk using pX (s:=⟨hp,g,d,tk,os⟩) t1,pX (s:=⟨hp.push (kU tp1 l1),g,d,tk,os⟩) t2'
 refine ⟨_,rfl,?_⟩;simp only[Heap.size_push,Nat.add_assoc] at q⊢;exact q
def pW (t1:bh tp1 s.heap l1 xs)(t2:bh tp2 s.heap l2 ys)
  (q:∀ h',bq h' (s.heap.objs.size+4) (s.heap.objs.size+2) (s.heap.objs.size+3) .none (.bool false)->IsPair h' (s.heap.objs.size+2) (.ref s.heap.objs.size) (.ref (s.heap.objs.size+1))->
   IsPair h' (s.heap.objs.size+3) .none .none->aQ tp1 h' s.heap.objs.size l1 0->aQ tp2 h' (s.heap.objs.size+1) l2 0->h'.objs.size=s.heap.objs.size+5->
   (∀ c o,s.heap.get? c=some o->h'.get? c=some o)->Q (.ref (s.heap.objs.size+4)) { s with heap:=h' }):
  wpAny (model prog w) A (call (.type "zip") [.ref l1,.ref l2]) Q E s:=by
 refine callType_new F.called_zip (by decide) (F.typeCall_zip_2 _ _) (F.newCall_zip_2 _ _) (λobj=>F.args_object_init_3 obj _ _) F.entry_zip_new (Cq tp1 tp2 l1 l2 xs ys) ⟨t1,t2,?_⟩;generalize hn:s.heap.objs.size=n at q⊢;have z0:(s.heap.push (kU tp1 l1)).objs.size=n+1:=by rw[Heap.size_push,hn]
 have z1:((s.heap.push (kU tp1 l1)).push (kU tp2 l2)).objs.size=n+2:=by rw[Heap.size_push,z0]
 have z2:(((s.heap.push (kU tp1 l1)).push (kU tp2 l2)).push { cls:=.type "tuple",data:=.seq #[.ref n,.ref (n+1)] }).objs.size=n+3:=by rw[Heap.size_push,z1]
 have z3:((((s.heap.push (kU tp1 l1)).push (kU tp2 l2)).push { cls:=.type "tuple",data:=.seq #[.ref n,.ref (n+1)] }).push { cls:=.type "tuple",data:=.seq #[.none,.none] }).objs.size=n+4:=by rw[Heap.size_push,z2]
 have hz:Ea s.heap tp1 tp2 l1 l2=((((s.heap.push (kU tp1 l1)).push (kU tp2 l2)).push { cls:=.type "tuple",data:=.seq #[.ref n,.ref (n+1)] }).push { cls:=.type "tuple",data:=.seq #[.none,.none] }).push { cls:=.type "zip",data:=.fields #[.none,.bool false,.bool false,.ref (n+2),.ref (n+3)] }:=by rw[<-hn]
 rw[hz];have e4:=Heap.get?_push_size ((((s.heap.push (kU tp1 l1)).push (kU tp2 l2)).push { cls:=.type "tuple",data:=.seq #[.ref n,.ref (n+1)] }).push { cls:=.type "tuple",data:=.seq #[.none,.none] }) (o:={ cls:=.type "zip",data:=.fields #[.none,.bool false,.bool false,.ref (n+2),.ref (n+3)] }) rfl;have e3:=Heap.get?_push_size (((s.heap.push (kU tp1 l1)).push (kU tp2 l2)).push { cls:=.type "tuple",data:=.seq #[.ref n,.ref (n+1)] }) (o:={ cls:=.type "tuple",data:=.seq #[.none,.none] }) rfl;have e2:=Heap.get?_push_size ((s.heap.push (kU tp1 l1)).push (kU tp2 l2)) (o:={ cls:=.type "tuple",data:=.seq #[.ref n,.ref (n+1)] }) rfl;have e1:aQ tp2 ((s.heap.push (kU tp1 l1)).push (kU tp2 l2)) (n+1) l2 0:=by
  rw[<-z0];cases tp2
  ·exact ⟨_,Heap.get?_push_size _ rfl,rfl,rfl⟩
  ·exact ⟨_,Heap.get?_push_size _ rfl,rfl,rfl⟩
 have e0:aQ tp1 (s.heap.push (kU tp1 l1)) n l1 0:=by
  rw[<-hn];cases tp1
  ·exact ⟨_,Heap.get?_push_size _ rfl,rfl,rfl⟩
  ·exact ⟨_,Heap.get?_push_size _ rfl,rfl,rfl⟩
 rw[z3] at e4;rw[z2] at e3;rw[z1] at e2;refine ⟨⟨_,e4,rfl⟩,q _ e4 (Heap.get?_push_of_some _ (Heap.get?_push_of_some _ e2)) (Heap.get?_push_of_some _ e3) (e0.to λo e=>Heap.get?_push_of_some _ (Heap.get?_push_of_some _ (Heap.get?_push_of_some _ (Heap.get?_push_of_some _ e)))) (e1.to λo e=>Heap.get?_push_of_some _ (Heap.get?_push_of_some _ (Heap.get?_push_of_some _ e))) (by rw[Heap.size_push,z3]) λc o e=>?_⟩;exact Heap.get?_push_of_some _ (Heap.get?_push_of_some _ (Heap.get?_push_of_some _ (Heap.get?_push_of_some _ (Heap.get?_push_of_some _ e))))
def xV {n:Addr}(a1:l1<n)(a2:l2<n):ZipApart (n+4) (n+2) (n+3) n (n+1) l1 l2:=by
 constructor<;>(intro e;have e':=(show @Eq Nat _ _ from e);have b1:=(show @LT.lt Nat _ l1 n from a1);have b2:=(show @LT.lt Nat _ l2 n from a2);omega)
def wD {m:Nat}{T:Addr}{Q:MB}(hz:bq s.heap z TI TO (rawInt T) f1)(q:∀ h',bq h' z TI TO .none f1->Heap.SameBut z s.heap h'->Q () { s with heap:=h' }):
  wpAny (model prog w) A (letOwnedTupleGo (.Tuple elts m pos) (.ref z) (.ref T)) Q E s:=by
 unfold letOwnedTupleGo;refine wpAny_bind (wpAny_load hz ?_);show wpAny _ _ (if (["enumerate","zip","dict_itemiterator","dict_reverseitemiterator","odict_iterator","itertools.zip_longest","itertools.pairwise"].contains "zip"&&(#[rawInt T,f1,.bool false,.ref TI,.ref TO]:Array Value)[0]? ==some (rawInt T))=true then _ else _) Q E s;rw[if_pos (by simp)];exact wpAny_bind (wpAny_rule (wpAny_setField_rec hz (by simp) λh' z' b'=>q h' z' b'))
def lJ {f0:Value}(hz:bq s.heap z TI TO f0 f1)(h:Q (.ref z) s):wpAny (model prog w) A (pyIter (.ref z)) Q E s:=by
 have hT:s.TypeIs (.ref z) "zip":=⟨_,hz,rfl⟩;refine wpAny_pyIter_slot hT F.slot_zip_iter (wpAny_call_entry F.slot_zip_iter hT F.entry_zip_iter ?_ (F.args_zip_iter_1 _));show wpAny _ _ (ret (.ref z)) _ _ s;exact wpAny_pure ⟨_,rfl,"zip",_,hT,F.slot_zip_next.lookup,h⟩
end
variable {X:Cx}{Y:MD}{U:St}{H:Hp}{s:Shared}
def Inv.B1 {h':Heap}{t':Nat}{ch:List Addr}(I:Inv X Y U H s)(k:∀ b u,b ∉ ch->s.heap.get? b=some u->h'.get? b=some u) (hf:∀ b ∈ ch,iQ X Y H b):Inv X Y U H { s with heap:=h',toks:=t' }:=by
 have nch:∀ b u,H b=some u->b ∉ ch:=λb u e z=>by rw[(hf b z).1] at e;cases e
 refine I.step (g':=s.gens) (d':=s.drawn) (ch:=ch) (λb hb=>?_) (λb o _ _ hc e _=>k b o hc e) (λb o _ _ hc e _=>⟨o.slots,k b o hc e⟩) (λ_ _ _ _ n=>n)
  (λb o hc e=>⟨o,k b o hc e⟩) (λ_ _ e=>e) (λ_ _ _ e=>e) (λb ps e=>⟨#[],by rw[e];simp⟩) (λm hm=>?_) (λb u e=>?_) I.bare
 ·obtain ⟨_,f1,_,f3,f4,f5⟩:=hf b hb;exact ⟨f3,f1,f4,f5⟩
 ·obtain ⟨o,es,ep,ho,r⟩:=hm;exact ⟨o,es,ep,k _ o (λz=>(hf _ z).2.1 rfl) ho,r⟩
 ·refine (I.hok b u e).jR (λc v hc q=>k c v ?_ q) (λ_ q=>q) λ_ _ q=>q
  rcases hc with rfl|hc
  ·exact nch _ _ e
  ·exact nch _ _ hc
abbrev Sq (K:W.Frag)(tp:Bool)(H:Hp)(c:Addr)(xs:List V):Prop:=match tp with
 |true=>aZ K H c xs
 |false=>aS K H c xs
def Inv.sq {xs:List V}(I:Inv X Y U H s)(h:Sq X.K tp H c xs):∃ its:List Value,Vals xs its/\bh tp s.heap c its.toArray:=by
 cases tp
 ·obtain ⟨its,r,p,_⟩:=I.list h;exact ⟨its,r,p.isList⟩
 ·obtain ⟨its,r,p,_⟩:=I.tuple h;exact ⟨its,r,p⟩
def Inv.zX {xs ys:List V}(I:Inv X Y U H s)(h:Sq X.K tp H c xs)(h':Sq X.K tp H c ys):xs=ys:=by
 cases tp
 ·exact I.kE h h'
 ·exact I.iN h h'
abbrev G4 (K:W.Frag)(tp1:Bool)(l1:Addr)(tp2:Bool)(l2:Addr):It:=
 ⟨λi H=>∃ xs ys x y,Sq K tp1 H l1 xs/\Sq K tp2 H l2 ys/\xs[i]? =some x/\ys[i]? =some y,
  λi H v H'=>∃ T x y,H T=none/\v=.ref T/\H'=upd H T (.tup [x,y])/\(∀ xs,Sq K tp1 H l1 xs->xs[i]? =some x)/\∀ ys,Sq K tp2 H l2 ys->ys[i]? =some y,
  λi H=>∃ xs ys,Sq K tp1 H l1 xs/\Sq K tp2 H l2 ys/\(xs.length<=i\/ys.length<=i)⟩
def xF {P:Program}{w:World}{K:W.Frag}{tp1 tp2:Bool}{z TI TO i1 i2 l1 l2:Addr}(D:ZipApart z TI TO i1 i2 l1 l2):
  Turn P w K (.Tuple elts k pos) (G4 K tp1 l1 tp2 l2) [z,TI,TO,i1,i2] z (λi h=>(∃ f1,bq h z TI TO .none f1)/\IsPair h TI (.ref i1) (.ref i2)/\(∃ a b,IsPair h TO a b)/\aQ tp1 h i1 l1 i/\aQ tp2 h i2 l2 i) where
 mem:=by simp
 obj:=λi h st b hb=>by
  obtain ⟨⟨f1,hz⟩,hI,⟨a,b',hO⟩,g1,g2⟩:=st;have it:∀ {tp:Bool}{j c:Addr}{k:Nat},aQ tp h j c k->∃ o,h.get? j=some o/\∀ v,o.data≠.cell v:=λ{tp j c k} g=>by
   cases tp
   ·obtain ⟨o,e,_,d⟩:=(show h.IsListIter j c k from g);exact ⟨o,e,λv z=>by rw[d] at z;cases z⟩
   ·obtain ⟨o,e,_,d⟩:=(show h.IsTupleIter j c k from g);exact ⟨o,e,λv z=>by rw[d] at z;cases z⟩
  simp only[mem_cons,not_mem_nil,or_false] at hb;rcases hb with rfl|rfl|rfl|rfl|rfl
  ·exact ⟨_,hz,λv e=>by cases (show Data.fields _=Data.cell v from e)⟩
  ·exact ⟨_,hI,λv e=>by cases (show Data.seq _ _=Data.cell v from e)⟩
  ·exact ⟨_,hO,λv e=>by cases (show Data.seq _ _=Data.cell v from e)⟩
  ·exact it g1
  ·exact it g2
 keep:=λi h h' st k=>by
  obtain ⟨⟨f1,hz⟩,hI,⟨a,b',hO⟩,g1,g2⟩:=st;exact ⟨⟨f1,k z (by simp) _ hz⟩,k TI (by simp) _ hI,⟨a,b',k TO (by simp) _ hO⟩,g1.to λo e=>k i1 (by simp) o e,g2.to λo e=>k i2 (by simp) o e⟩
 item:=by
  intro X hP hw hK hc i Y s U H E I hf st hg;subst hP hw hK;obtain ⟨xs,ys,x,y,hq1,hq2,hx,hy⟩:=hg;obtain ⟨⟨f1,hz⟩,hI,⟨a,b,hO⟩,g1,g2⟩:=st;obtain ⟨is1,r1,t1⟩:=I.sq hq1;obtain ⟨is2,r2,t2⟩:=I.sq hq2;obtain ⟨u,hu,ru⟩:=r1.get hx;obtain ⟨v,hv,rv⟩:=r2.get hy;have n0:∀ {c o},s.heap.get? c=some o->c≠s.heap.objs.size:=λe=>Nat.ne_of_lt (Heap.lt_size e)
  refine vk D hz hI hO g1 g2 t1 t2 (x:=u) (y:=v) (by simpa using hu) (by simpa using hv) λh1 z1 o1 j1 j2 hT hs1 k1=>?_
  have I1:Inv X Y U (upd H s.heap.objs.size (.tup [x,y])) { s with heap:=h1,toks:=s.toks }:=
   I.qV (ch:=[z,TI,TO,i1,i2]) (λb o hb q=>k1 b o (λe=>hb (by simp[e])) (λe=>hb (by simp[e])) (λe=>hb (by simp[e])) (λe=>hb (by simp[e])) q) hf (Nat.le_refl _)
    ⟨fits (Nat.le_of_ble_eq_true rfl),[u,v],.cons ru (.cons rv .nil),⟨_,hT,rfl,_,rfl⟩⟩
  refine ⟨_,rfl,wD z1 λh2 z2 b2=>?_⟩;obtain ⟨f0,f1',f2,f3,f4,f5⟩:=hf z (by simp);have I2:=I1.turned (h':=h2) (t':=s.toks) (it:=z) (λb o hb q=>(b2.2 b hb).trans q) (by rw[ai (n0 hz)];exact f0) f1' f3 f4 f5;refine ⟨.ref s.heap.objs.size,_,I2,rfl,⟨_,x,y,I.hok.fresh (Nat.le_refl _),rfl,rfl,λzs hz'=>?_,λzs hz'=>?_⟩,⟨⟨_,z2⟩,?_,⟨_,_,b2.extBut _ _ D.TOz o1⟩,j1.to λo e=>b2.extBut _ o D.i1z e,j2.to λo e=>b2.extBut _ o D.i2z e⟩,λb hb=>?_⟩
  ·rw[I.zX hz' hq1];exact hx
  ·rw[I.zX hz' hq2];exact hy
  ·exact b2.extBut _ _ D.TIz (k1 _ _ D.TIz D.TITO D.TIi1 D.TIi2 hI)
  ·have hb':b≠s.heap.objs.size:=by
    simp only[mem_cons,not_mem_nil,or_false] at hb;rcases hb with rfl|rfl|rfl|rfl|rfl
    ·exact n0 hz
    ·exact n0 hI
    ·exact n0 hO
    ·exact Nat.ne_of_lt g1.lt
    ·exact Nat.ne_of_lt g2.lt
   rw[ai hb'];exact (hf b hb).1
 done:=by
  intro X hP hw hK hc i Y s U H E I hf st hg;subst hP hw hK;obtain ⟨xs,ys,hq1,hq2,hx⟩:=hg;obtain ⟨⟨f1,hz⟩,hI,⟨a,b,hO⟩,g1,g2⟩:=st;obtain ⟨is1,r1,t1⟩:=I.sq hq1;obtain ⟨is2,r2,t2⟩:=I.sq hq2;have e1:=r1.length;have e2:=r2.length;refine x9 (I.ok.hd hc) D hz hI hO g1 g2 t1 t2 (by simp;omega) λh' k'=>⟨rfl,?_⟩
  exact I.B1 (t':=s.toks) (ch:=[z,TI,TO,i1,i2]) (λb o hb q=>k' b o (λe=>hb (by simp[e])) (λe=>hb (by simp[e])) (λe=>hb (by simp[e])) (λe=>hb (by simp[e])) q) hf
 self:=λ_ _ _ _ _ st h=>by
  obtain ⟨⟨f1,hz⟩,_⟩:=st;exact lJ hz h
def yF:bootBuiltins "zip"=some (.type "zip"):=by decide+kernel
abbrev Iq (K:W.Frag)(v u:V)(H:Hp)(R:It->Hp->Prop):Prop:=∃ tp1 l1 tp2 l2,v=.ref l1/\u=.ref l2/\(∃ xs,Sq K tp1 H l1 xs)/\(∃ ys,Sq K tp2 H l2 ys)/\R (G4 K tp1 l1 tp2 l2) H
abbrev KP (K:W.Frag)(ta:TA):TI:=λU H R=>ta U H λvs H1=>∃ v u,vs=[v,u]/\Iq K v u H1 R
variable {ta:TA}{p:Pos}
def GS {a b:Expr}{pos':Pos}(hg:Gl X "zip") (hm:X.mg "zip"=none) (ha:PA X [a,b] ta) (hs:starEach [a,b] X.env=(false,eval a X.env)::starEach [b] X.env:=by rfl) (hpl:(backTo pos (starEach [b] X.env)).any (·.1)=false:=by rfl):
  PI X (.Tuple elts k pos') (.Call (.Name "zip" p) [a,b] [] pos) (KP X.K ta):=by
 intro Y s U H R I h;refine Call_ (dc I hg hm yF (PyProof.Rows.callWith_type1 (az (ha pos Y s U H _ I h) λus s1 ⟨vs,H1,I1,r1,q1⟩=>?_) hs hpl));obtain ⟨v,u,e,tp1,l1,tp2,l2,e1,e2,⟨xs,q1⟩,⟨ys,q2⟩,q⟩:=q1;subst e e1 e2;cases r1 with
 |cons r rr=>
  cases rr with
  |cons r' rr'=>
   cases rr';cases r;cases r';obtain ⟨is1,s1',t1⟩:=I1.sq q1;obtain ⟨is2,s2',t2⟩:=I1.sq q2;refine pW t1 t2 λh' hz hI hO g1 g2 hsz hk=>?_
   refine lJ hz ?_;refine ⟨s1.heap.objs.size+4,[s1.heap.objs.size+4,s1.heap.objs.size+2,s1.heap.objs.size+3,s1.heap.objs.size,s1.heap.objs.size+1],_,_,H1,rfl,I1.kept (t':=s1.toks) hk,xF (xV t1.lt t2.lt),⟨⟨_,hz⟩,hI,⟨_,_,hO⟩,g1,g2⟩,λb hb=>?_,q⟩;have hb':s1.heap.objs.size<=b:=by
    simp only[mem_cons,not_mem_nil,or_false] at hb;rcases hb with rfl|rfl|rfl|rfl|rfl<;>first|exact Nat.le_refl _|exact Nat.le_add_right _ _
   exact I1.xN hb' (I1.hok.fresh hb')
def n6:entryFor table "zip.__getattribute__"=some Builtin.«object.__getattribute__»:=entryFor_alias (id':="object.__getattribute__") (by kernel_rfl) (by first|rfl|decide+kernel) (by decide+kernel) (by kernel_rfl)
def rl:typeLookup (.type "zip") "keys"=pure none:=by rw[typeLookup_type,builtinLookup_eq_fast];kernel_rfl
def wF:typeLookup (.type "zip") "__getattr__"=pure none:=by rw[typeLookup_type,builtinLookup_eq_fast];kernel_rfl
def w4 (a:Addr)(vs:Array Value)(u:Tok):Meets (Builtin.«object.__getattribute__» ⟨[.ref a,.str "keys" u],[]⟩) (λA R s=>s.heap.get? a=some { cls:=.type "zip",dict:=none,data:=.fields vs,slots:=#[] }/\raisesAttr (.ref a) "keys" A R s):=
 Meets.of_wp λprog w A R s ⟨hx,hs⟩=>by
  obtain ⟨hp,g,d,tk,os⟩:=s;have hT:(⟨hp,g,d,tk,os⟩:Shared).TypeIs (.ref a) "zip":=⟨_,hx,rfl⟩;have f4:=rl;unfold Builtin.«object.__getattribute__»
  repeat (any_goals first|assumption|wp_step)
  exact wpAny_raiseAttrError hs.1 hs.2 (attrMsg_fits (by decide+kernel) (by rw[sizeLine_eq];decide+kernel))
section
variable {prog:Program}{w:World}{A:Around}{E:MC}{s:Shared}{a:Addr}{vs:Array Value}
def xU {Q:MA}(hA:A.handled=none)(hx:s.heap.get? a=some { cls:=.type "zip",dict:=none,data:=.fields vs,slots:=#[] })
  (q:∀ h' t',(∀ c u,s.heap.get? c=some u->h'.get? c=some u)->Q none { s with heap:=h',toks:=t' }):wpAny (model prog w) A (getAttr? (.ref a) "keys") Q E s:=by
 obtain ⟨hp,g,d,tk,os⟩:=s;have hT:∀ t',(⟨hp,g,d,t',os⟩:Shared).TypeIs (.ref a) "zip":=λ_=>⟨_,hx,rfl⟩
 have f1:=sub_AttributeError;have f3:=PySem.F.slot_zip_getattribute.lookup;have f4:=PySem.F.slot_zip_getattribute.bind (.ref a);have f5:=wF;unfold getAttr? getAttrBy? getAttrBy
 repeat (any_goals first|assumption|((with_reducible show wpAny _ _ (call (Value.builtin "zip.__getattribute__") _ _) _ _ _);refine call_meets PySem.F.slot_zip_getattribute (hT _) n6 (PySem.F.args_zip_getattribute_2 _ _) (w4 a vs _) ⟨hx,hA,λh' tk' e he=>?_⟩)|wp_step)
 obtain ⟨t1,u1,e1⟩:=he.there;show wpAny _ _ (getattributeRaised _ _ _ _ _ _ _) _ _ _;unfold getattributeRaised
 repeat (any_goals first|assumption|wp_step)
 exact q _ _ he.keeps
end
structure Zs (h:Heap) (tp1 tp2:Bool) (z TI TO i1 i2 l1 l2:Addr) (i:Nat) (xs ys:Array Value):Prop where
 zo:(∃ f1,bq h z TI TO .none f1)\/∃ (T:Int) (fb:Bool) (o:Obj),bq h z TI TO (rawInt T) (.bool fb)/\h.get? T.toNat=some o/\T.toNat≠z/\T.toNat≠TO/\T.toNat≠i1/\T.toNat≠i2
 hI:IsPair h TI (.ref i1) (.ref i2)
 hO:∃ a b,IsPair h TO a b
 g1:aQ tp1 h i1 l1 i
 g2:aQ tp2 h i2 l2 i
 t1:bh tp1 h l1 xs
 t2:bh tp2 h l2 ys
variable {d:Addr}
section
variable {prog:Program}{w:World}{A:Around}{E:MC}{s:Shared}{tp1 tp2:Bool}{z TI TO i1 i2 l1 l2:Addr}{i:Nat}{xs ys:Array Value}{x y:Value}
def Zs.next {Q:MA}(D:ZipApart z TI TO i1 i2 l1 l2)(Z:Zs s.heap tp1 tp2 z TI TO i1 i2 l1 l2 i xs ys)(hx:xs[i]? =some x)(hy:ys[i]? =some y)
  (q:∀ h',Zs h' tp1 tp2 z TI TO i1 i2 l1 l2 (i+1) xs ys->IsPair h' s.heap.objs.size x y->h'.objs.size=s.heap.objs.size+1->(∀ c o,c≠z->c≠TO->c≠i1->c≠i2->s.heap.get? c=some o->h'.get? c=some o)->Q (some (.ref s.heap.objs.size)) { s with heap:=h' }):
  wpAny (model prog w) A (pyNext (.ref z)) Q E s:=by
 obtain ⟨zo,hI,⟨a,b,hO⟩,g1,g2,t1,t2⟩:=Z;have n0:∀ {c o},s.heap.get? c=some o->s.heap.objs.size≠c:=λe=>Nat.ne_of_gt (Heap.lt_size e)
 rcases zo with ⟨f1,hz⟩|⟨T,fb,o,hz,hT,n1,n2,n3,n4⟩
 ·refine vk D hz hI hO g1 g2 t1 t2 hx hy λh' z1 o1 j1 j2 p1 sz k=>?_
  refine q h' ⟨.inr ⟨s.heap.objs.size,false,_,z1,p1,n0 hz,n0 hO,Nat.ne_of_gt g1.lt,Nat.ne_of_gt g2.lt⟩,k _ _ D.TIz D.TITO D.TIi1 D.TIi2 hI,⟨_,_,o1⟩,j1,j2,t1.to λo e=>k _ o D.l1z D.l1TO D.l1i1 D.l1i2 e,t2.to λo e=>k _ o D.l2z D.l2TO D.l2i1 D.l2i2 e⟩ p1 sz k
 ·refine CD D hz hT hI g1 g2 t1 t2 hx hy λh' z1 j1 j2 p1 sz k=>?_
  exact q h' ⟨.inr ⟨T,true,o,z1,k _ _ n1 n3 n4 hT,n1,n2,n3,n4⟩,k _ _ D.TIz D.TIi1 D.TIi2 hI,⟨a,b,k _ _ D.TOz D.TOi1 D.TOi2 hO⟩,j1,j2,t1.to λo e=>k _ o D.l1z D.l1i1 D.l1i2 e,t2.to λo e=>k _ o D.l2z D.l2i1 D.l2i2 e⟩ p1 sz λc o m1 _ m3 m4 e=>k c o m1 m3 m4 e
def Zs.stop {Q:MA}(hh:A.handled=none)(D:ZipApart z TI TO i1 i2 l1 l2)(Z:Zs s.heap tp1 tp2 z TI TO i1 i2 l1 l2 i xs ys)(hx:xs[i]? =none\/ys[i]? =none)
  (q:∀ h',(∀ c o,c≠z->c≠TO->c≠i1->c≠i2->s.heap.get? c=some o->h'.get? c=some o)->Q none { s with heap:=h' }):wpAny (model prog w) A (pyNext (.ref z)) Q E s:=by
 obtain ⟨zo,hI,⟨a,b,hO⟩,g1,g2,t1,t2⟩:=Z;rcases zo with ⟨f1,hz⟩|⟨T,fb,o,hz,hT,_⟩
 ·exact x9 hh D hz hI hO g1 g2 t1 t2 hx q
 ·exact xI hh D hz hT hI g1 g2 t1 t2 hx λh' k=>q h' λc o m1 _ m3 m4 e=>k c o m1 m3 m4 e
def Zs.keep {h h':Heap}(Z:Zs h tp1 tp2 z TI TO i1 i2 l1 l2 i xs ys)(k:∀ c o,h.get? c=some o->c≠d->h'.get? c=some o) (n:d≠z/\d≠TI/\d≠TO/\d≠i1/\d≠i2/\d≠l1/\d≠l2) (hd:∃ o,h'.get? d=some o):Zs h' tp1 tp2 z TI TO i1 i2 l1 l2 i xs ys:=by
 obtain ⟨zo,hI,⟨a,b,hO⟩,g1,g2,t1,t2⟩:=Z;obtain ⟨m1,m2,m3,m4,m5,m6,m7⟩:=n;refine ⟨?_,k _ _ hI m2.symm,⟨a,b,k _ _ hO m3.symm⟩,g1.to λo e=>k _ o e m4.symm,g2.to λo e=>k _ o e m5.symm,t1.to λo e=>k _ o e m6.symm,t2.to λo e=>k _ o e m7.symm⟩;rcases zo with ⟨f1,hz⟩|⟨T,fb,o,hz,hT,r⟩
 ·exact .inl ⟨f1,k _ _ hz m1.symm⟩
 ·by_cases e:T.toNat=d
  ·obtain ⟨o',ho⟩:=hd;exact .inr ⟨T,fb,o',k _ _ hz m1.symm,by rw[e];exact ho,r⟩
  ·exact .inr ⟨T,fb,o,k _ _ hz m1.symm,k _ _ hT e,r⟩
end
def fB:plainId "dict.update.loop"=true:=by decide+kernel
def mC:entryFor table "dict.update.loop"=some Builtin.«dict.update.loop»:=entryFor_of_tree (by kernel_rfl)
variable {E:MC}
section
variable {prog:Program}{w:World}{A:Around}{tp1 tp2:Bool}{z TI TO i1 i2 l1 l2 d:Addr}{xs ys:Array Value}{Ky:Type} [DecidableEq Ky] {knd:KeyKind prog w Ky}
def Au (hh:A.handled=none)(D:ZipApart z TI TO i1 i2 l1 l2)(nd:d≠z/\d≠TI/\d≠TO/\d≠i1/\d≠i2/\d≠l1/\d≠l2)(ks:List Ky)(hk:∀ (j:Nat) x,xs[j]? =some x->∃ k,ks[j]? =some k/\knd.is k x=true) (hz:xs.size=ys.size):
  ∀ (m i:Nat),xs.size-i=m->i<=xs.size->∀ (s:Shared) (kvs:List (Ky×Value)) (R:Result->Shared->Prop),Zs s.heap tp1 tp2 z TI TO i1 i2 l1 l2 i xs ys->s.heap.DictOf knd d kvs->kvs.length+m<=sizeLine->
  (∀ h' t',h'.DictOf knd d (merged kvs ((ks.zip ys.toList).drop i))->(∀ c o,c≠z->c≠TO->c≠i1->c≠i2->c≠d->s.heap.get? c=some o->h'.get? c=some o)->R (.ok (.ret .none)) { s with heap:=h',toks:=t' })->
  wpAny (model prog w) A.in1 (Builtin.«dict.update.loop» ⟨[.ref d,.ref z,rawInt i,.none],[]⟩) (λfin s'=>match fin with| .done f=>R (.ok f) s'| .again c'=>c'.quiet=true/\codeAny (model prog w) A c' R s') (λe s'=>R (.error e) s') s:=by
 intro m
 induction m with
 |zero=>
  intro i hm hi s kvs R Z dd hl q;show wpAny _ _ (pyNext (.ref z) >>= _) _ _ _;refine wpAny_bind (Z.stop (show A.in1.handled=none from hh) D (.inl (by simp;omega)) λh' k=>?_);show wpAny _ _ (Builtin.Dict.addKeywords d [] >>= _) _ _ _;refine wpAny_bind (wpAny_pure (wpAny_pure ?_));have e:(ks.zip ys.toList).drop i=[]:=by
   rw[List.drop_eq_nil_iff,length_zip];simp
   omega
  rw[e] at q;refine q h' s.toks ?_ λc o n1 n2 n3 n4 _ e=>k c o n1 n2 n3 n4 e
  obtain ⟨o,es,ep,ho,r⟩:=dd;exact ⟨o,es,ep,k _ _ nd.1 nd.2.2.1 nd.2.2.2.1 nd.2.2.2.2.1 ho,r⟩
 |succ m ih=>
  intro i hm hi s kvs R Z dd hl q;have h1:i<xs.size:=by omega
  have h2:i<ys.size:=by omega
  have e1:xs[i]? =some xs[i]:=Array.getElem?_eq_getElem h1;have e2:ys[i]? =some ys[i]:=Array.getElem?_eq_getElem h2;obtain ⟨k,hk1,hk2⟩:=hk i _ e1;show wpAny _ _ (pyNext (.ref z) >>= _) _ _ _;refine wpAny_bind (Z.next D e1 e2 λh' Z' p sz fr=>?_);show wpAny _ _ (holding [_] _ >>= _) _ _ _;refine wpAny_bind (wpAny_holding ?_);refine wpAny_bind ?_;have hT:({ s with heap:=h' }:Shared).TypeIs (.ref s.heap.objs.size) "tuple":=⟨_,p,rfl⟩;refine wpAny_tryCatch ?_;unfold Builtin.Dict.pairItems;refine wpAny_bind (wpAny_typeOf hT ?_);rw[if_pos (by decide)];refine wpAny_bind (wpAny_seqItems p rfl (wpAny_pure ?_));show wpAny _ _ (holding [_,_] (dictSet d xs[i] ys[i])) _ _ _;refine wpAny_holding ?_;have dd':h'.DictOf knd d kvs:=by
   obtain ⟨o,es,ep,ho,r⟩:=dd;exact ⟨o,es,ep,fr _ _ nd.1 nd.2.2.1 nd.2.2.2.1 nd.2.2.2.2.1 ho,r⟩
  refine wpAny_dictSet_pairs (s:={ s with heap:=h' }) (hsz:=by omega) hk2 dd' λh2' d2 b2=>?_
  show wpAny _ _ (pure (Fin.again (.builtin "dict.update.loop" ⟨[.ref d,.ref z,rawInt ((i:Int)+1),.none],[]⟩))) _ _ _;refine wpAny_pure ⟨plainId_quiet fB _,codeAny_builtin mC ?_⟩;rw[Around.under_plainId fB _,show ((i:Int)+1)=((i+1:Nat):Int) by push_cast;rfl];have hd:∃ o,h2'.get? d=some o:=let ⟨o,_,_,ho,_⟩:=d2;⟨o,ho⟩;refine ih (i+1) nofun nofun { s with heap:=h2',toks:=s.toks+1 } (stored kvs k ys[i]) R (Z'.keep (λc o e n=>b2.extBut _ _ n e) nd hd) d2 ?_ λh3 t3 d3 f3=>?_
  ·have:(stored kvs k ys[i]).length<=kvs.length+1:=by
    unfold stored
    split
    ·rw[length_map];omega
    ·rw[length_append];simp
   omega
  ·have ed:(ks.zip ys.toList).drop i=(k,ys[i])::(ks.zip ys.toList).drop (i+1):=by
    have:(ks.zip ys.toList)[i]? =some (k,ys[i]):=by
     rw[List.getElem?_zip_eq_some];exact ⟨hk1,by simpa using h2⟩
    obtain ⟨hlt,he⟩:=List.getElem?_eq_some_iff.mp this;rw[List.drop_eq_getElem_cons hlt,he]
   refine q h3 t3 ?_ λc o n1 n2 n3 n4 n5 e=>f3 c o n1 n2 n3 n4 n5 (b2.extBut _ _ n5 (fr c o n1 n2 n3 n4 e))
   rw[ed];exact d3
def pL (hh:A.handled=none)(D:ZipApart z TI TO i1 i2 l1 l2)(ks:List Ky)(hk:∀ (j:Nat) x,xs[j]? =some x->∃ k,ks[j]? =some k/\knd.is k x=true) (hz:xs.size=ys.size) (hn:ks.Nodup) (hkl:ks.length=xs.size) (hsz:xs.size<=sizeLine)
  (Z:Zs s.heap tp1 tp2 z TI TO i1 i2 l1 l2 0 xs ys) (hzo:∃ f1,bq s.heap z TI TO .none f1)
  (q:∀ h' t',h'.DictOf knd s.heap.objs.size (ks.zip ys.toList)->(∀ c o,c≠z->c≠TO->c≠i1->c≠i2->s.heap.get? c=some o->h'.get? c=some o)->Q (.ref s.heap.objs.size) { s with heap:=h',toks:=t' }):
  wpAny (model prog w) A (call (.type "dict") [.ref z]) Q E s:=by
 refine callType_codes (Q₁:=λobj s1=>obj=.ref s.heap.objs.size/\s1={ s with heap:=s.heap.push { cls:=.type "dict",data:=.dict #[] } }) PySem.F.kt_called_dict (PySem.F.kt_typeCall_dict_1 _) PySem.F.entry_dict_init (kt_code_dict_new _ ⟨rfl,rfl⟩) ?_;rintro obj s1 ⟨rfl,rfl⟩;have dn:(s.heap.push { cls:=.type "dict",data:=.dict #[] }).DictOf knd s.heap.objs.size []:=Heap.DictOf.new s.heap;refine ⟨dn.typeIs,PySem.F.args_dict_init_2 _ _,?_⟩;unfold Builtin.«dict.__init__»;refine wpAny_bind ?_;unfold Builtin.Dict.selfAndRest;refine wpAny_bind (wpAny_notOrdered_dict dn.typeIs ?_);show wpAny _ _ (pure (s.heap.objs.size,[Value.ref z])) _ _ _;refine wpAny_pure ?_;show wpAny _ _ (Builtin.Dict.updateFrom "dict.__init__" s.heap.objs.size (.ref z) [] .none) _ _ _;unfold Builtin.Dict.updateFrom;obtain ⟨f1,hz0⟩:=hzo;have hz1:(s.heap.push { cls:=.type "dict",data:=.dict #[] }).get? z=some _:=Heap.get?_push_of_some _ hz0;have hT:({ s with heap:=s.heap.push { cls:=.type "dict",data:=.dict #[] } }:Shared).TypeIs (.ref z) "zip":=⟨_,hz1,rfl⟩;refine wpAny_bind (wpAny_typeOf hT ?_);rw[if_pos (by decide)];refine wpAny_bind (xU hh hz1 λh1 t1 k1=>?_);rw[if_pos (show (none:Option Value).isNone=true from rfl)];refine wpAny_bind (wpAny_rule ?_);refine wpAny_bind (lJ (s:={ s with heap:=h1,toks:=t1 }) (k1 _ _ hz1) ?_);have n0:∀ {c o},s.heap.get? c=some o->s.heap.objs.size≠c:=λe=>Nat.ne_of_gt (Heap.lt_size e)
 have nd:s.heap.objs.size≠z/\s.heap.objs.size≠TI/\s.heap.objs.size≠TO/\s.heap.objs.size≠i1/\s.heap.objs.size≠i2/\s.heap.objs.size≠l1/\s.heap.objs.size≠l2:=by
  obtain ⟨a,b,hO⟩:=Z.hO;exact ⟨n0 hz0,n0 Z.hI,n0 hO,Nat.ne_of_gt Z.g1.lt,Nat.ne_of_gt Z.g2.lt,Nat.ne_of_gt Z.t1.lt,Nat.ne_of_gt Z.t2.lt⟩
 have kk:∀ c o,s.heap.get? c=some o->h1.get? c=some o:=λc o e=>k1 _ _ (Heap.get?_push_of_some _ e)
 have d1:h1.DictOf knd s.heap.objs.size []:=by
  obtain ⟨o,es,ep,ho,r⟩:=dn;exact ⟨o,es,ep,k1 _ _ ho,r⟩
 refine wpAny_pure ⟨plainId_quiet fB _,codeAny_builtin mC ?_⟩;rw[Around.under_plainId fB _];refine Au (A:=A.in1) (d:=s.heap.objs.size) hh D nd ks hk hz _ 0 rfl (Nat.zero_le _) { s with heap:=h1,toks:=t1 } [] _ (Z.keep (λc o e _=>kk c o e) nd (let ⟨o,_,_,ho,_⟩:=d1;⟨o,ho⟩)) d1 (by simpa using hsz) λh' t' d' f'=>?_
 rw[drop_zero,merged_nil_of_nodup _ (by rw[List.map_fst_zip (by simp;omega)];exact hn)] at d';exact ⟨rfl,q h' t' d' λc o n1 n2 n3 n4 e=>f' c o n1 n2 n3 n4 (n0 e).symm (kk c o e)⟩
end
def zp:bootBuiltins "dict"=some (.type "dict"):=by decide+kernel
def Dv {P:Program}{w:World}:∀ {ks:List Key}{us:List Value},Vals (ks.map kV) us->∀ (j:Nat) u,us[j]? =some u->∃ k,ks[j]? =some k/\(aw P w).is k u=true
 | [],_,.nil,j,u,h=>by simp at h
 |k::ks,_,.cons r rs,0,u,h=>by
  simp at h;subst h;exact ⟨k,rfl,qm r⟩
 |k::ks,_,.cons r rs,j+1,u,h=>by
  simp at h;obtain ⟨k',e1,e2⟩:=Dv (P:=P) (w:=w) rs j u h;exact ⟨k',by simpa using e1,e2⟩
def DT:∀ {ks:List Key}{ys:List V}{us:List Value},Vals ys us->KV (ks.zip ys) (ks.zip us)
 | [],_,_,_=>by simp[List.zip];exact .nil
 |_::_,_,_,.nil=>.nil
 |k::ks,_,_,.cons r rs=>.cons ⟨rfl,r⟩ (DT rs)
abbrev Ll (K:W.Frag)(v u:V)(H:Hp)(Q:VK):Prop:=∃ tp1 l1 tp2 l2,∃ (ks:List Key) (ys:List V),v=.ref l1/\u=.ref l2/\Sq K tp1 H l1 (ks.map kV)/\Sq K tp2 H l2 ys/\ks.Nodup/\ks.length=ys.length/\ks.length<=1000/\∀ p,H p=none->Q (.ref p) (upd H p (.dK (ks.zip ys)))
abbrev Mi (K:W.Frag)(ta:TA):TE:=λU H Q=>ta U H λvs H1=>∃ v u,vs=[v,u]/\Ll K v u H1 Q
def BQ {a b:Expr}{p2 pos2:Pos}(hc:X.calm=true)(hg:Gl X "dict") (hm:X.mg "dict"=none) (hg2:Gl X "zip") (hm2:X.mg "zip"=none) (ha:PA X [a,b] ta)
  (hs:starEach [a,b] X.env=(false,eval a X.env)::starEach [b] X.env:=by rfl) (hpl:(backTo pos2 (starEach [b] X.env)).any (·.1)=false:=by rfl):
  PE X (.Call (.Name "dict" p) [.Call (.Name "zip" p2) [a,b] [] pos2] [] pos) (Mi X.K ta):=by
 intro Y s U H Q I h;have h1:starEach [.Call (.Name "zip" p2) [a,b] [] pos2] X.env=[(false,eval (.Call (.Name "zip" p2) [a,b] [] pos2) X.env)]:=rfl;refine Call_ (dc I hg hm zp (PyProof.Rows.callWith_type1 ?_ h1 rfl));rw[h1];show wpAny _ _ (spliced ((false,eval (.Call (.Name "zip" p2) [a,b] [] pos2) X.env)::backTo pos [])) _ _ _;refine Calls.spliced_cons ?_;refine Call_ (dc I hg2 hm2 yF (PyProof.Rows.callWith_type1 (az (ha pos2 Y s U H _ I h) λus s1 ⟨vs,H1,I1,r1,q1⟩=>?_) hs hpl));obtain ⟨v,u,e,tp1,l1,tp2,l2,ks,ys,e1,e2,q1,q2,kn,kl,kz,q⟩:=q1;subst e e1 e2;cases r1 with
 |cons r rr=>
  cases rr with
  |cons r' rr'=>
   cases rr';cases r;cases r';obtain ⟨is1,v1,t1⟩:=I1.sq q1;obtain ⟨is2,v2,t2⟩:=I1.sq q2;refine pW t1 t2 λh' hz hI hO g1 g2 hsz hk=>?_
   refine Calls.spliced_nil ?_;have n1:is1.length=ks.length:=by rw[<-v1.length,length_map]
   have n2:is2.length=ks.length:=by rw[<-v2.length,kl]
   refine pL (s:={ s1 with heap:=h' }) (knd:=aw X.prog X.w) (I1.ok.hd hc) (xV t1.lt t2.lt) ks (λj x hx=>Dv v1 j x (by simpa using hx)) (by simp;omega) kn (by simp;omega) (by simp;rw[n1];exact fits kz)
    ⟨.inl ⟨_,hz⟩,hI,⟨_,_,hO⟩,g1,g2,t1.to λo e=>hk _ o e,t2.to λo e=>hk _ o e⟩ ⟨_,hz⟩ λh2 t2' d2 f2=>?_
   have lt0:∀ {c o},s1.heap.get? c=some o->c<s1.heap.objs.size:=λe=>Heap.lt_size e
   have hfree:H1 h'.objs.size=none:=I1.hok.fresh (by rw[hsz];exact Nat.le_add_right _ _);refine ⟨.ref h'.objs.size,_,I1.laid (a:=h'.objs.size) (o:=.dK (ks.zip ys)) (t':=t2') (λc o e=>?_) (by rw[hsz];exact Nat.le_add_right _ _) ⟨?_,?_,_,DT v2,by simpa using d2⟩,rfl,q _ hfree⟩
   ·have hl:=lt0 e;refine f2 c o (Nat.ne_of_lt (Nat.lt_of_lt_of_le hl (Nat.le_add_right _ _))) (Nat.ne_of_lt (Nat.lt_of_lt_of_le hl (Nat.le_add_right _ _))) (Nat.ne_of_lt hl) (Nat.ne_of_lt (Nat.lt_of_lt_of_le hl (Nat.le_add_right _ _))) (hk c o e)
   ·rw[length_zip];exact fits (Nat.le_trans (Nat.min_le_left _ _) kz)
   ·exact beq_eq_false_iff_ne.mpr (Nat.ne_of_gt (Nat.lt_of_lt_of_le I1.big (by rw[hsz];exact Nat.le_add_right _ _)))
section
variable {X:Cx}{Y:MD}{U:St}{H:Hp}{s:Shared}{a:Addr}{kvs:List (Key×V)}{A:Around}{E:MC}
def yT (I:Inv X Y U H s)(e:Rd H a (.dK kvs))(h:∀ p s',H p=none->Inv X Y U (upd H p (.dK kvs)) s'->Q (.ref p) s'):wpAny (model X.prog X.w) A (call (.type "dict") [.ref a]) Q E s:=by
 obtain ⟨z,hd,vs,rel,dd⟩:=lh I.hok e;refine kt_call_dict hd dd (by rw[<-rel.length];exact z) λh' dd' hs=>?_
 refine h _ _ (I.hok.fresh (Nat.le_refl _)) (I.laid (a:=s.heap.objs.size) (o:=.dK kvs) (t':=s.toks) (λb q hq=>?_) (Nat.le_refl _) (tQ z (beq_eq_false_iff_ne.mpr (Ne.symm (Nat.ne_of_lt I.big))) rel dd'));exact (hs.2 b (Nat.ne_of_lt (Heap.lt_size hq))).trans (Heap.get?_push_of_some _ hq)
end
variable {A:Around}
section
variable {X:Cx}{Y:MD}{U:St}{H:Hp}{s:Shared}
def qx {x:V}{u t:Value}(I:Inv X Y U H s)(rx:RelV x u)(ty:gP X.K H x t):∃ P:Heap->Prop,KitX X.K u t P/\P s.heap/\u≠.builtin "__main__.__loader__#opaque":=by
 cases ty with
 |non=>cases (show u=Value.none from rx);exact ⟨_,kitx_none,True.intro,λz=>nomatch z⟩
 |bl y=>cases (show u=Value.bool y from rx);exact ⟨_,kitx_bool,True.intro,λz=>nomatch z⟩
 |int i=>obtain ⟨t,q⟩:=(show ∃ t,u=Value.int i t from rx);cases q;exact ⟨_,kitx_int,True.intro,λz=>nomatch z⟩
 |str y=>obtain ⟨t,q⟩:=(show ∃ t,u=Value.str y t from rx);cases q;exact ⟨_,kitx_str,True.intro,λz=>nomatch z⟩
 |flt y=>obtain ⟨t,q⟩:=(show ∃ t,u=Value.float y t from rx);cases q;exact ⟨_,kitx_float,True.intro,λz=>nomatch z⟩
 | @lst a xs ea=>
  cases (show u=Value.ref a from rx);obtain ⟨_,_,n,_,h1⟩:=(show aA X.prog X.w H s.heap a (.lst xs) from I.hok a _ ea);exact ⟨_,kitx_list,⟨_,h1,rfl⟩,λz=>nomatch z⟩
 | @frz a ob xs ea=>
  cases (show u=Value.ref a from rx);obtain ⟨_,_,_,n,_,h1⟩:=(show aA X.prog X.w H s.heap a (.frz ob (.lst xs)) from I.hok a _ ea);exact ⟨_,kitx_list,⟨_,h1,rfl⟩,λz=>nomatch z⟩
 | @tup a xs ea=>
  cases (show u=Value.ref a from rx);obtain ⟨_,_,_,p⟩:=(show aA X.prog X.w H s.heap a (.tup xs) from I.hok a _ ea);obtain ⟨o,h1,h2,_⟩:=p;exact ⟨_,kitx_tuple,⟨o,h1,h2⟩,λz=>nomatch z⟩
 | @dK a kvs ea=>
  cases (show u=Value.ref a from rx);obtain ⟨_,_,vs,_,p⟩:=(show aA X.prog X.w H s.heap a (.dK kvs) from I.hok a _ ea);obtain ⟨o,es,ep,h1,h2,_⟩:=p;exact ⟨_,kitx_dict,⟨o,h1,h2.1⟩,λz=>nomatch z⟩
 | @dT a kvs ea=>
  cases (show u=Value.ref a from rx);obtain ⟨_,_,xs,_,o,es,ep,h1,h2,_⟩:=(show aA X.prog X.w H s.heap a (.dT kvs) from I.hok a _ ea);exact ⟨_,kitx_dict,⟨o,h1,h2.1⟩,λz=>nomatch z⟩
 | @ins a C dx fs ea cl ha hn htk hm=>
  cases (show u=Value.ref a from rx);obtain ⟨mA,O,_⟩:=fE I.hok ea;obtain ⟨od,J,_⟩:=O.look;exact ⟨_,kitx_own (cl.get _) cl.hd ha hn htk hm,J,λz=>nomatch z⟩
def nW {u t:Value}{p:Addr}{cs:List Addr}{b:Bool}{P:Heap->Prop}(I:Inv X Y U H s)(Z:KitX X.K u t P)(hp:P s.heap)(hx:u≠.builtin "__main__.__loader__#opaque")
  (ep:H p=some (.tup (cs.map V.ref))) (e:kitAny X.K t (cs.map Value.ref)=some b) (h:∀ tk,Q (.bool b) { s with toks:=tk }):wpAny (model X.prog X.w) A (call (.builtin "isinstance") [u,.ref p]) Q E s:=by
 obtain ⟨its,r,pl,_⟩:=I.tuple (aZ.of ep);have er:∀ {cs:List Addr}{us:List Value},Vals (cs.map V.ref) us->us=cs.map Value.ref:=by
  intro cs
  induction cs with
  |nil=>intro us h;cases h;rfl
  |cons c cs ih=>
   intro us h;cases h with
   |cons r1 r2=>
    rw[ih r2,show _=Value.ref c from r1]
    rfl
 obtain rfl:=er r;obtain ⟨⟨c,d,da,sl⟩,h1,h2,n,h3⟩:=(show s.heap.IsTuple p (cs.map Value.ref).toArray from pl);subst h2;obtain rfl:=h3;exact kia_tup Z I.bQ hp h1 e hx h
end
def IV (d:Addr)(hd:(d ==sysModules)=false)(dd:Option Addr)(ep:Nat)(sl:Array (Option Value)):Meets (Builtin.«dict.__eq__» ⟨[.ref d,.ref d],[]⟩) (λ_ R s=>s.heap.get? d=some ⟨.type "dict",dd,.dict #[] ep,sl⟩/\R (.ok (.ret (.bool true))) s):=by
 intro prog w A R s hs;obtain ⟨h,g,dp,tt,os⟩:=s;obtain ⟨ho,q⟩:=hs;have hT:(⟨h,g,dp,tt,os⟩:Shared).TypeIs (.ref d) "dict":=⟨_,ho,rfl⟩;unfold Builtin.«dict.__eq__»
 k_delta "equality"
 unfold Builtin.Dict.dictSlotArgs;refine wpAny_bind (wpAny_bind (wpAny_notOrdered_dict hT ?_));show wpAny _ _ (pure (Value.ref d,[Value.ref d]) >>= _) _ _ _;refine wpAny_bind (wpAny_pure (wpAny_pure ?_));have hi:=PySem.F.kt_sub_dict;show wpAny _ _ (isInstance (.ref d) (.type "dict") >>= _) _ _ _;unfold Builtin.Dict.samePairs;simp only[Std.Legacy.Range.forIn_eq_forIn_range']
 repeat (any_goals first|assumption|wp_step)
variable {dd:Option Addr}{sl:Array (Option Value)}
def HM (hd:(d ==sysModules)=false){ep:Nat}(ho:s.heap.get? d=some ⟨.type "dict",dd,.dict #[] ep,sl⟩) (hu:A.units<cLine):SeqAt.RcAt A s (.ref d) (.ref d) true:=λprog w E Q h=>
 richCompare_meets_room (op:=.Eq) ⟨_,ho,rfl⟩ ⟨_,ho,rfl⟩ PySem.F.slot_dict_eq PySem.F.entry_dict_eq (PySem.F.args_dict_eq_2 _ _) (IV d hd dd ep sl) ⟨ho,show Value.bool true≠Value.notImplemented/\Q (.bool true) s from ⟨(λx=>nomatch x),h⟩⟩ hu
abbrev tB (K:W.Frag)(H:Hp)(a:Addr):Prop:=(∃ xs,aS K H a xs)\/(∃ xs,aZ K H a xs)\/H a=some (.dK [])
def AM {a:Addr}(I:Inv X Y U H s)(h:tB X.K H a)(hu:A.units+2<cLine):SeqAt.RcAt A s (.ref a) (.ref a) true:=by
 rcases h with ⟨xs,h⟩|⟨xs,h⟩|h
 ·obtain ⟨ia,ra,pa,_⟩:=I.list h;have rc:=SeqAt.RcAt.lists (A:=A) (e:=λ_=>true) pa.isList pa.isList rfl nofun λj h1 h2=>SeqAt.EqAt.same _
  have e:(List.range ia.toArray.size).all (λ_=>true)=true:=by simp
  rwa [e] at rc
 ·obtain ⟨ia,ra,pa,_⟩:=I.tuple h;have rc:=SeqAt.RcAt.tuples (A:=A) (e:=λ_=>true) (show s.heap.IsTuple a ia.toArray from pa) (show s.heap.IsTuple a ia.toArray from pa) nofun λj h1 h2=>SeqAt.EqAt.same _
  have e:((List.range (min ia.toArray.size ia.toArray.size)).all (λ_=>true)&&ia.toArray.size ==ia.toArray.size)=true:=by simp
  rwa [e] at rc
 ·obtain ⟨z,hd,vs,rel,dd⟩:=lh I.hok (.inl h);cases rel;obtain ⟨⟨c,d,da,sl⟩,es,ep,ho,hx,he,_,hp,_⟩:=dd;have e0:es=#[]:=by
   cases hp':es.toList with
   |nil=>exact Array.toList_eq_nil_iff.mp hp'
   |cons a b=>rw[hp'] at hp;cases hp
  subst e0;obtain rfl:da=.dict #[] ep:=he;obtain ⟨rfl,_⟩:=hx;exact HM hd ho nofun
section
variable {prog:Program}{w:World}{A:Around}{E:MC}{s:Shared}{T:String}{r d:Addr}{n:Nat}{P:Nat->Value->Prop}{OK:Heap->Prop}
def qQ {Q:List Value->Shared->Prop}(K:KdlSrc prog w T r d n P OK)(hh:A.handled=none)(hok:OK s.heap)(hn:n<=sizeLine)
  (hQ:∀ h' tk (acc:Array Value),(∀ b o,s.heap.get? b=some o->h'.get? b=some o)->ItemsOf P acc n->Q acc.toList { s with heap:=h',toks:=tk }):wpAny (model prog w) A (collect (.ref r)) Q E s:=by
 have hlt:=K.there _ hok;unfold collect;refine wpAny_bind (wpAny_runValue (codeAny_builtin PySem.F.entry_proto_collect ?_));rw[Around.under_plainId PySem.F.plain_proto_collect _];show wpAny _ A.in1 (newList [] >>= λz=>again (.builtin "list.__iadd__" ⟨[z,.ref r],[]⟩)) _ _ s;refine wpAny_bind (wpAny_newObj_type (wpAny_pure ⟨plainId_quiet PySem.F.plain_list_iadd _,codeAny_builtin PySem.F.entry_list_iadd ?_⟩));rw[Around.under_plainId PySem.F.plain_list_iadd _];show wpAny _ A.in1 (Builtin.List.listExtendWith (.ref s.heap.objs.size) (.ref r) (.ref s.heap.objs.size)) _ _ _;have hS:(s.heap.push { cls:=.type "list",data:=.seq ([]:List Value).toArray }).get? s.heap.objs.size=some { cls:=.type "list",data:=.seq #[] 0 }:=Heap.get?_push_size s.heap rfl;have fin:∀ (x:Result) (s':Shared),(x=.ok (.ret (.ref s.heap.objs.size))/\∃ h' tk acc c',s'={ s with heap:=h',toks:=tk }/\(∀ b o,s.heap.get? b=some o->h'.get? b=some o)/\h'.get? s.heap.objs.size=some { cls:=.type "list",dict:=none,data:=.seq acc c',slots:=#[] }/\ItemsOf P acc n)->
   wpAny (model prog w) A (match Value.ref s.heap.objs.size with
    |Value.ref a=>do
     match (<-load a).data with
      |Data.seq xs _=>pure xs.toList
      |_=>unsupported "internal:collect"
    |_=>unsupported "internal:collect") Q E s':=λx s' ⟨_,h',tk,acc,c',e,hk,ho,hi⟩=>by
  subst e;show wpAny _ A (load s.heap.objs.size >>= _) _ _ _;exact wpAny_bind (wpAny_load ho (wpAny_pure (hQ h' tk acc hk hi)))
 refine wpAny_mono (kdl_extend (A:=A) (s:={ s with heap:=s.heap.push { cls:=.type "list",data:=.seq ([]:List Value).toArray } })
  (R:=λx s'=>x=.ok (.ret (.ref s.heap.objs.size))/\∃ h' tk acc c',s'={ s with heap:=h',toks:=tk }/\(∀ b o,s.heap.get? b=some o->h'.get? b=some o)/\h'.get? s.heap.objs.size=some { cls:=.type "list",dict:=none,data:=.seq acc c',slots:=#[] }/\ItemsOf P acc n)
  K hh (K.keep _ _ hok λb _ o e=>Heap.get?_push_of_some _ e) s.heap.objs.size (Nat.ne_of_gt hlt.1) (Nat.ne_of_gt hlt.2) (.ref s.heap.objs.size) 0 hS (λh' tk acc c' hk ho hi=>⟨rfl,h',tk,acc,c',rfl,λb o e=>hk b o (Nat.ne_of_lt (Heap.lt_size e)) (Heap.get?_push_of_some _ e),ho,hi⟩) hn) (λfi s' h=>?_) (λe s' h=>?_)
 ·cases fi with
  |done f=>
   have hf:=h.1;cases hf;exact fin _ _ h
  |again c'=>exact ⟨h.1,codeAny_mono h.2 λx s'' hx=>by
    have e:=hx.1;subst e;exact fin _ _ hx⟩
 ·exact absurd h.1 (by simp)
def lY {Q₁:MC}(K:KdlSrc prog w T r d n P OK)(hT0:(T =="tuple")=false) (hh:A.handled=none) (hok:OK s.heap) (hn:n<=sizeLine)
  (h:∀ (h':Heap) (tk:Nat) (acc:Array Value),(∀ b o,s.heap.get? b=some o->h'.get? b=some o)->ItemsOf P acc n->Q₁ (.ref h'.objs.size) { s with heap:=h'.push { cls:=.type "tuple",data:=.seq acc },toks:=tk }):
  codeAny (model prog w) A (.call (.builtin "tuple.__new__") ⟨[.type "tuple",.ref r],[]⟩) (wants Q₁ E) s:=by
 refine codeAny_of_tree ?_;show wpAny _ A.in1 (do checkBuiltinCall "tuple.__new__" ⟨[.type "tuple",.ref r],[]⟩;again (.builtin "tuple.__new__" ⟨[.type "tuple",.ref r],[]⟩)) _ _ s;refine wpAny_bind (wpAny_of_eq (PySem.F.newCall_tuple_1 _) (wpAny_pure ⟨plainId_quiet PySem.F.plain_tuple_new _,codeAny_builtin PySem.F.entry_tuple_new ?_⟩));rw[Around.under_plainId PySem.F.plain_tuple_new _];have h1:=sub_tuple_self;have h2:=init_tuple_lookup;have h3:=madeHere_tuple;have hTI:=K.type s hok;have h4:=K.notTuple
 wp_walk using wpAny_typeOf hTI,qQ (A:=A.in1) K hh hok hn
 intro h' tk acc hk hi;show wpAny _ _ (Builtin.Tuple.tupleExact acc.toList.toArray >>= λz=>ret z) _ _ _;unfold Builtin.Tuple.tupleExact;have e:acc.toList.toArray=acc:=Array.toArray_toList;rw[e];refine wpAny_bind (wpAny_newObj_type (wpAny_pure ?_) (by show acc.size<=sizeLine;rw[hi.1];exact hn));exact h h' tk acc hk hi
def kQ (K:KdlSrc prog w T r d n P OK)(hT0:(T =="tuple")=false) (hh:A.handled=none) (hok:OK s.heap) (hn:n<=sizeLine)
  (h:∀ (h':Heap) (tk:Nat) (acc:Array Value),(∀ b o,s.heap.get? b=some o->h'.get? b=some o)->ItemsOf P acc n->Q (.ref h'.objs.size) { s with heap:=h'.push { cls:=.type "tuple",data:=.seq acc },toks:=tk }):
  wpAny (model prog w) A (call (.type "tuple") [.ref r]) Q E s:=by
 refine callType_codes (Q₁:=λz s₁=>s₁.TypeIs z "tuple"/\Q z s₁) PySem.F.called_tuple (PySem.F.typeCall_tuple_1 _) PySem.F.entry_object_init (lY K hT0 hh hok hn λh' tk acc hk hi=>⟨⟨_,Heap.get?_push_size _ rfl,rfl⟩,h h' tk acc hk hi⟩) λz s₁ g=>?_
 exact ⟨g.1,PySem.F.args_object_init_2 z _,object_init_meets PySem.F.called_tuple.init.lookup PySem.F.called_tuple.made (by decide) prog w A.in1 _ s₁ ⟨g.1,rfl,g.2⟩⟩
end
def yM:bootBuiltins "list"=some (.type "list"):=by decide+kernel
def vD:bootBuiltins "tuple"=some (.type "tuple"):=by decide+kernel
abbrev E4 (tp:Bool)(xs:List V):HO:=match tp with
 |true=>.tup xs
 |false=>.lst xs
abbrev kM (tp:Bool):String:=match tp with
 |true=>"tuple"
 |false=>"list"
abbrev BU (tp:Bool):Str:=match tp with
 |true=>"tuple"
 |false=>"list"
abbrev DC (tp:Bool)(x:V)(H:Hp)(Q:VK):Prop:=∃ d kvs,x=.ref d/\H d=some (.dK kvs)/\∀ p,H p=none->Q (.ref p) (upd H p (E4 tp (kvs.map (·.2))))
def nS:∀ {kvs:List (Key×V)}{vs:List (Key×Value)},KV kvs vs->Vals (kvs.map (·.2)) (vs.map (·.2))
 |_,_,.nil=>.nil
 |_,_,.cons r rs=>.cons r.2 (nS rs)
def we {Q:VK}{kvs:List (Key×V)}(tp:Bool)(hc:X.calm=true)(I:Inv X Y U H s)(e:H d=some (.dK kvs))(q:∀ p,H p=none->Q (.ref p) (upd H p (E4 tp (kvs.map (·.2))))):
  wpAny (model X.prog X.w) X.A (call (.builtin "dict.values") [.ref d]) (λv s1=>wpAny (model X.prog X.w) X.A (call (.type (kM tp)) [v]) (EP X Y U Q) X.xe s1) X.xe s:=by
 obtain ⟨hz,hd,vs,rel,dd⟩:=lh I.hok (.inl e);refine call_meetsIn PySem.F.slot_dict_values dd.typeIs PySem.F.entry_dict_values (PySem.F.args_dict_values_1 _) (meets_dict_values (aw X.prog X.w) d hd) ⟨⟨vs,dd⟩,?_⟩;obtain ⟨o,es,ep,ho,hx,he,hk,hp,hn⟩:=dd;have hA:s.heap.DictAt (aw X.prog X.w) d vs ep:=⟨o,es,ho,hx,he,hk,hp,hn⟩;have hok:(s.heap.push { cls:=.type "dict_values",data:=.fields #[.ref d] }).IsValuesView s.heap.objs.size d/\(s.heap.push { cls:=.type "dict_values",data:=.fields #[.ref d] }).DictAt (aw X.prog X.w) d vs ep:=⟨⟨_,Heap.get?_push_size _ rfl,rfl,rfl⟩,hA.push _⟩;have hl:vs.length<=sizeLine:=by rw[<-rel.length];exact hz
 have hv:∀ (acc:Array Value),ItemsOf (λi v=>∃ k,vs[i]? =some (k,v)) acc vs.length->acc.toList=vs.map (·.2):=λacc hi=>kdl_vals_eq acc.toList (by rw[Array.length_toList];exact hi.1) λj v hj=>hi.2 j v (by rw[<-Array.getElem?_toList];exact hj)
 have I0:Inv X Y U H { s with heap:=s.heap.push { cls:=.type "dict_values",data:=.fields #[.ref d] } }:=I.kept (t':=s.toks) λb u hb=>Heap.get?_push_of_some _ hb
 have hlen:(kvs.map (·.2)).length<=sizeLine:=by rw[length_map];exact hz
 cases tp with
 |false=>
  refine kdl_call (s:={ s with heap:=s.heap.push { cls:=.type "dict_values",data:=.fields #[.ref d] } }) (kdl_values (prog:=X.prog) (w:=X.w) (knd:=aw X.prog X.w) (r:=s.heap.objs.size) (d:=d) (kvs:=vs) (ep:=ep)) (I.ok.hd hc) hok hl λh' tk acc c' hk' hD hi=>?_
  have ea:=hv acc hi;refine ⟨.ref _,_,I0.laid (t':=tk) hk' (Nat.le_refl _) (show aA X.prog X.w _ h' _ (.lst (kvs.map (·.2))) from ⟨hlen,acc.toList,c',by rw[ea];exact nS rel,by rw[Array.toArray_toList];exact hD⟩),rfl,q _ (I0.hok.fresh (Nat.le_refl _))⟩
 |true=>
  refine kQ (s:={ s with heap:=s.heap.push { cls:=.type "dict_values",data:=.fields #[.ref d] } }) (kdl_values (prog:=X.prog) (w:=X.w) (knd:=aw X.prog X.w) (r:=s.heap.objs.size) (d:=d) (kvs:=vs) (ep:=ep)) (by decide) (I.ok.hd hc) hok hl λh' tk acc hk' hi=>?_
  have ea:=hv acc hi;have I1:Inv X Y U H { s with heap:=h',toks:=tk }:=I0.kept (t':=tk) hk';have I2:Inv X Y U (upd H h'.objs.size (.tup (kvs.map (·.2)))) { s with heap:=h'.push { cls:=.type "tuple",data:=.seq acc },toks:=tk }:=
   I1.laid (t':=tk) (λb u hb=>Heap.get?_push_of_some _ hb) (Nat.le_refl _) (show aA X.prog X.w _ _ _ (.tup (kvs.map (·.2))) from ⟨hlen,acc.toList,by rw[ea];exact nS rel,by rw[Array.toArray_toList];exact IsTup.new _ _⟩)
  exact ⟨.ref h'.objs.size,_,I2,rfl,q _ (I1.hok.fresh (Nat.le_refl _))⟩
abbrev IP (tp:Bool)(ta:TE):TE:=λU H Q=>ta U H λx H1=>DC tp x H1 Q
def Cw {a:Expr}{ta:TE}{apos cpos:Pos}(tp:Bool)(hc:X.calm=true)(hg:Gl X (BU tp))(hm:X.mg (BU tp)=none)(ha:PE X a ta)(hb:attributeBase a "values" X.env (eval a X.env)=eval a X.env) (hl:(apos.endLine ==cpos.line)=true):
  PE X (.Call (.Name (BU tp) p) [.Call (.Attribute a "values" apos) [] [] cpos] [] pos) (IP tp ta):=by
 intro Y s U H Q I h;have h1:starEach [.Call (.Attribute a "values" apos) [] [] cpos] X.env=[(false,eval (.Call (.Attribute a "values" apos) [] [] cpos) X.env)]:=rfl;have go:wpAny (model X.prog X.w) X.A (eval (.Call (.Attribute a "values" apos) [] [] cpos) X.env) (λv s1=>wpAny (model X.prog X.w) X.A (call (.type (kM tp)) [v]) (EP X Y U Q) X.xe s1) X.xe s:=by
  refine wpAny_Call_method0_late hb hl (az (ha Y s U H _ I h) λv s1 ⟨x,H1,I1,r1,q1⟩=>?_);obtain ⟨d,kvs,ex,e,q⟩:=q1;subst ex;obtain ⟨g1,g2⟩:=tj (T:="dict") I1 r1 (.inr (.inr (.inl ⟨rfl,.inl ⟨kvs,e⟩⟩)));cases r1;exact ⟨"dict","dict.values",PySem.F.plainAttrs_dict,PySem.F.slot_dict_values,PySem.F.type_dict_values,g1,g2,Calls.callWith_builtin rfl (PySem.evalArgs_none (we tp hc I1 e q))⟩
 cases tp with
 |true=>
  refine Call_ (dc I hg hm vD (PyProof.Rows.callWith_type1 ?_ h1 rfl));rw[h1];show wpAny _ _ (spliced ((false,eval (.Call (.Attribute a "values" apos) [] [] cpos) X.env)::backTo pos [])) _ _ _;exact Calls.spliced_cons (az go λv s1 z=>Calls.spliced_nil z)
 |false=>
  refine Call_ (dc I hg hm yM (PyProof.Rows.callWith_type1 ?_ h1 rfl));rw[h1];show wpAny _ _ (spliced ((false,eval (.Call (.Attribute a "values" apos) [] [] cpos) X.env)::backTo pos [])) _ _ _;exact Calls.spliced_cons (az go λv s1 z=>Calls.spliced_nil z)
abbrev Ak (K:W.Frag)(C:Addr):Bool:=findIn K (.ref C) "__eq__" ==some (some (.builtin "object.__eq__"))&&subIn K (.ref C) (.type "str") ==some false&&subIn K (.ref C) (.type "object") ==some true
def sx {prog:Program}{w:World}{K:Frag}{C:Addr}{R:Result->Shared->Prop}(X:K.In s.heap)(hm:makesIn K C=true)(hi:findIn K (.ref C) "__init__"=some (some (.builtin "object.__init__")))
  (h:R (.ok (.ret (.ref (s.heap.objs.size+1)))) { s with heap:=(s.heap.push emptyDict).push (instObj C s.heap.objs.size) }):codeAny (model prog w) A (.call (.ref C) ⟨[],[]⟩) R s:=by
 obtain ⟨hh,g,d,t,os⟩:=s;have Y:=makes_of (M:=model prog w) X hm;refine make_core Y (looks_findIn X hi) (λz=>Looks.of_pure (oi_bind z)) (.inr ⟨rfl,rfl⟩) ?_;have k:∀ b o,hh.get? b=some o->((hh.push emptyDict).push (instObj C hh.objs.size)).get? b=some o:=λb o e=>Heap.get?_push_of_some _ (Heap.get?_push_of_some _ e)
 have hx:((hh.push emptyDict).push (instObj C hh.objs.size)).get? (hh.objs.size+1)=some (instObj C hh.objs.size):=by heap_get
 have t1:Looks (model prog w) ((hh.push emptyDict).push (instObj C hh.objs.size)) (typeOf (.ref (hh.objs.size+1))) (.ref C):=Looks.andThen (Looks.ld hx) .now;have t2:Looks (model prog w) ((hh.push emptyDict).push (instObj C hh.objs.size)) (isInstance (.ref (hh.objs.size+1)) (.type "object")) true:=t1.andThen (Y.top.keeps k);refine codeAny_call_builtin oi_plain entry_oi (@check_slot (model prog w) _ _ _ "object.__init__" "object" "__init__" (.ref (hh.objs.size+1)) [] [] _ oi_kind oi_split t2 (oi_args _) ?_);rw[oi_run];exact wpAny_pure ⟨rfl,h⟩
structure LF (K:Frag) (C:Addr):Prop where
 makes:makesIn K C=true
 init:findIn K (.ref C) "__init__"=some (some (.builtin "object.__init__"))
 kp:keepIn K (.ref C)=true
abbrev Kj (C:Addr):TE:=λ_ H Q=>∀ x dx,H x=none->H dx=none->dx≠x->Q (.ref x) (upd (upd H dx (.own x)) x (.ins C dx []))
def yr {C:Addr}{x:Str}(M:LF X.K C)(hg:Gl X x)(hm:X.mg x=some (.ref C))(hdb:(x ==("__debug__":Str))=false):PE X (.Call (.Name x p) [] [] pos) (Kj C):=by
 intro Y s U H Q I h;refine wpAny_Call_Name_kw (bE I hg hm ?_ hdb);refine W.callWith_K0 I.bQ M.kp (wpAny_call (sx I.bQ M.makes M.init ?_));have I2:=Inv.made (C:=C) I;exact ⟨.ref (s.heap.objs.size+1),_,I2,rfl,h (s.heap.objs.size+1) s.heap.objs.size (I.hok.fresh (Nat.le_succ _)) (I.hok.fresh (Nat.le_refl _)) (Nat.ne_of_lt (Nat.lt_succ_self _))⟩
@[reducible]def VV:List (V×V)->List (Value×Value)->Prop:=Paired λp q=>RelV p.1 q.1/\RelV p.2 q.2
abbrev PQ (X:Cx)(pos:Pos)(keys:List (Option Expr))(values:List Expr)(t:St->Hp->(List (V×V)->Hp->Prop)->Prop):Prop:=
 ∀ (Y:MD) (s:Shared) (U:St) (H:Hp) (Q:List (V×V)->Hp->Prop),Inv X Y U H s->t U H Q->
  wpAny (model X.prog X.w) X.A (evalPairs (pairTrees keys values X.env pos)) (λvs s'=>∃ ps H',Inv X Y U H' s'/\VV ps vs/\Q ps H') X.xe s
def EE:PQ X pos [] [] (λ_ H Q=>Q [] H):=λY s U H Q I h=>pairTrees_nil_walk ⟨[],H,I,.nil,h⟩
variable {t:St->Hp->(List (V×V)->Hp->Prop)->Prop}{vs:List Expr}
def CA {k v:Expr}{ks:List (Option Expr)}{tk tv:TE}(hk:PE X k tk)(hv:PE X v tv)(hr:PQ X pos ks vs t):
  PQ X pos (some k::ks) (v::vs) (λU H Q=>tk U H λx H1=>tv U H1 λy H2=>t U H2 λps H3=>Q ((x,y)::ps) H3):=λY s U H Q I h=>
 pairTrees_cons_walk (az (hk Y s U H _ I h) λu s1 ⟨x,H1,I1,rx,q1⟩=>az (hv Y s1 U H1 _ I1 q1) λw2 s2 ⟨y,H2,I2,ry,q2⟩=>
  az (hr Y s2 U H2 _ I2 q2) λws s3 ⟨ps,H3,I3,rel,q3⟩=>⟨(x,y)::ps,H3,I3,.cons ⟨rx,ry⟩ rel,q3⟩)
abbrev iO (kvs more:List (Key×V)):List (Key×V):=more.foldl (λacc kv=>putK acc kv.1 kv.2) kvs
def KV.merge:∀ {more:List (Key×V)}{rs:List (Key×Value)}{kvs:List (Key×V)}{vs:List (Key×Value)},KV more rs->KV kvs vs->KV (iO kvs more) (merged vs rs):=by
 intro more rs kvs vs r;unfold KV at r
 induction r generalizing kvs vs with
 |nil=>intro q;exact q
 | @cons p q ps qs h t ih=>
  intro r0;have e:KV (putK kvs p.1 p.2) (stored vs q.1 q.2):=by
   have:=r0.put p.1 h.2;rw[<-h.1];exact this
  exact ih e
def fV:∀ (more kvs:List (Key×V)),(iO kvs more).length<=kvs.length+more.length
 | [],kvs=>by show kvs.length<=kvs.length+0;omega
 |p::r,kvs=>by
  have h1:=fV r (putK kvs p.1 p.2);have h2:=ff kvs p.1 p.2;show (iO (putK kvs p.1 p.2) r).length<=_;rw[length_cons];omega
def la {P:Program}{w:World}:∀ {kvs:List (Key×V)}{ws:List (Value×Value)},VV (kvs.map λkv=>(kV kv.1,kv.2)) ws->∃ rs,Carries (aw P w) ws rs/\KV kvs rs
 | [],_,r=>by rw[List.map_nil] at r;cases r;exact ⟨[],True.intro,.nil⟩
 |p::kvs,_,r=>by
  rw[map_cons] at r;cases r with
  | @cons a b as bs h t=>
   obtain ⟨rs,c,q⟩:=la (P:=P) (w:=w) t;obtain ⟨b1,b2⟩:=b;exact ⟨(p.1,b2)::rs,⟨qm h.1,rfl,c⟩,.cons ⟨rfl,h.2⟩ q⟩
abbrev Jb (t:St->Hp->(List (V×V)->Hp->Prop)->Prop):TE:=λU H Q=>∀ p,H p=none->t U (upd H p (.dK [])) λps H2=>H2 p=some (.dK [])/\∃ kvs:List (Key×V),ps=kvs.map (λkv=>(kV kv.1,kv.2))/\kvs.length<=15/\Q (.ref p) (upd H2 p (.dK (iO [] kvs)))
def Cg {keys:List (Option Expr)}{values:List Expr}(h:PQ X pos keys values t)(hall:keys.all (·.isSome)=true)(hl:keys.length=values.length)(h0:keys≠[])
  (h15:keys.length<=15):PE X (.Dict keys values pos) (Jb t):=by
 intro Y s U H Q I q;have hn:=I.hok.fresh (Nat.le_refl s.heap.objs.size);have I1:=I.laid (a:=s.heap.objs.size) (o:=.dK []) (h':=s.heap.push { cls:=.type "dict",data:=.dict #[] }) (t':=s.toks) (λ_ _ q=>Heap.get?_push_of_some _ q) (Nat.le_refl _) (qX s.heap I.big);refine wpAny_Dict_walk (knd:=aw X.prog X.w) hall hl h0 h15 (az (h Y _ U _ _ I1 (q _ hn)) λws s2 ⟨ps,H2,I2,rel,e,kvs,ep,lk,q2⟩=>?_);subst ep;obtain ⟨rs,c,rk⟩:=la (P:=X.prog) (w:=X.w) rel;obtain ⟨z,hd,vs0,r0,dd⟩:=Du I2.hok e;cases r0;refine ⟨rs,c,dd,λh' dd' hs=>⟨.ref s.heap.objs.size,_,?_,rfl,q2⟩⟩;have hz:(iO [] kvs).length<=sizeLine:=by
  have h1:=fV kvs [];rw[length_nil] at h1;rw[sizeLine_eq];omega
 have he:∃ q,h'.get? s.heap.objs.size=some q:=let ⟨q,_,_,hq,_⟩:=dd';⟨q,hq⟩;exact nJ I2 (by rw[e];exact True.intro) hs he (tQ hz hd (rk.merge .nil) dd')
abbrev zO:Expr->Nat
 | .Tuple vs _ _=>vs.length
 |_=>0
abbrev Fe (sc:Scope)(tg v:Expr)(ns:List Str):Bool:=match swappedStores [tg] v { scope:=sc,locals:=0,globals:=0,cells:=[] } with
 | .pure (some l)=>l ==ns&&decide (zO v=ns.length)
 |_=>false
variable {tg:Expr}{ns:List Str}
def Ap {env:Env}{v:Expr}(h:Fe env.scope tg v ns=true):swappedStores [tg] v env=pure (some ns):=by
 have e:swappedStores [tg] v env=swappedStores [tg] v { scope:=env.scope,locals:=0,globals:=0,cells:=[] }:=by
  obtain ⟨sc,a,b,c,d,f,g,i,j⟩:=env
  rfl
 rw[e];unfold Fe at h
 split at h
 ·rename_i l e2;rw[Bool.and_eq_true] at h;rw[e2,beq_iff_eq.mp h.1]
  rfl
 ·cases h
variable {sc:Scope}
def uN {v:Expr}(h:Fe sc tg v ns=true):zO v=ns.length:=by
 unfold Fe at h
 split at h
 ·rw[Bool.and_eq_true,decide_eq_true_eq] at h;exact h.2
 ·cases h
def BO {x y:Str}(h:Fe sc tg (.Tuple vs k p) [x,y]=true):∃ a b,vs=[a,b]:=by
 have h:=uN h
 match vs,h with
 | [a,b],_=>exact ⟨a,b,rfl⟩
def wo {x y z:Str}(h:Fe sc tg (.Tuple vs k p) [x,y,z]=true):∃ a b c,vs=[a,b,c]:=by
 have h:=uN h
 match vs,h with
 | [a,b,c],_=>exact ⟨a,b,c,rfl⟩
abbrev Hy (i j:Nat)(ta:TA):TS:=λD U H=>ta U H λvs H1=>∃ v w,vs=[v,w]/\D.nx ((U.set i (some v)).set j (some w)) H1
def CS {i j:Nat}{x y:Str}{a b:Expr}{px py pt:Pos} {kt k2 pt2} (hc:X.calm=true)(hN:X.N.Nodup)(hi:X.N[i]? =some x)(hj:X.N[j]? =some y)(hij:i≠j)
  (hx:X.env.scope.names.lookup x=some .local) (hy:X.env.scope.names.lookup y=some .local) (ha:PA X [a,b] ta)
  (hw:swappedStores [.Tuple [.Name x px,.Name y py] kt pt] (.Tuple [a,b] k2 pt2) X.env=pure (some [x,y]))
  (hs:swapsWithSole [.Tuple [.Name x px,.Name y py] kt pt] (.Tuple [a,b] k2 pt2) pos.line X.env=pure false:=by rfl):
  PS X (.Assign [.Tuple [.Name x px,.Name y py] kt pt] (.Tuple [a,b] k2 pt2) pos) (Hy i j ta):=by
 intro Y s U H D I h;rw[exec_Assign_arm];refine wpAny_bind (wpAny_standAt ?_);rw[hs];refine wpAny_bind (wpAny_pure ?_);rw[if_neg (by decide)];refine wpAny_bind (Tuple_ (az (ha _ Y s U H _ I h) λus s1 ⟨vs,H1,I1,r1,q1⟩=>?_));obtain ⟨v,w,e1,q1⟩:=q1;subst e1;obtain ⟨u1,u2,rfl,rv,rw'⟩:∃ u1 u2,us=[u1,u2]/\RelV v u1/\RelV w u2:=by
  cases r1 with
  |cons p q=>
   cases q with
   |cons p' q'=>
    cases q';exact ⟨_,_,rfl,p,p'⟩
 refine wpAny_newObj_type ?_ (by show 2<=sizeLine;decide);have I2:Inv X Y U H1 { s1 with heap:=s1.heap.push { cls:=.type "tuple",data:=.seq [u1,u2].toArray } }:=I1.kept (t':=s1.toks) λb o e=>Heap.get?_push_of_some _ e
 rw[hw];refine wpAny_bind (wpAny_pure ?_);show wpAny (model X.prog X.w) X.A (do rule "assign.swapped-stores";let items <-unpackItems (.ref s1.heap.objs.size) 2 none;assignInOrder [λv=>bindName X.env y v,λv=>bindName X.env x v] items.reverse;pure Flow.next) _ _ _;refine wpAny_bind (wpAny_rule (wpAny_bind (unpackItems_tuple (items:=#[u1,u2]) (I.ok.hd hc) (IsTup.new s1.heap _) λh' hx'=>?_)));have I3:=I2.kept (h':=h') (t':=s1.toks) λb o e=>hx' b o (Nat.ne_of_lt (Heap.lt_size e)) e
 show wpAny _ _ (assignInOrder [λv=>bindName X.env y v,λv=>bindName X.env x v] [u2,u1] >>= λ_=>pure Flow.next) _ _ _;refine wpAny_bind (assignInOrder_cons (wpAny_bindName (bj I3 hN hj (.inl hy) rw' (λs2 I4=>?_) (.inr hy))));refine assignInOrder_cons (wpAny_bindName (bj I4 hN hi (.inl hx) rv (λs3 I5=>assignInOrder_nil (wpAny_pure ?_)) (.inr hx)));rw[set_comm _ _ (Ne.symm hij)] at I5;exact ⟨_,H1,I5,q1⟩
abbrev Iu (i j l:Nat)(ta:TA):TS:=λD U H=>ta U H λvs H1=>∃ v w x,vs=[v,w,x]/\D.nx (((U.set i (some v)).set j (some w)).set l (some x)) H1
def Ck {i j l:Nat}{x y z:Str}{a b c:Expr}{px py pz pt:Pos} {kt k2 pt2} (hc:X.calm=true)(hN:X.N.Nodup)(hi:X.N[i]? =some x)(hj:X.N[j]? =some y)(hl:X.N[l]? =some z)(hij:i≠j)(hil:i≠l)(hjl:j≠l)
  (hx:X.env.scope.names.lookup x=some .local) (hy:X.env.scope.names.lookup y=some .local) (hz:X.env.scope.names.lookup z=some .local) (ha:PA X [a,b,c] ta)
  (hw:swappedStores [.Tuple [.Name x px,.Name y py,.Name z pz] kt pt] (.Tuple [a,b,c] k2 pt2) X.env=pure (some [x,y,z]))
  (hs:swapsWithSole [.Tuple [.Name x px,.Name y py,.Name z pz] kt pt] (.Tuple [a,b,c] k2 pt2) pos.line X.env=pure false:=by rfl):
  PS X (.Assign [.Tuple [.Name x px,.Name y py,.Name z pz] kt pt] (.Tuple [a,b,c] k2 pt2) pos) (Iu i j l ta):=by
 intro Y s U H D I h;rw[exec_Assign_arm];refine wpAny_bind (wpAny_standAt ?_);rw[hs];refine wpAny_bind (wpAny_pure ?_);rw[if_neg (by decide)];refine wpAny_bind (Tuple_ (az (ha _ Y s U H _ I h) λus s1 ⟨vs,H1,I1,r1,q1⟩=>?_));obtain ⟨v,w,x',e1,q1⟩:=q1;subst e1;obtain ⟨u1,u2,u3,rfl,rv,rw',rx'⟩:∃ u1 u2 u3,us=[u1,u2,u3]/\RelV v u1/\RelV w u2/\RelV x' u3:=by
  cases r1 with
  |cons p q=>
   cases q with
   |cons p' q'=>
    cases q' with
    |cons p2 q2=>
     cases q2;exact ⟨_,_,_,rfl,p,p',p2⟩
 refine wpAny_newObj_type ?_ (by show 3<=sizeLine;decide);have I2:Inv X Y U H1 { s1 with heap:=s1.heap.push { cls:=.type "tuple",data:=.seq [u1,u2,u3].toArray } }:=I1.kept (t':=s1.toks) λb o e=>Heap.get?_push_of_some _ e
 rw[hw];refine wpAny_bind (wpAny_pure ?_);show wpAny (model X.prog X.w) X.A (do rule "assign.swapped-stores";let items <-unpackItems (.ref s1.heap.objs.size) 3 none;assignInOrder [λv=>bindName X.env z v,λv=>bindName X.env y v,λv=>bindName X.env x v] items.reverse;pure Flow.next) _ _ _;refine wpAny_bind (wpAny_rule (wpAny_bind (unpackItems_tuple (items:=#[u1,u2,u3]) (I.ok.hd hc) (IsTup.new s1.heap _) λh' hx'=>?_)));have I3:=I2.kept (h':=h') (t':=s1.toks) λb o e=>hx' b o (Nat.ne_of_lt (Heap.lt_size e)) e
 show wpAny _ _ (assignInOrder [λv=>bindName X.env z v,λv=>bindName X.env y v,λv=>bindName X.env x v] [u3,u2,u1] >>= λ_=>pure Flow.next) _ _ _;refine wpAny_bind (assignInOrder_cons (wpAny_bindName (bj I3 hN hl (.inl hz) rx' (λs2 I4=>?_) (.inr hz))));refine assignInOrder_cons (wpAny_bindName (bj I4 hN hj (.inl hy) rw' (λs3 I5=>?_) (.inr hy)));refine assignInOrder_cons (wpAny_bindName (bj I5 hN hi (.inl hx) rv (λs4 I6=>assignInOrder_nil (wpAny_pure ?_)) (.inr hx)));rw[set_comm _ _ (Ne.symm hij),set_comm _ _ (Ne.symm hil),set_comm _ _ (Ne.symm hjl)] at I6;exact ⟨_,H1,I6,q1⟩
abbrev t9 (K:W.Frag)(C:Addr):Bool:=findIn K (.ref C) "__ne__" ==some (some (.builtin "object.__ne__"))&&Ak K C
section
variable {A:Around}{s:Shared}{l C dx:Addr}{od:Option Obj}{K:W.Frag}{prog:Program}{w:World}{E:MC}
def Hj {Q:MA}(X:K.In s.heap)(I:InstAt s.heap l (instObj C dx) C od)(h1:findIn K (.ref C) "__eq__"=some (some (.builtin "object.__eq__"))) (h3:subIn K (.ref C) (.type "object")=some true) (h:Q (some (.bool true)) s):wpAny (model prog w) A (callSpecialIfBound? (.ref l) "__eq__" [.ref l]) Q E s:=by
 simp only[callSpecialIfBound?,bindSpecialIfBound?];refine wpAny_holding (wpAny_bind (wpAny_bind (wpAny_bind (I.type.here ((looks_findIn X h1).here ?_)))));simp only[PySem.F.cmp_object.eq.bind];have fin:wpAny (model prog w) A (call (.builtin "object.__eq__") ([.ref l]++[.ref l]) >>= λv=>pure (some v)) Q E s:=by
  refine wpAny_bind (wpAny_call (codeAny_call_builtin PySem.F.cmp_object.eq.plain PySem.F.cmpEntry_eq ?_));simp only[checkBuiltinCall,PySem.F.cmpKind_eq,PySem.F.cmpSplit_eq];refine wpAny_bind (wpAny_bind (I.type.here ((looks_subIn X h3).here ?_)));rw[if_neg (by simp)];have ha:=PySem.F.cmpArgs_eq (.ref l) (.ref l);have h0:(match Manifest.signature? "object.__eq__" with|some sig=>Bind.checkArgs "object.__eq__" sig { pos:=[Value.ref l]++[Value.ref l] }|x=>pure ())=pure ():=ha;refine wpAny_of_eq h0 ?_;exact objEq_entry_same (wpAny_pure h)
 refine wpAny_bind (wpAny_askSetting (wpAny_ite ?_))
 split
 ·exact wpAny_bind (wpAny_pure (wpAny_pure fin))
 ·exact wpAny_tryCatch (wpAny_bind (wpAny_pure (wpAny_pure fin)))
def Hl {Q:MA}(X:K.In s.heap)(I:InstAt s.heap l (instObj C dx) C od)(h1:findIn K (.ref C) "__eq__"=some (some (.builtin "object.__eq__"))) (h2:findIn K (.ref C) "__ne__"=some (some (.builtin "object.__ne__"))) (h3:subIn K (.ref C) (.type "object")=some true) (hu:A.units+2<cLine) (h:Q (some (.bool false)) s):wpAny (model prog w) A (callSpecialIfBound? (.ref l) "__ne__" [.ref l]) Q E s:=by
 simp only[callSpecialIfBound?,bindSpecialIfBound?];refine wpAny_holding (wpAny_bind (wpAny_bind (wpAny_bind (I.type.here ((looks_findIn X h2).here ?_)))));simp only[PySem.F.cmp_object.ne.bind];have fin:wpAny (model prog w) A (call (.builtin "object.__ne__") ([.ref l]++[.ref l]) >>= λv=>pure (some v)) Q E s:=by
  refine wpAny_bind (wpAny_call (codeAny_call_builtin PySem.F.cmp_object.ne.plain PySem.F.cmpEntry_ne ?_));simp only[checkBuiltinCall,PySem.F.cmpKind_ne,PySem.F.cmpSplit_ne];refine wpAny_bind (wpAny_bind (I.type.here ((looks_subIn X h3).here ?_)));rw[if_neg (by simp)];have ha:=PySem.F.cmpArgs_ne (.ref l) (.ref l);have h0:(match Manifest.signature? "object.__ne__" with|some sig=>Bind.checkArgs "object.__ne__" sig { pos:=[Value.ref l]++[Value.ref l] }|x=>pure ())=pure ():=ha;refine wpAny_of_eq h0 ?_;unfold Builtin.«object.__ne__»;show wpAny _ _ (pure (Value.ref l,[Value.ref l]) >>= _) _ _ _;refine wpAny_bind (wpAny_pure ?_);refine wpAny_bind (wpAny_cRoomFor (show A.units+1<cLine by omega) ?_);refine wpAny_bind (Hj X I h1 h3 ?_);refine wpAny_bind (wpAny_truthy_bool ?_);exact wpAny_pure (wpAny_pure h)
 refine wpAny_bind (wpAny_askSetting (wpAny_ite ?_))
 split
 ·exact wpAny_bind (wpAny_pure (wpAny_pure fin))
 ·exact wpAny_tryCatch (wpAny_bind (wpAny_pure (wpAny_pure fin)))
def wZ (X:K.In s.heap)(I:InstAt s.heap l (instObj C dx) C od)(hC:t9 K C=true)(hu:A.units+3<cLine):SeqAt.RcNeAt A s (.ref l) (.ref l) false:=λprog w E Q h=>by
 unfold t9 Ak at hC;simp only[Bool.and_eq_true,beq_iff_eq] at hC;obtain ⟨h0,⟨h1,h2⟩,h3⟩:=hC;simp only[richCompare,PySem.cmpInfo_NotEq]
 try with_reducible refine wpAny_holding ?_
 refine wpAny_bind (wpAny_cRoomFor nofun ?_);show wpAny _ _ (typeOf (Value.ref l) >>= _) _ _ _;refine wpAny_bind (I.type.here (wpAny_bind (I.type.here ?_)));rw[if_neg (by simp)];refine wpAny_bind (wpAny_pure ?_);rw[if_neg (by simp)];refine wpAny_bind ?_;simp only[tryCompare];refine wpAny_bind (Hl X I h1 h0 h3 nofun ?_);exact wpAny_pure (wpAny_pure h)
def Iv (d:Addr)(hd:(d ==sysModules)=false)(dd:Option Addr)(ep:Nat)(sl:Array (Option Value)):Meets (Builtin.«dict.__ne__» ⟨[.ref d,.ref d],[]⟩) (λ_ R s=>s.heap.get? d=some ⟨.type "dict",dd,.dict #[] ep,sl⟩/\R (.ok (.ret (.bool false))) s):=by
 intro prog w A R s hs;obtain ⟨h,g,dp,tt,os⟩:=s;obtain ⟨ho,q⟩:=hs;have hT:(⟨h,g,dp,tt,os⟩:Shared).TypeIs (.ref d) "dict":=⟨_,ho,rfl⟩;unfold Builtin.«dict.__ne__»
 k_delta "equality"
 unfold Builtin.Dict.dictSlotArgs;refine wpAny_bind (wpAny_bind (wpAny_notOrdered_dict hT ?_));show wpAny _ _ (pure (Value.ref d,[Value.ref d]) >>= _) _ _ _;refine wpAny_bind (wpAny_pure (wpAny_pure ?_));have hi:=PySem.F.kt_sub_dict;show wpAny _ _ (isInstance (.ref d) (.type "dict") >>= _) _ _ _;unfold Builtin.Dict.samePairs;simp only[Std.Legacy.Range.forIn_eq_forIn_range']
 repeat (any_goals first|assumption|wp_step)
def BK (hd:(d ==sysModules)=false){ep:Nat}(ho:s.heap.get? d=some ⟨.type "dict",dd,.dict #[] ep,sl⟩) (hu:A.units<cLine):SeqAt.RcNeAt A s (.ref d) (.ref d) false:=λprog w E Q h=>
 richCompare_meets_room (op:=.NotEq) ⟨_,ho,rfl⟩ ⟨_,ho,rfl⟩ PySem.F.slot_dict_ne PySem.F.entry_dict_ne (PySem.F.args_dict_ne_2 _ _) (Iv d hd dd ep sl) ⟨ho,show Value.bool false≠Value.notImplemented/\Q (.bool false) s from ⟨(λx=>nomatch x),h⟩⟩ hu
abbrev zj (K:W.Frag)(H:Hp)(a:Addr):Prop:=(∃ xs,aZ K H a xs)\/H a=some (.dK [])\/∃ C dx fs,H a=some (.ins C dx fs)/\t9 K C=true
def BC {a:Addr}(I:Inv X Y U H s)(h:zj X.K H a)(hu:A.units+3<cLine):SeqAt.RcNeAt A s (.ref a) (.ref a) false:=by
 rcases h with ⟨xs,h⟩|h|⟨C,dx,fs,h,hn⟩
 ·obtain ⟨ia,ra,pa,_⟩:=I.tuple h;have rc:=SeqAt.RcNeAt.tuples (A:=A) (e:=λ_=>true) (show s.heap.IsTuple a ia.toArray from pa) (show s.heap.IsTuple a ia.toArray from pa) nofun λj h1 h2=>SeqAt.EqAt.same _
  have e:((List.range (min ia.toArray.size ia.toArray.size)).all (λ_=>true)&&ia.toArray.size ==ia.toArray.size)=true:=by simp
  rw[e] at rc;exact rc
 ·obtain ⟨z,hd,vs,rel,dd⟩:=lh I.hok (.inl h);cases rel;obtain ⟨⟨c,d,da,sl⟩,es,ep,ho,hx,he,_,hp,_⟩:=dd;have e0:es=#[]:=by
   cases hp':es.toList with
   |nil=>exact Array.toList_eq_nil_iff.mp hp'
   |cons a b=>rw[hp'] at hp;cases hp
  subst e0;obtain rfl:da=.dict #[] ep:=he;obtain ⟨rfl,_⟩:=hx;exact BK hd ho nofun
 ·obtain ⟨mA,o,_⟩:=fE I.hok h;obtain ⟨od,i,_⟩:=o.look;exact wZ I.bQ i hn hu
end
end L2
namespace L2
open PySem PySem.Spec PyProof.Rows
inductive gE (K:W.Frag) (H:Hp):Nat->V->V->Bool->Prop where
 |flat {n:Nat}{x y:V}(fx:aR x=true) (fy:aR y=true):gE K H n x y (d4 x y)
 |same {n:Nat}(a:Addr):gE K H (n+1) (.ref a) (.ref a) true
 |ll {n:Nat}{a b:Addr}{xs ys:List V}{e:Nat->Bool}(ha:aS K H a xs) (hb:aS K H b ys) (hl:xs.length=ys.length) (h:∀ j x y,xs[j]? =some x->ys[j]? =some y->gE K H (n+1) x y (e j)):gE K H (n+2) (.ref a) (.ref b) ((List.range xs.length).all e)
 |tt {n:Nat}{a b:Addr}{xs ys:List V}{e:Nat->Bool}(ha:aZ K H a xs) (hb:aZ K H b ys) (h:∀ j x y,xs[j]? =some x->ys[j]? =some y->gE K H (n+1) x y (e j)):gE K H (n+2) (.ref a) (.ref b) ((List.range (min xs.length ys.length)).all e&&xs.length ==ys.length)
variable {A:Around}
section
variable {X:Cx}{Y:MD}{s:Shared}{U:St}{H:Hp}
def x6 {y x:V}{u v:Value}(ry:RelV y u)(rx:RelV x v)(fy:aR y=true)(fx:aR x=true):SeqAt.RcAt A s u v (d4 y x):=by
 cases y<;>first|cases fy|skip
 all_goals (cases x<;>first|cases fx|skip)
 all_goals (first|(obtain ⟨t,rfl⟩:=ry)|cases ry)
 all_goals (first|(obtain ⟨t',rfl⟩:=rx)|cases rx)
 ·exact SeqAt.RcAt.none_none
 ·exact SeqAt.RcAt.none_bool _
 ·exact SeqAt.RcAt.none_int _ _
 ·exact SeqAt.RcAt.none_str _ _
 ·exact SeqAt.RcAt.bool_none _
 ·exact SeqAt.RcAt.bool_bool _ _
 ·exact SeqAt.RcAt.bool_int _ _ _
 ·exact SeqAt.RcAt.bool_str _ _ _
 ·exact SeqAt.RcAt.int_none _ _
 ·exact SeqAt.RcAt.int_bool _ _ _
 ·exact SeqAt.RcAt.int_int _ _ _ _
 ·exact SeqAt.RcAt.int_str _ _ _ _
 ·exact SeqAt.RcAt.str_none _ _
 ·exact SeqAt.RcAt.str_bool _ _ _
 ·exact SeqAt.RcAt.str_int _ _ _ _
 ·exact SeqAt.RcAt.str_str _ _ _ _
def qh {y x:V}{u v:Value}(ry:RelV y u)(rx:RelV x v)(fy:aR y=true)(fx:aR x=true):SeqAt.RcNeAt A s u v (!d4 y x):=by
 cases y<;>first|cases fy|skip
 all_goals (cases x<;>first|cases fx|skip)
 all_goals (first|(obtain ⟨t,rfl⟩:=ry)|cases ry)
 all_goals (first|(obtain ⟨t',rfl⟩:=rx)|cases rx)
 ·exact SeqAt.RcNeAt.none_none
 ·exact SeqAt.RcNeAt.none_bool _
 ·exact SeqAt.RcNeAt.none_int _ _
 ·exact SeqAt.RcNeAt.none_str _ _
 ·exact SeqAt.RcNeAt.bool_none _
 ·exact SeqAt.RcNeAt.bool_bool _ _
 ·exact SeqAt.RcNeAt.bool_int _ _ _
 ·exact SeqAt.RcNeAt.bool_str _ _ _
 ·exact SeqAt.RcNeAt.int_none _ _
 ·exact SeqAt.RcNeAt.int_bool _ _ _
 ·exact SeqAt.RcNeAt.int_int _ _ _ _
 ·exact SeqAt.RcNeAt.int_str _ _ _ _
 ·exact SeqAt.RcNeAt.str_none _ _
 ·exact SeqAt.RcNeAt.str_bool _ _ _
 ·exact SeqAt.RcNeAt.str_int _ _ _ _
 ·exact SeqAt.RcNeAt.str_str _ _ _ _
def eqv_refl (I:Inv X Y U H s):∀ {n:Nat}{x y:V}{b:Bool},gE X.K H n x y b->x=y->b=true:=by
 intro n x y b h
 induction h with
 | @flat n x y fx fy=>
  rintro rfl;cases x<;>first|(exact absurd fx Bool.false_ne_true)|simp[d4]
 |same a=>intro _;rfl
 | @ll n a b xs ys e ha hb hl h ih=>
  intro z;cases z;have:=I.kE ha hb;subst this;rw[all_eq_true];intro j hj;have hj':j<xs.length:=mem_range.mp hj;exact ih j _ _ (getElem?_eq_getElem hj') (getElem?_eq_getElem hj') rfl
 | @tt n a b xs ys e ha hb h ih=>
  intro z;cases z;have:=I.iN ha hb;subst this;rw[beq_self_eq_true,Bool.and_true,Nat.min_self,all_eq_true];intro j hj;have hj':j<xs.length:=mem_range.mp hj;exact ih j _ _ (getElem?_eq_getElem hj') (getElem?_eq_getElem hj') rfl
def qU (I:Inv X Y U H s):∀ {n:Nat}{x y:V}{b:Bool},gE X.K H n x y b->∀ {A:Around}{u v:Value},A.units+n<cLine->RelV x u->RelV y v->
  (SeqAt.EqAt A s u v b)/\(x=y\/SeqAt.RcAt A s u v b/\SeqAt.RcNeAt A s u v (!b)):=by
 intro n x y b h
 induction h with
 |flat fx fy=>intro A u v _ rx ry;exact ⟨Av rx ry fx fy,.inr ⟨x6 rx ry fx fy,qh rx ry fx fy⟩⟩
 |same a=>intro A u v _ rx ry;cases rx;cases ry;exact ⟨SeqAt.EqAt.same _,.inl rfl⟩
 | @ll n a b xs ys e ha hb hl h ih=>
  intro A u v hu rx ry;have hall:=gE.ll ha hb hl h;cases rx;cases ry
  by_cases hab:a=b
  ·subst hab;have z:=eqv_refl I hall rfl;rw[z];exact ⟨SeqAt.EqAt.same _,.inl rfl⟩
  obtain ⟨ia,ra,pa,_⟩:=I.list ha;obtain ⟨ib,rb,pb,_⟩:=I.list hb;have e1:ia.toArray.size=xs.length:=by rw[size_toArray,ra.length]
  have e2:ib.toArray.size=ys.length:=by rw[size_toArray,rb.length]
  have he:∀ j (h1:j<ia.toArray.size) (h2:j<ib.toArray.size),SeqAt.EqAt A.in1 s ia.toArray[j] ib.toArray[j] (e j):=λj h1 h2=>by
   obtain ⟨x1,f1,r1⟩:=jX ra h1;obtain ⟨y1,f2,r2⟩:=jX rb h2;exact (ih j x1 y1 f1 f2 (by show A.units+1+(n+1)<cLine;omega) r1 r2).1
  have rc:=SeqAt.RcAt.lists (A:=A) pa.isList pb.isList (by rw[e1,e2,hl]) nofun he;have rn:=SeqAt.RcNeAt.lists (A:=A) pa.isList pb.isList (by rw[e1,e2,hl]) nofun he;rw[e1] at rc rn;exact ⟨SeqAt.EqAt.of_refs hab rc,.inr ⟨rc,rn⟩⟩
 | @tt n a b xs ys e ha hb h ih=>
  intro A u v hu rx ry;have hall:=gE.tt ha hb h;cases rx;cases ry
  by_cases hab:a=b
  ·subst hab;have z:=eqv_refl I hall rfl;rw[z];exact ⟨SeqAt.EqAt.same _,.inl rfl⟩
  obtain ⟨ia,ra,pa,_⟩:=I.tuple ha;obtain ⟨ib,rb,pb,_⟩:=I.tuple hb;have e1:ia.toArray.size=xs.length:=by rw[size_toArray,ra.length]
  have e2:ib.toArray.size=ys.length:=by rw[size_toArray,rb.length]
  have he:∀ j (h1:j<ia.toArray.size) (h2:j<ib.toArray.size),SeqAt.EqAt A.in1 s ia.toArray[j] ib.toArray[j] (e j):=λj h1 h2=>by
   obtain ⟨x1,f1,r1⟩:=jX ra h1;obtain ⟨y1,f2,r2⟩:=jX rb h2;exact (ih j x1 y1 f1 f2 (by show A.units+1+(n+1)<cLine;omega) r1 r2).1
  have rc:=SeqAt.RcAt.tuples (A:=A) (show s.heap.IsTuple a ia.toArray from pa) (show s.heap.IsTuple b ib.toArray from pb) nofun he;have rn:=SeqAt.RcNeAt.tuples (A:=A) (show s.heap.IsTuple a ia.toArray from pa) (show s.heap.IsTuple b ib.toArray from pb) nofun he;rw[e1,e2] at rc rn;exact ⟨SeqAt.EqAt.of_refs hab rc,.inr ⟨rc,rn⟩⟩
@[irreducible] noncomputable def dZ (K:W.Frag) (neg:Bool):R2:=λx y H Q=>∃ n b,gE K H n x y b/\n<=100/\(aR x=true\/x≠y\/(neg=false/\∃ a,x=.ref a/\tB K H a)\/(neg=true/\∃ a,x=.ref a/\zj K H a))/\Q (.bl (if neg then !b else b)) H
def Gw (hu:X.A.units+200<cLine):cR X (compareOp .Eq) (dZ X.K false):=by
 intro Y s U H x y v u Q I rx ry h;unfold dZ at h;obtain ⟨n,b,e,hn,hx,q⟩:=h;rcases (qU I e (A:=X.A) nofun rx ry).2 with z|⟨z,_⟩
 ·subst z;rcases hx with hx|hx
  ·have z:=eqv_refl I e rfl;have r:=x6 (s:=s) (A:=X.A) rx ry hx hx;have z2:=eqv_refl I (gE.flat (K:=X.K) (H:=H) (n:=0) hx hx) rfl;rw[z2] at r;rw[z] at q;exact PySem.EqBoolInt.of_rc r ⟨.bl true,H,I,rfl,q⟩
  rcases hx with hx|⟨_,a,rfl,hs⟩|⟨hx,_⟩
  ·exact absurd rfl hx
  ·have z:=eqv_refl I e rfl;rw[z] at q;cases rx;cases ry;exact PySem.EqBoolInt.of_rc (AM (A:=X.A) I hs nofun) ⟨.bl true,H,I,rfl,q⟩
  ·cases hx
 ·exact PySem.EqBoolInt.of_rc z ⟨.bl b,H,I,rfl,q⟩
def Gi (hu:X.A.units+200<cLine):cR X (compareOp .NotEq) (dZ X.K true):=by
 intro Y s U H x y v u Q I rx ry h;unfold dZ at h;obtain ⟨n,b,e,hn,hx,q⟩:=h;rcases (qU I e (A:=X.A) nofun rx ry).2 with z|⟨_,z⟩
 ·subst z;rcases hx with hx|hx
  ·have z:=eqv_refl I e rfl;have r:=qh (s:=s) (A:=X.A) rx ry hx hx;have z2:=eqv_refl I (gE.flat (K:=X.K) (H:=H) (n:=0) hx hx) rfl;rw[z2] at r;rw[z] at q;exact PySem.EqBoolInt.of_rcne r ⟨.bl false,H,I,rfl,q⟩
  rcases hx with hx|⟨hx,_⟩|⟨_,a,rfl,hs⟩
  ·exact absurd rfl hx
  ·cases hx
  ·have z:=eqv_refl I e rfl;rw[z] at q;cases rx;cases ry;exact PySem.EqBoolInt.of_rcne (BC (A:=X.A) I hs nofun) ⟨.bl false,H,I,rfl,q⟩
 ·exact PySem.EqBoolInt.of_rcne z ⟨.bl (!b),H,I,rfl,q⟩
end
@[irreducible] noncomputable def Br (K:W.Frag) (a b:Addr) (H:Hp) (Q:VK):Prop:=(∃ xs ys,H a=some (.lst xs)/\H b=some (.lst ys)/\xs.length+ys.length<=100000/\∀ p,H p=none->Q (.ref p) (upd H p (.lst (xs++ys))))\/False
@[irreducible] noncomputable def Bv (K:W.Frag) (a:Addr) (k:Int) (H:Hp) (Q:VK):Prop:=(∃ xs,H a=some (.lst xs)/\ -1000<=k/\k<=1000/\xs.length<=1000/\∀ p,H p=none->Q (.ref p) (upd H p (.lst (List.replicate k.toNat xs).flatten)))\/False
abbrev En (K:W.Frag):R2:=λx y H Q=>match x,y with
 | .int i,.int j=>Q (.int (i+j)) H
 | .str a,.str b=>a.length+b.length<=100000/\Q (.str (a++b)) H
 | .ref a,.ref b=>Br K a b H Q
 |_,_=>False
abbrev Fx:R2:=λx y H Q=>match x,y with
 | .int i,.int j=>Q (.int (i-j)) H
 |_,_=>False
abbrev FC (K:W.Frag):R2:=λx y H Q=>match x,y with
 | .int i,.int j=>rf i j/\Q (.int (i*j)) H
 | .ref a,.int k=>Bv K a k H Q
 |_,_=>False
abbrev Fw:R2:=λx y H Q=>match x,y with
 | .int i,.int j=>(0<j/\j<1073741824)/\Q (.int (i / j)) H
 |_,_=>False
abbrev FG:R2:=λx y H Q=>match x,y with
 | .int i,.int j=>0<j/\Q (.int (i % j)) H
 |_,_=>False
abbrev FJ:R2:=λx y H Q=>match x,y with
 | .int i,.int j=>AS i j/\Q (.int (i ^ j.toNat)) H
 |_,_=>False
abbrev F7 (K:W.Frag)(op:Operator):R2:=match op with
 | .Add=>En K
 | .Sub=>Fx
 | .Mult=>FC K
 | .FloorDiv=>Fw
 | .Mod=>FG
 | .Pow=>FJ
 |_=>λ_ _ _ _=>False
section
variable {X:Cx}
def kZ {n:Nat}(h:n<=1000000):n<=sizeLine:=by rw[sizeLine_eq];omega
def Gr (op:Operator):cR X (binaryOp op) (F7 X.K op):=by
 intro Y s U H x y v u Q I rx ry h;cases op with
 |Add=>
  have h':En X.K x y H Q:=h;unfold En at h'
  split at h'
  ·exact ET Y s U H _ _ v u Q I rx ry ⟨_,_,rfl,rfl,h'⟩
  ·exact sN Y s U H _ _ v u Q I rx ry ⟨_,_,rfl,rfl,kZ nofun,h'.2⟩
  ·unfold Br at h';rcases h' with ⟨xs,ys,ha,hb,hz,q⟩|h'
   ·exact EJ Y s U H _ _ v u Q I rx ry ⟨_,_,xs,ys,rfl,rfl,ha,hb,kZ nofun,q⟩
   ·exact h'.elim
  ·exact h'.elim
 |Sub=>
  have h':Fx x y H Q:=h;unfold Fx at h'
  split at h'
  ·exact Gk Y s U H _ _ v u Q I rx ry ⟨_,_,rfl,rfl,h'⟩
  ·exact h'.elim
 |Mult=>
  have h':FC X.K x y H Q:=h;unfold FC at h'
  split at h'
  ·exact Fl Y s U H _ _ v u Q I rx ry ⟨_,_,rfl,rfl,h'.1,h'.2⟩
  ·rename_i k;unfold Bv at h';rcases h' with ⟨xs,ha,h1,h2,hz,q⟩|h'
   ·refine FW Y s U H _ _ v u Q I rx ry ⟨_,k,xs,rfl,rfl,ha,by omega,by omega,kZ ?_,q⟩;have:xs.length*k.toNat<=1000*1000:=Nat.mul_le_mul hz nofun
    omega
   ·exact h'.elim
  ·exact h'.elim
 |FloorDiv=>
  have h':Fw x y H Q:=h;unfold Fw at h'
  split at h'
  ·exact Bb Y s U H _ _ v u Q I rx ry ⟨_,_,rfl,rfl,h'.1,h'.2⟩
  ·exact h'.elim
 |Mod=>
  have h':FG x y H Q:=h;unfold FG at h'
  split at h'
  ·exact Gb Y s U H _ _ v u Q I rx ry ⟨_,_,rfl,rfl,h'.1,h'.2⟩
  ·exact h'.elim
 |Pow=>
  have h':FJ x y H Q:=h;unfold FJ at h'
  split at h'
  ·exact FY Y s U H _ _ v u Q I rx ry ⟨_,_,rfl,rfl,h'.1,h'.2⟩
  ·exact h'.elim
 |_=>exact (show False from h).elim
abbrev vO (f:Int->Int->Bool):R2:=λx y H Q=>match x,y with
 | .int i,.int j=>Q (.bl (f i j)) H
 |_,_=>False
@[irreducible] noncomputable def Ih (K:W.Frag) (neg:Bool):R2:=λx y H Q=>match y with
 | .ref p=>(∃ xs,(aS K H p xs\/aZ K H p xs)/\aR x=true/\xs.all aR=true/\Q (.bl (if neg then !G2 x xs else G2 x xs)) H)\/False\/False
 | .str j=>False
 |_=>False
@[irreducible] noncomputable def AJ (neg:Bool):R2:=λx y H Q=>match y with
 | .non=>Q (.bl (if neg then !decide (x=.non) else decide (x=.non))) H
 | .bl b=>False
 | .ref b=>False
 |_=>False
abbrev km (K:W.Frag)(op:CmpOp):R2:=match op with
 | .Eq=>dZ K false
 | .NotEq=>dZ K true
 | .Lt=>vO λi j=>decide (i<j)
 | .LtE=>vO λi j=>decide (i<=j)
 | .Gt=>vO λi j=>decide (j<i)
 | .GtE=>vO λi j=>decide (j<=i)
 | .In=>Ih K false
 | .NotIn=>λ_ _ _ _=>False
 | .Is=>AJ false
 | .IsNot=>AJ true
def nN {f:Int->Int->Bool}{op:CmpOp}(ho:cR X (compareOp op) (BD λi j=>.bl (f i j))):cR X (compareOp op) (vO f):=by
 intro Y s U H x y v u Q I rx ry h;unfold vO at h
 split at h
 ·exact ho Y s U H _ _ v u Q I rx ry ⟨_,_,rfl,rfl,h⟩
 ·exact h.elim
def E0 (hu:X.A.units+200<cLine)(op:CmpOp):cR X (compareOp op) (km X.K op):=by
 cases op with
 |Eq=>exact Gw hu
 |NotEq=>exact Gi hu
 |Lt=>exact nN IM
 |LtE=>exact nN Hn
 |Gt=>exact nN IS
 |GtE=>exact nN HA
 |In=>
  intro Y s U H x y v u Q I rx ry h;have h':Ih X.K false x y H Q:=h;unfold Ih at h'
  split at h'
  ·rcases h' with ⟨xs,hx,f1,f2,q⟩|g|z
   ·exact vp Y s U H _ _ v u Q I rx ry ⟨_,xs,rfl,hx,f1,f2,q⟩
   ·exact g.elim
   ·exact z.elim
  ·exact h'.elim
  ·exact h'.elim
 |NotIn=>exact λ_ _ _ _ _ _ _ _ _ _ _ _ h=>(show False from h).elim
 |Is=>
  intro Y s U H x y v u Q I rx ry h;have h':AJ false x y H Q:=h;unfold AJ at h'
  split at h'
  ·exact Ez Y s U H _ _ v u Q I rx ry ⟨rfl,h'⟩
  ·exact h'.elim
  ·exact h'.elim
  ·exact h'.elim
 |IsNot=>
  intro Y s U H x y v u Q I rx ry h;have h':AJ true x y H Q:=h;unfold AJ at h'
  split at h'
  ·exact A3 Y s U H _ _ v u Q I rx ry ⟨rfl,h'⟩
  ·exact h'.elim
  ·exact h'.elim
  ·exact h'.elim
@[irreducible] noncomputable def rK (K:W.Frag):R2:=λx y H Q=>match x with
 | .ref p=>(∃ xs i v,y=.int i/\(aS K H p xs\/aZ K H p xs)/\lL xs i=some v/\Q v H)\/∃ v,Eo H p y (some v)/\Q v H
 | .str z=>False
 |_=>False
def tY (hu:X.A.units+200<cLine):IY X (rK X.K):=by
 intro value slice Y s U H x y v u Q I rx ry h hs;unfold rK at h
 split at h
 ·rcases h with ⟨xs,i,w,rfl,hx,ha,q⟩|⟨w,g,q⟩
  ·rcases hx with hx|hx
   ·exact Df value slice Y s U H _ _ v u Q I rx ry ⟨_,xs,i,w,rfl,rfl,hx,ha,q⟩ hs
   ·exact EC value slice Y s U H _ _ v u Q I rx ry ⟨_,xs,i,w,rfl,rfl,hx,ha,q⟩ hs
  ·cases rx;exact tail_any (qG I g) PySem.F.slot_dict_getitem.lookup (wU nofun I g ry λw' s3 I3 rw'=>⟨w,H,I3,rw',q⟩) hs
 ·exact h.elim
 ·exact h.elim
@[irreducible] noncomputable def g9:vA:=λo i v H Q=>match o with
 | .ref p=>(∃ xs k j,i=.int k/\H p=some (.lst xs)/\yc xs.length k=some j/\Q (upd H p (.lst (xs.set j v))))\/∃ H4,Hr H p i v H4/\Q H4
 |_=>False
def uu (hu:X.A.units+200<cLine):CI X g9:=by
 intro Y s U H o i v ov iv u Q I ro ri rv h;unfold g9 at h
 split at h
 ·rcases h with ⟨xs,k,j,rfl,hp,hj,q⟩|⟨H4,g,q⟩
  ·exact set_list Y s U H _ _ v ov iv u Q I ro ri rv ⟨_,xs,k,j,rfl,rfl,hp,hj,q⟩
  ·cases ro;exact vC nofun I g ri rv λs4 I4=>⟨H4,I4,q⟩
 ·exact h.elim
@[irreducible] noncomputable def DE (K:W.Frag):V->Option Int->Option Int->Hp->VK->Prop:=λx lo hi H Q=>match x with
 | .ref a=>(∃ xs,aS K H a xs/\∀ p,H p=none->Q (.ref p) (upd H p (.lst (fg xs lo hi))))\/False
 | .str z=>False
 |_=>False
def GX:JI X (DE X.K):=by
 intro Y s U H x v vl vu lo hi sl Q I rx hs pl pu h;unfold DE at h
 split at h
 ·rcases h with ⟨xs,hx,q⟩|h
  ·exact CN Y s U H _ v vl vu lo hi sl Q I rx hs pl pu ⟨_,xs,rfl,hx,q⟩
  ·exact h.elim
 ·exact h.elim
 ·exact h.elim
end
end L2
namespace L3
open PySem L2
set_option genInjectivity false
set_option genSizeOf false
inductive Bf where
 |len|list|tuple|int|str|min|max|abs|all|any|dict
 deriving DecidableEq
inductive Lm where
 |append|extend|insert|pop|clear|reverse|count
 deriving DecidableEq
inductive Cl where
 |own (c:Nat)|ty (n:String)
mutual
inductive Ex where
 |v (i:Nat)|int (i:Int)|bl (b:Bool)|non|str (x:Str)|gl (x:Str)
 |bin (op:Operator) (a b:Ex)|neg (a:Ex)|not (a:Ex)|and (a b:Ex)|or (a b:Ex)
 |cmp (op:CmpOp) (a b:Ex)|cmp2 (o1 o2:CmpOp) (a b c:Ex)|cmp3 (o1 o2 o3:CmpOp) (a b c d:Ex)
 |ife (c:Tx) (a b:Ex)|tup (es:f7)|lst (es:f7)|ix (a i:Ex)|sl (a:Ex) (lo hi:JL)
 |fld (a:Ex) (f:Str)|call (f:Nat) (es:f7)|meth (a:Ex) (m:Str) (es:f7)|lm (m:Lm) (a:Ex) (es:f7)|make (c:Nat) (es:f7)|bini (es:f7)|cini (c:Nat) (es:f7)
 |bf (b:Bf) (es:f7)|isi (a:Ex) (c:Cl)|lc (elt:Ex) (sel:List Nat) (it:Fz)|lci (elt:Ex) (c:Tx) (sel:List Nat) (it:Fz)|lct (elt:Ex) (n:Nat) (sel:List Nat) (it:Fz)|dnew|up (a:Ex)|dzip (a b:Ex)|isiT (a:Ex) (cs:List Nat)|vals (tp:Bool) (a:Ex)|uz (c:Nat)|disp (ks:List Str) (es:f7)
inductive Tx where
 |not (a:Tx)|and (a b:Tx)|or (a b:Tx)|cmp (op:CmpOp) (a b:Ex)|cmp2 (o1 o2:CmpOp) (a b c:Ex)|val (e:Ex)
inductive f7 where
 |nil|cons (e:Ex) (es:f7)
inductive JL where
 |no|yes (e:Ex)
inductive Fz where
 |rng1 (a:Ex)|rng2 (a b:Ex)|enm (a:Ex)|seq (a:Ex)|zip (a b:Ex)
end
inductive JE where
 |nm (i:Nat)|tp (is:List Nat)|nt (i:Nat) (is:List Nat)
mutual
inductive Sx where
 |asg (i:Nat) (e:Ex)|asgT (is:List Nat) (e:Ex)|par (is:List Nat) (es:f7)|sub (o i v:Ex)|fld (o:Ex) (f:Str) (v:Ex)
 |aug (i:Nat) (op:Operator) (e:Ex)|augS (o i:Ex) (op:Operator) (e:Ex)
 |ret (e:Ex)|retN|pass|brk|cont|expr (e:Ex)
 |ife (c:Tx) (a b:lQ)|whl (c:Tx) (b:lQ)|for (t:JE) (it:Fz) (b:lQ)|rais (e:Ex)|tryx (b:lQ) (hs:AG)
inductive lQ where
 |nil|cons (s:Sx) (r:lQ)
inductive AG where
 |nil|cons (c:Nat) (i:Nat) (b:lQ) (hs:AG)
end
structure aq where
 ps:List Str
 N:List Str
 dfl:List V
 body:lQ
/-- what of the text never changes. gfn,gcl:the global names of defs and classes,by number;gbl:built-in names that are not shadowed;gbi:classes of exceptions whose __init__ is the built-in one;na:class and name that no class of it has;
  me:class,name,def;ini:class,its __init__;oc,xc:plain classes,classes of exceptions;sub,subT:isinstance -/
structure Tab where
 fns:List aq
 gfn:List (Str×Nat)
 gcl:List (Str×Nat)
 gbl:List Str
 gbi:List Str
 na:List (Nat×Str)
 me:List ((Nat×Str)×Nat)
 ini:List (Nat×Nat)
 ini0:List Nat
 inip:List Nat
 oc:List Nat
 xc:List Nat
 sub:List ((Nat×Nat)×Bool)
 subT:List ((Nat×String)×Bool)
 subB:List ((String×String)×Bool)
 subO:List ((String×Nat)×Bool)
 cin:List (Nat×Nat):=[]
structure Rt where
 K:W.Frag
 fad:Nat->Addr
 cad:Nat->Addr
 gl:Str->Option V
structure Gx where
 T:Tab
 R:Rt
 Ψ:Nat->Sp
 cm:Bool
@[irreducible] noncomputable def iz (c:Bool) (A B:Prop):Prop:=match c with
 |true=>A
 |false=>B
def cP (c:Bool)(A B:Prop):iz c A B=(if c=true then A else B):=by unfold iz;cases c<;>rfl
abbrev Er (K:W.Frag)(x:V)(H:Hp)(Q:Bool->Hp->Prop):Prop:=match x with
 | .bl k=>Q k H
 |y=>∃ k,AN K y H k/\Q k H
abbrev tyName:V->Hp->Option String
 | .non,_=>some "NoneType"
 | .bl _,_=>some "bool"
 | .int _,_=>some "int"
 | .str _,_=>some "str"
 | .ref a,H=>match H a with
  |some (.lst _)=>some "list"
  |some (.tup _)=>some "tuple"
  |some (.dK _)=>some "dict"
  |_=>none
 |_,_=>none
@[irreducible] noncomputable def lX (G:Gx) (b:Bf) (vs:List V) (H:Hp) (Q:VK):Prop:=match b with
 | .len=>∃ x n,vs=[x]/\Ho G.R.K x H n/\Q (.int n) H
 | .list=>∃ p ys,vs=[.ref p]/\(aS G.R.K H p ys\/aZ G.R.K H p ys)/\∀ l,H l=none->Q (.ref l) (upd H l (.lst ys))
 | .tuple=>∃ p ys,vs=[.ref p]/\((aS G.R.K H p ys/\∀ l,H l=none->Q (.ref l) (upd H l (.tup ys)))\/(aZ G.R.K H p ys/\Q (.ref p) H))
 | .int=>(∃ i,vs=[.int i]/\Q (.int i) H)\/∃ k,vs=[.bl k]/\Q (.int (if k then 1 else 0)) H
 | .str=>(∃ i,vs=[.int i]/\i.natAbs.log2<1920/\Q (.str (toString i)) H)\/∃ z,vs=[.str z]/\Q (.str z) H
 | .min=>G.cm=true/\((∃ i j,vs=[.int i,.int j]/\Q (.int (if j<i then j else i)) H)\/False)
 | .max=>G.cm=true/\∃ i j,vs=[.int i,.int j]/\Q (.int (if j>i then j else i)) H
 | .abs=>False
 | .all=>G.cm=true/\∃ p,∃ bs:List Bool,vs=[.ref p]/\aS G.R.K H p (bs.map V.bl)/\Q (.bl (bs.all id)) H
 | .any=>False
 | .dict=>∃ p kvs,vs=[.ref p]/\H p=some (.dK kvs)/\∀ l,H l=none->Q (.ref l) (upd H l (.dK kvs))
@[irreducible] noncomputable def EO (m:Lm) (p:Addr) (xs:List V) (vs:List V) (H:Hp) (Q:VK):Prop:=match m with
 | .append=>∃ y,vs=[y]/\xs.length<=10000/\Q .non (upd H p (.lst (xs++[y])))
 | .extend=>∃ b zs,vs=[.ref b]/\H b=some (.lst zs)/\xs.length+zs.length<=10000/\Q .non (upd H p (.lst (xs++zs)))
 | .insert=>∃ i y,vs=[.int i,y]/\0<=i/\i<=xs.length/\xs.length<=10000/\Q .non (upd H p (.lst (xs.take i.toNat++y::xs.drop i.toNat)))
 | .pop=>False
 | .clear=>False
 | .reverse=>False
 | .count=>False
abbrev dflt (G:Gx)(f n:Nat):List V:=match G.T.fns[f]? with
 |some d=>d.dfl.drop (n+d.dfl.length-d.ps.length)
 |none=>[]
abbrev f7.len:f7->Nat
 | .nil=>0
 | .cons _ es=>es.len+1
abbrev ux (G:Gx)(H:Hp)(a:Addr)(i:Nat):Prop:=(G.T.oc.contains i=true/\∃ dx fs,H a=some (.ins (G.R.cad i) dx fs))\/(G.T.xc.contains i=true/\∃ dx fs fr,H a=some (.exc (G.R.cad i) dx fs fr))
@[irreducible] noncomputable def g7 (G:Gx) (c:Cl) (x:V) (H:Hp) (Q:VK):Prop:=match c with
 | .ty n=>(∃ t b,tyName x H=some t/\G.T.subB.lookup (t,n)=some b/\Q (.bl b) H)\/∃ a i b,x=.ref a/\ux G H a i/\G.T.subT.lookup (i,n)=some b/\Q (.bl b) H
 | .own j=>(∃ t b,tyName x H=some t/\G.T.subO.lookup (t,j)=some b/\Q (.bl b) H)\/∃ a i b,x=.ref a/\ux G H a i/\G.T.sub.lookup (i,j)=some b/\Q (.bl b) H
abbrev anyS (G:Gx)(i:Nat):List Nat->Option Bool
 | []=>some false
 |c::r=>match G.T.sub.lookup (i,c) with
  |some true=>some true
  |some false=>anyS G i r
  |none=>none
abbrev Di (G:Gx)(t:String):List Nat->Option Bool
 | []=>some false
 |c::r=>match G.T.subO.lookup (t,c) with
  |some true=>some true
  |some false=>Di G t r
  |none=>none
@[irreducible] noncomputable def qd (G:Gx) (cs:List Nat) (x:V) (H:Hp) (Q:VK):Prop:=(∃ t b,tyName x H=some t/\Di G t cs=some b/\Q (.bl b) H)\/∃ a i b,x=.ref a/\ux G H a i/\anyS G i cs=some b/\Q (.bl b) H
@[irreducible] noncomputable def sZ (G:Gx) (f:Str) (x:V) (H:Hp) (Q:VK):Prop:=∃ a i fs v,x=.ref a/\((G.T.oc.contains i=true/\∃ dx,H a=some (.ins (G.R.cad i) dx fs))\/(G.T.xc.contains i=true/\∃ dx fr,H a=some (.exc (G.R.cad i) (some dx) fs fr)))/\
 G.T.na.contains (i,f)=true/\fs.lookup f=some v/\Q v H
@[irreducible] noncomputable def C9 (G:Gx) (f:Str) (x y:V) (H:Hp) (Q:Hp->Prop):Prop:=∃ a i,x=.ref a/\G.T.na.contains (i,f)=true/\
 ((∃ dx fs,G.T.oc.contains i=true/\H a=some (.ins (G.R.cad i) dx fs)/\fs.length<1000/\Q (upd H a (.ins (G.R.cad i) dx (cT f y fs))))\/
  (∃ d fs fr,G.T.xc.contains i=true/\H a=some (.exc (G.R.cad i) (some d) fs fr)/\fs.length<1000/\Q (upd H a (.exc (G.R.cad i) (some d) (cT f y fs) fr)))\/
  (∃ fr,G.T.xc.contains i=true/\H a=some (.exc (G.R.cad i) none [] fr)/\∀ d,H d=none->Q (upd (upd H d (.own a)) a (.exc (G.R.cad i) (some d) [(f,y)] fr))))
abbrev JH (op:Operator)(x y:V)(H:Hp)(Q:VK):Prop:=match op,x,y with
 | .Add,.int i,.int j=>Q (.int (i+j)) H
 | .Sub,.int i,.int j=>Q (.int (i-j)) H
 |_,_,_=>False
@[irreducible] noncomputable def zu (K:W.Frag) (x y:V) (H:Hp) (Q:VK):Prop:=match x,y with
 | .ref p,.int i=>∃ xs v,aS K H p xs/\0<=i/\xs[i.toNat]? =some v/\Q v H
 |_,_=>False
abbrev wu (U:St):List Nat->List V->St
 |i::is,x::xs=>wu (U.set i (some x)) is xs
 |_,_=>U
@[irreducible] noncomputable def LJ (x:V) (H:Hp) (Q:VK):Prop:=∃ z,x=.str z/\z.length<=100000/\∀ z':Str,z'.length<=3*z.length->Q (.str z') H
@[irreducible] noncomputable def B0 (xs:List V) (H:Hp) (Q:VK):Prop:=xs.length<=10000/\∀ p,H p=none->Q (.ref p) (upd H p (.lst xs))
@[irreducible] noncomputable def g6 (xs:List V) (H:Hp) (Q:VK):Prop:=xs.length<=10000/\∀ p,H p=none->Q (.ref p) (upd H p (.tup xs))
@[irreducible] noncomputable def newD (H:Hp) (Q:VK):Prop:=∀ p,H p=none->Q (.ref p) (upd H p (.dK []))
@[irreducible] noncomputable def Be (l:Addr) (H:Hp) (R:It->Hp->Prop):Prop:=(∃ xs,H l=some (.lst xs))/\R (HQ l) H
@[irreducible] noncomputable def sF (K:W.Frag) (p:Addr) (H:Hp) (R:It->Hp->Prop):Prop:=((∃ xs,aS K H p xs)/\R (G9 K p) H)\/((∃ xs,aZ K H p xs)/\R (HH K p) H)
@[irreducible] noncomputable def CC (K:W.Frag) (x y:V) (H:Hp) (R:It->Hp->Prop):Prop:=Iq K x y H R
@[irreducible] noncomputable def p6 (tp:Bool) (x:V) (H:Hp) (Q:VK):Prop:=DC tp x H Q
@[irreducible] noncomputable def yf (C:Addr) (H:Hp) (Q:VK):Prop:=∀ x dx,H x=none->H dx=none->dx≠x->Q (.ref x) (upd (upd H dx (.own x)) x (.ins C dx []))
@[irreducible] noncomputable def II (K:W.Frag) (x y:V) (H:Hp) (Q:VK):Prop:=Ll K x y H Q
@[irreducible] noncomputable def xT (te:TE) (J:It) (σ₀:St) (H1:Hp) (Q:VK):Prop:=LC te J σ₀ H1 Q
def xJ: @xT= @LC:=by
 funext te J U H Q
 unfold xT
 rfl
@[irreducible] noncomputable def JT (tc:TT) (te:TE) (J:It) (σ₀:St) (H1:Hp) (Q:VK):Prop:=LCg (gA 0) tc te J σ₀ H1 Q
def FA: @JT= @LCg (gA 0):=by
 funext tc te J U H Q
 unfold JT
 rfl
abbrev gl (is:List Nat):B9:=λvs U H Q=>vs.length=is.length/\Q (wu U is vs) H
@[irreducible] noncomputable def LCt (K:W.Frag) (n:Nat) (te:TE) (J:It) (σ₀:St) (H1:Hp) (Q:VK):Prop:=LCg (Bq K n (gl (List.range n))) yes te J σ₀ H1 Q
def Af {K:W.Frag}{n:Nat}:LCt K n=LCg (Bq K n (gl (List.range n))) yes:=by
 funext te J U H Q
 unfold LCt
 rfl
abbrev G7:List Str->List V->List (Key×V)
 |k::ks,x::xs=>(.inr k,x)::G7 ks xs
 |_,_=>[]
@[irreducible] noncomputable def vm (ks:List Str) (p:Addr) (xs:List V) (H:Hp) (Q:VK):Prop:=H p=some (.dK [])/\Q (.ref p) (upd H p (.dK (iO [] (G7 ks xs))))
mutual
noncomputable def wE (G:Gx):Ex->St->Hp->VK->XK->Prop
 | .v i,U,H,Q,_=>match U[i]? with
  |some (some x)=>Q x H
  |_=>False
 | .int i,_,H,Q,_=>Q (.int i) H
 | .bl b,_,H,Q,_=>Q (.bl b) H
 | .non,_,H,Q,_=>Q .non H
 | .str x,_,H,Q,_=>Q (.str x) H
 | .gl x,_,H,Q,_=>match G.R.gl x with
  |some v=>Q v H
  |none=>False
 | .bin op a b,U,H,Q,E=>wE G a U H (λx H1=>wE G b U H1 (λy H2=>F7 G.R.K op x y H2 Q) E) E
 | .neg a,U,H,Q,E=>wE G a U H (λx H1=>match x with| .int i=>Q (.int (-i)) H1|_=>False) E
 | .not a,U,H,Q,E=>wE G a U H (λx H1=>match x with| .bl c=>Q (.bl (!c)) H1|_=>False) E
 | .and a b,U,H,Q,E=>wE G a U H (λx H1=>match x with| .bl c=>iz c (wE G b U H1 Q E) (Q (.bl false) H1)|_=>False) E
 | .or a b,U,H,Q,E=>wE G a U H (λx H1=>match x with| .bl c=>iz c (Q (.bl true) H1) (wE G b U H1 Q E)|_=>False) E
 | .cmp op a b,U,H,Q,E=>wE G a U H (λx H1=>wE G b U H1 (λy H2=>km G.R.K op x y H2 Q) E) E
 | .cmp2 o1 o2 a b c,U,H,Q,E=>wE G a U H (λx H1=>wE G b U H1 (λy H2=>km G.R.K o1 x y H2 λz H3=>match z with| .bl k=>iz k (wE G c U H3 (λw H4=>km G.R.K o2 y w H4 Q) E) (Q (.bl false) H3)|_=>False) E) E
 | .cmp3 o1 o2 o3 a b c d,U,H,Q,E=>wE G a U H (λx H1=>wE G b U H1 (λy H2=>km G.R.K o1 x y H2 λz H3=>match z with| .bl k=>iz k (wE G c U H3 (λw H4=>km G.R.K o2 y w H4 λz' H5=>match z' with| .bl k'=>iz k' (wE G d U H5 (λw2 H6=>km G.R.K o3 w w2 H6 Q) E) (Q (.bl false) H5)|_=>False) E) (Q (.bl false) H3)|_=>False) E) E
 | .ife c a b,U,H,Q,E=>wT G c U H (λk H1=>iz k (wE G a U H1 Q E) (wE G b U H1 Q E)) E
 | .tup es,U,H,Q,E=>wEs G es U H (λxs H1=>g6 xs H1 Q) E
 | .lst es,U,H,Q,E=>wEs G es U H (λxs H1=>B0 xs H1 Q) E
 | .ix a i,U,H,Q,E=>wE G a U H (λx H1=>wE G i U H1 (λy H2=>rK G.R.K x y H2 Q) E) E
 | .sl a lo hi,U,H,Q,E=>wE G a U H (λx H1=>wO G lo U H1 (λl H2=>wO G hi U H2 (λu H3=>DE G.R.K x l u H3 Q) E) E) E
 | .fld a f,U,H,Q,E=>wE G a U H (λx H1=>sZ G f x H1 Q) E
 | .call f es,U,H,Q,E=>G.cm=true/\wEs G es U H (λvs H1=>G.Ψ f (vs++dflt G f es.len) H1 Q E) E
 | .meth a m es,U,H,Q,E=>G.cm=true/\wE G a U H (λx H1=>∃ p i dx fs f,x=.ref p/\H1 p=some (.ins (G.R.cad i) dx fs)/\fs.lookup m=none/\G.T.me.lookup (i,m)=some f/\
   wEs G es U H1 (λvs H2=>G.Ψ f (x::(vs++dflt G f (es.len+1))) H2 Q E) E) E
 | .lm m a es,U,H,Q,E=>wE G a U H (λx H1=>∃ p xs0,x=.ref p/\H1 p=some (.lst xs0)/\wEs G es U H1 (λvs H2=>∃ xs,H2 p=some (.lst xs)/\EO m p xs vs H2 Q) E) E
 | .make c es,U,H,Q,E=>G.cm=true/\match G.T.ini.lookup c with
  |none=>G.T.ini0.contains c=true/\wEs G es U H (λvs H1=>vs.length=1/\∀ x,H1 x=none->Q (.ref x) (upd H1 x (.exc (G.R.cad c) none [] true))) E
  |some f=>if G.T.xc.contains c=true then wEs G es U H (λvs H1=>vs.length<=1000/\∀ x,H1 x=none->G.Ψ f (.ref x::(vs++dflt G f (es.len+1))) (upd H1 x (.exc (G.R.cad c) none [] true)) (λv H2=>v=.non/\Q (.ref x) H2) E) E
   else wEs G es U H (λvs H1=>∀ x dx,H1 x=none->H1 dx=none->dx≠x->G.Ψ f (.ref x::(vs++dflt G f (es.len+1))) (upd (upd H1 dx (.own x)) x (.ins (G.R.cad c) dx [])) (λv H2=>v=.non/\Q (.ref x) H2) E) E
 | .bini es,U,H,Q,E=>wEs G es U H (λvs H1=>∃ a i dx fs fr v,vs=[.ref a,v]/\H1 a=some (.exc (G.R.cad i) dx fs fr)/\G.T.xc.contains i=true/\Q .non H1) E
 | .cini c es,U,H,Q,E=>G.cm=true/\match G.T.cin.lookup c with
  |some f=>wEs G es U H (λvs H1=>G.Ψ f (vs++dflt G f es.len) H1 Q E) E
  |none=>False
 | .bf b es,U,H,Q,E=>wEs G es U H (λvs H1=>lX G b vs H1 Q) E
 | .isi a c,U,H,Q,E=>wE G a U H (λx H1=>g7 G c x H1 Q) E
 | .lc elt sel it,U,H,Q,E=>G.cm=true/\wI G it U H (λJ H1=>xT (λσ' H' Q'=>wE G elt σ' H' Q' (λ_ _=>False)) J (none::gf U sel) H1 Q) E
 | .lci elt c sel it,U,H,Q,E=>G.cm=true/\wI G it U H (λJ H1=>JT (λσ' H' Q'=>wT G c σ' H' Q' (λ_ _=>False)) (λσ' H' Q'=>wE G elt σ' H' Q' (λ_ _=>False)) J (none::gf U sel) H1 Q) E
 | .lct elt n sel it,U,H,Q,E=>G.cm=true/\wI G it U H (λJ H1=>LCt G.R.K n (λσ' H' Q'=>wE G elt σ' H' Q' (λ_ _=>False)) J (List.replicate n none++gf U sel) H1 Q) E
 | .dnew,_,H,Q,_=>newD H Q
 | .up a,U,H,Q,E=>wE G a U H (λx H1=>LJ x H1 Q) E
 | .isiT a cs,U,H,Q,E=>wE G a U H (λx H1=>∀ p,H1 p=none->qd G cs x (upd H1 p (.tup (cs.map λc=>.ref (G.R.cad c)))) Q) E
 | .uz c,_,H,Q,_=>yf (G.R.cad c) H Q
 | .disp ks es,U,H,Q,E=>∀ p,H p=none->wEs G es U (upd H p (.dK [])) (λxs H2=>vm ks p xs H2 Q) E
 | .vals tp a,U,H,Q,E=>G.cm=true/\wE G a U H (λx H1=>p6 tp x H1 Q) E
 | .dzip a b,U,H,Q,E=>G.cm=true/\wE G a U H (λx H1=>wE G b U H1 (λy H2=>II G.R.K x y H2 Q) E) E
noncomputable def wT (G:Gx):Tx->St->Hp->(Bool->Hp->Prop)->XK->Prop
 | .not a,U,H,Q,E=>wT G a U H (λc H1=>Q (!c) H1) E
 | .and a b,U,H,Q,E=>wT G a U H (λc H1=>iz c (wT G b U H1 Q E) (Q false H1)) E
 | .or a b,U,H,Q,E=>wT G a U H (λc H1=>iz c (Q true H1) (wT G b U H1 Q E)) E
 | .cmp op a b,U,H,Q,E=>wE G a U H (λx H1=>wE G b U H1 (λy H2=>km G.R.K op x y H2 λz H3=>match z with| .bl k=>Q k H3|_=>False) E) E
 | .cmp2 o1 o2 a b c,U,H,Q,E=>wE G a U H (λx H1=>wE G b U H1 (λy H2=>km G.R.K o1 x y H2 λz H3=>match z with| .bl k=>iz k (wE G c U H3 (λw H4=>km G.R.K o2 y w H4 λz H5=>match z with| .bl k=>Q k H5|_=>False) E) (Q false H3)|_=>False) E) E
 | .val e,U,H,Q,E=>wE G e U H (λx H1=>Er G.R.K x H1 Q) E
noncomputable def wEs (G:Gx):f7->St->Hp->(List V->Hp->Prop)->XK->Prop
 | .nil,_,H,Q,_=>Q [] H
 | .cons e es,U,H,Q,E=>wE G e U H (λx H1=>wEs G es U H1 (λxs H2=>Q (x::xs) H2) E) E
noncomputable def wO (G:Gx):JL->St->Hp->(Option Int->Hp->Prop)->XK->Prop
 | .no,_,H,Q,_=>Q none H
 | .yes e,U,H,Q,E=>wE G e U H (λx H1=>match x with| .int i=>Q (some i) H1|_=>False) E
noncomputable def wI (G:Gx):Fz->St->Hp->(It->Hp->Prop)->XK->Prop
 | .rng1 a,U,H,R,E=>wE G a U H (λx H1=>match x with| .int j=>-(2 ^ 62)<=j/\j<2 ^ 62/\R (GO 0 j.toNat) H1|_=>False) E
 | .rng2 a b,U,H,R,E=>wE G a U H (λx H1=>wE G b U H1 (λy H2=>match x,y with| .int i,.int j=>(-(2 ^ 62)<=i/\i<2 ^ 62/\ -(2 ^ 62)<=j/\j<2 ^ 62)/\R (GO i (j-i).toNat) H2|_,_=>False) E) E
 | .enm a,U,H,R,E=>wE G a U H (λx H1=>match x with| .ref l=>Be l H1 R|_=>False) E
 | .seq a,U,H,R,E=>wE G a U H (λx H1=>match x with| .ref p=>sF G.R.K p H1 R|_=>False) E
 | .zip a b,U,H,R,E=>wE G a U H (λx H1=>wE G b U H1 (λy H2=>CC G.R.K x y H2 R) E) E
end
abbrev Ko (D:Ends)(f:St->Hp->Prop):Ends:={ D with nx:=f }
abbrev DB (D:Ends)(N:St->Hp->Prop):Ends:={ D with nx:=N,ct:=N,bk:=D.nx }
abbrev LU (D:Ends)(i:Nat):Ends:={ nx:=λσ' H'=>D.nx (σ'.set i none) H',rt:=D.rt,bk:=λσ' H'=>D.bk (σ'.set i none) H',ct:=λσ' H'=>D.ct (σ'.set i none) H' }
abbrev wG (U:St)(t:JE)(K:W.Frag)(x:V)(H:Hp)(Q:St->Prop):Prop:=match t with
 | .nm i=>Q (U.set i (some x))
 | .tp is=>∃ a xs,x=.ref a/\(aZ K H a xs\/aS K H a xs)/\xs.length=is.length/\Q (wu U is xs)
 | .nt i is=>∃ a y b ys,x=.ref a/\aZ K H a [y,.ref b]/\aZ K H b ys/\ys.length=is.length/\Q (wu (U.set i (some y)) is ys)
@[irreducible] noncomputable def l6 (J:It) (D:Ends) (F:(St->Hp->Prop)->V->St->Hp->Prop) (U:St) (H1:Hp):Prop:=∃ W:Nat->Nat->St->Hp->Prop,(∃ m,W 0 m U H1)/\∀ i m U H,W i m U H->
 (J.stop i H/\D.nx U H)\/(J.go i H/\∃ N:St->Hp->Prop,(∀ σ' H',N σ' H'->∃ m',m'<m/\W (i+1) m' σ' H')/\∀ x H',J.yld i H x H'->F N x U H')
mutual
noncomputable def wS:Sx->Gx->Ends->(St->XK)->St->Hp->Prop
 | .asg i e,G,D,E,U,H=>wE G e U H (λx H1=>D.nx (U.set i (some x)) H1) (E U)
 | .asgT is e,G,D,E,U,H=>G.cm=true/\wE G e U H (λx H1=>wG U (.tp is) G.R.K x H1 λσ1=>D.nx σ1 H1) (E U)
 | .par is es,G,D,E,U,H=>G.cm=true/\wEs G es U H (λxs H1=>xs.length=is.length/\D.nx (wu U is xs) H1) (E U)
 | .sub o i v,G,D,E,U,H=>wE G v U H (λy H1=>wE G o U H1 (λov H2=>wE G i U H2 (λiv H3=>g9 ov iv y H3 (λH4=>D.nx U H4)) (E U)) (E U)) (E U)
 | .fld o f v,G,D,E,U,H=>wE G v U H (λy H1=>wE G o U H1 (λx H2=>C9 G f x y H2 (λH3=>D.nx U H3)) (E U)) (E U)
 | .aug i op e,G,D,E,U,H=>(match U[i]? with|some (some x)=>wE G e U H (λy H1=>JH op x y H1 λz H2=>D.nx (U.set i (some z)) H2) (E U)|_=>False)
 | .augS o i op e,G,D,E,U,H=>wE G o U H (λov H1=>wE G i U H1 (λiv H2=>zu G.R.K ov iv H2 (λx H3=>wE G e U H3 (λy H4=>JH op x y H4 (λz H5=>g9 ov iv z H5 (λH6=>D.nx U H6))) (E U))) (E U)) (E U)
 | .ret e,G,D,E,U,H=>wE G e U H D.rt (E U)
 | .retN,_,D,_,_,H=>D.rt .non H
 | .pass,_,D,_,U,H=>D.nx U H
 | .brk,_,D,_,U,H=>D.bk U H
 | .cont,_,D,_,U,H=>D.ct U H
 | .expr e,G,D,E,U,H=>wE G e U H (λ_ H1=>D.nx U H1) (E U)
 | .ife c a b,G,D,E,U,H=>wT G c U H (λk H1=>iz k (wB a G D E U H1) (wB b G D E U H1)) (E U)
 | .whl c b,G,D,E,U,H=>∃ W:Nat->St->Hp->Prop,(∃ m,W m U H)/\∀ m U H,W m U H->wT G c U H (λk H1=>iz k (∃ N:St->Hp->Prop,(∀ σ' H',N σ' H'->∃ m',m'<m/\W m' σ' H')/\wB b G (DB D N) E U H1) (D.nx U H1)) (E U)
 | .for t it b,G,D,E,U,H=>G.cm=true/\wI G it U H (λJ H1=>l6 J D (λN x U H'=>wG U t G.R.K x H' λσ2=>wB b G (DB D N) E σ2 H') U H1) (E U)
 | .rais e,G,_,E,U,H=>G.cm=true/\wE G e U H (λv H1=>∃ a i dx fs,v=.ref a/\H1 a=some (.exc (G.R.cad i) dx fs true)/\G.T.xc.contains i=true/\E U a (upd H1 a (.exc (G.R.cad i) dx fs false))) (E U)
 | .tryx b hs,G,D,_,U,H=>G.cm=true/\wB b G D (λσ' e H'=>wH hs G D σ' e H') U H
noncomputable def wB:lQ->Gx->Ends->(St->XK)->St->Hp->Prop
 | .nil,_,D,_,U,H=>D.nx U H
 | .cons s r,G,D,E,U,H=>wS s G (Ko D λσ1 H1=>wB r G D E σ1 H1) E U H
noncomputable def wH:AG->Gx->Ends->St->Addr->Hp->Prop
 | .nil,_,_,_,_,_=>False
 | .cons c i b hs,G,D,U,e,H=>∃ j dx fs k,H e=some (.exc (G.R.cad j) dx fs false)/\G.T.xc.contains j=true/\G.T.sub.lookup (j,c)=some k/\
   iz k (wB b { G with cm:=false } (LU D i) (λ_ _ _=>False) (U.set i (some (.ref e))) H)
    (wH hs G D U e H)
end
end L3
namespace L3
open PySem PySem.Spec L2 PyProof.Rows
structure Sn where
 T:Tab
 sc:Scope
 N:List Str
abbrev Sn.mK (S:Sn)(x:Str):Bool:=decide (S.sc.names.lookup x=some .globalImplicit)&& !(x ==("__debug__":Str))
abbrev Sn.GC (S:Sn)(x:Str):Bool:=(decide (S.sc.names.lookup x=some .local)||decide (S.sc.names.lookup x=some .cell)||decide (S.sc.names.lookup x=some .free))&& !(x ==("__debug__":Str))&& !(x ==("__classdict__":Str))
abbrev Sn.loc (S:Sn)(i:Nat)(x:Str):Bool:=decide (S.N[i]? =some x)&&(decide (S.sc.names.lookup x=some .local)||decide (S.sc.names.lookup x=some .cell))
abbrev rY:Expr->Bool
 | .ListComp .. | .SetComp .. | .DictComp ..=>false
 |_=>true
abbrev cI:Expr->Bool
 | .Set ..=>false
 |_=>true
abbrev fv:Expr->Bool
 | .Slice ..=>false
 |_=>true
abbrev fD:Expr->Bool
 | .Call (.Name _ _) [] [] _=>false
 |_=>true
abbrev plainT:Expr->Bool
 | .UnaryOp .Not _ _| .BoolOp .. | .IfExp .. | .Compare ..=>false
 |_=>true
abbrev Am:Bf->String
 | .len=>"len"| .list=>"list"| .tuple=>"tuple"| .int=>"int"| .str=>"str"| .min=>"min"| .max=>"max"| .abs=>"abs"| .all=>"all"| .any=>"any"| .dict=>"dict"
abbrev yb:Lm->String
 | .append=>"append"| .extend=>"extend"| .insert=>"insert"| .pop=>"pop"| .clear=>"clear"| .reverse=>"reverse"| .count=>"count"
abbrev j9:List String:=["int","bool","str","list","tuple","dict","ValueError"]
abbrev Co (S:Sn):Cl->Expr->Bool
 | .own c,.Name x _=>S.mK x&&decide (S.T.gcl.lookup x=some c)
 | .ty n,.Name x _=>S.mK x&&decide (x=(n:Str))&&S.T.gbl.contains x&&j9.contains n
 |_,_=>false
abbrev uD (S:Sn):List Nat->List Expr->Bool
 | [],[]=>true
 |c::cs,.Name x _::es=>S.mK x&&decide (S.T.gcl.lookup x=some c)&&uD S cs es
 |_,_=>false
abbrev dQ (outer inner:Scope):Scope:=
 { inner with names:=inner.names.map λ(n,k)=>if (k ==.free&&outer.kind ==.function&&outer.names.lookup n ==some .cell) then (n,.cell) else (n,k) }
abbrev gd (S:Sn)(scope:Scope)(xs:List Str)(sel:List Nat):Bool:=
 decide (scope.kind=.function)&&decide (S.sc.kind=.function)&&scope.names.all (λy=>y.2 != .cell&&(y.2 != .local||decide (scope.names.lookup y.1=some .local))&&(y.2 != .free||(decide (S.sc.names.lookup y.1=some .cell))))&&xs.all (λx=>decide (scope.names.lookup x=some .local))&&
 sel.all (λi=>match S.N[i]? with|some y=>decide (S.sc.names.lookup y=some .cell)&&decide ((dQ S.sc scope).names.lookup y=some .cell)|none=>false)&&decide ((xs++sel.filterMap λi=>S.N[i]?).Nodup)
abbrev Dg:List Expr->List Str
 | .Name x _::r=>x::Dg r
 |_=>[]
abbrev xi (S:Sn):List Nat->List Expr->Bool
 | [],[]=>true
 |i::is,.Name x _::r=>decide (S.N[i]? =some x)&&decide (S.sc.names.lookup x=some .local)&&xi S is r
 |_,_=>false
abbrev oh:List Str->List (Option Expr)->Bool
 | [],[]=>true
 |k::ks,some (.Constant (.str x) _ _)::r=>decide (k=x)&&oh ks r
 |_,_=>false
mutual
noncomputable def mE (S:Sn):Ex->Expr->Bool
 | .v i,e=>match e with| .Name x _=>decide (S.N[i]? =some x)&&S.GC x|_=>false
 | .int i,e=>match e with| .Constant y1 _ _=>(match y1 with| .int j=>decide (i=j)|_=>false)|_=>false
 | .bl i,e=>match e with| .Constant y1 _ _=>(match y1 with| .bool j=>decide (i=j)|_=>false)|_=>false
 | .non,e=>match e with| .Constant y1 _ _=>(match y1 with| .none=>true|_=>false)|_=>false
 | .str i,e=>match e with| .Constant y1 _ _=>(match y1 with| .str j=>decide (i=j)|_=>false)|_=>false
 | .gl x,e=>match e with| .Name y _=>decide (x=y)&&S.mK y|_=>false
 | .bin op a b,e=>match e with| .BinOp a' op' b' _=>decide (op=op')&&mE S a a'&&mE S b b'|_=>false
 | .neg a,e=>match e with| .UnaryOp y1 a' _=>(match y1 with| .USub=>mE S a a'|_=>false)|_=>false
 | .not a,e=>match e with| .UnaryOp y1 a' _=>(match y1 with| .Not=>mE S a a'|_=>false)|_=>false
 | .and a b,e=>match e with| .BoolOp y1 y2 p=>(match y1 with| .And=>(match y2 with|a'::b'::r=>mE S a a'&&mE S b (match r with| []=>b'|_=>.BoolOp .And (b'::r) p)|_=>false)|_=>false)|_=>false
 | .or a b,e=>match e with| .BoolOp y1 y2 p=>(match y1 with| .Or=>(match y2 with|a'::b'::r=>mE S a a'&&mE S b (match r with| []=>b'|_=>.BoolOp .Or (b'::r) p)|_=>false)|_=>false)|_=>false
 | .cmp op a b,e=>match e with| .Compare a' y1 y2 _=>(match y1 with| [op']=>(match y2 with| [b']=>decide (op=op')&&mE S a a'&&mE S b b'&&cI b'|_=>false)|_=>false)|_=>false
 | .cmp2 o1 o2 a b c,e=>match e with| .Compare a' y1 y2 _=>(match y1 with| [p1,p2]=>(match y2 with| [b',c']=>decide (o1=p1)&&decide (o2=p2)&&mE S a a'&&mE S b b'&&mE S c c'&&cI c'|_=>false)|_=>false)|_=>false
 | .cmp3 o1 o2 o3 a b c d,e=>match e with| .Compare a' y1 y2 _=>(match y1 with| [p1,p2,p3]=>(match y2 with| [b',c',d']=>decide (o1=p1)&&decide (o2=p2)&&decide (o3=p3)&&mE S a a'&&mE S b b'&&mE S c c'&&mE S d d'&&cI d'|_=>false)|_=>false)|_=>false
 | .ife c a b,e=>match e with| .IfExp c' a' b' _=>mT S c c'&&mE S a a'&&mE S b b'|_=>false
 | .tup es,e=>match e with| .Tuple es' _ _=>i8 S es es'|_=>false
 | .lst es,e=>match e with| .List es' _=>i8 S es es'|_=>false
 | .ix a i,e=>match e with| .Subscript a' i' _=>mE S a a'&&mE S i i'&&fv i'|_=>false
 | .sl a lo hi,e=>match e with| .Subscript a' y1 _=>(match y1 with| .Slice lo' hi' y2 _=>(match y2 with|none=>mE S a a'&&mO S lo lo'&&mO S hi hi'|_=>false)|_=>false)|_=>false
 | .fld a f,e=>match e with| .Attribute a' f' _=>mE S a a'&&decide (f=f')&&fD a'|_=>false
 | .call f es,e=>match e with| .Call y1 es' y2 _=>(match y1 with| .Name x _=>(match y2 with| []=>S.mK x&&decide (S.T.gfn.lookup x=some f)&&i8 S es es'|_=>false)|_=>false)|_=>false
 | .meth a m es,e=>match e with| .Call y1 es' y2 q=>(match y1 with| .Attribute a' m' p=>(match y2 with| []=>mE S a a'&&decide (m=m')&&i8 S es es'&&fD a'&&(p.endLine ==q.line)&&decide (es.len<20)|_=>false)|_=>false)|_=>false
 | .lm m a es,e=>match e with| .Call y1 es' y2 q=>(match y1 with| .Attribute a' m' p=>(match y2 with| []=>mE S a a'&&decide (m'=(yb m:Str))&&i8 S es es'&&fD a'&&(p.endLine ==q.line)&&decide (es.len<20)|_=>false)|_=>false)|_=>false
 | .make c es,e=>match e with| .Call y1 es' y2 _=>(match y1 with| .Name x _=>(match y2 with| []=>S.mK x&&decide (S.T.gcl.lookup x=some c)&&i8 S es es'|_=>false)|_=>false)|_=>false
 | .bini es,e=>match e with| .Call y1 es' y2 q=>(match y1 with| .Attribute y3 m p=>(match y3 with| .Name x _=>(match y2 with| []=>S.mK x&&decide (m=("__init__":Str))&&S.T.gbi.contains x&&i8 S es es'&&decide (es.len=2)&&(p.endLine ==q.line)|_=>false)|_=>false)|_=>false)|_=>false
 | .cini c es,_=>false
 | .bf b es,e=>match e with| .Call y1 es' y2 _=>(match y1 with| .Name x _=>(match y2 with| []=>S.mK x&&decide (x=(Am b:Str))&&S.T.gbl.contains x&&i8 S es es'&&decide (0<es.len)|_=>false)|_=>false)|_=>false
 | .isi a c,e=>match e with| .Call y1 y2 y3 _=>(match y1 with| .Name x _=>(match y3 with| []=>(match y2 with| [a',c']=>S.mK x&&decide (x=("isinstance":Str))&&S.T.gbl.contains x&&mE S a a'&&Co S c c'|_=>false)|_=>false)|_=>false)|_=>false
 | .lc elt sel it,e=>match e with| .ListComp elt' y1 scope _=>(match y1 with| [y2]=>(match y2 with|⟨y3,iter,y4,y5⟩=>(match y3 with| .Name x px=>(match y4 with| []=>(match y5 with|0=>gd S scope [x] sel&&mI S it (.Name x px) iter&&mE { S with sc:=dQ S.sc scope,N:=x::sel.filterMap λi=>S.N[i]? } elt elt'&&cI iter|_=>false)|_=>false)|_=>false))|_=>false)|_=>false
 | .lci elt c sel it,_=>false
 | .lct elt n sel it,e=>match e with| .ListComp elt' y1 scope _=>(match y1 with| [y2]=>(match y2 with|⟨y3,iter,y4,y5⟩=>(match y3 with| .Tuple ts kt pt=>(match y4 with| []=>(match y5 with|0=>gd S scope (Dg ts) sel&&xi { S with sc:=dQ S.sc scope,N:=Dg ts++sel.filterMap λi=>S.N[i]? } (List.range n) ts&&decide ((Dg ts).length=n)&&mI S it (.Tuple ts kt pt) iter&&mE { S with sc:=dQ S.sc scope,N:=Dg ts++sel.filterMap λi=>S.N[i]? } elt elt'&&cI iter|_=>false)|_=>false)|_=>false))|_=>false)|_=>false
 | .dnew,e=>match e with| .Dict y1 y2 _=>(match y1 with| []=>(match y2 with| []=>true|_=>false)|_=>false)|_=>false
 | .up a,_=>false
 | .isiT a cs,e=>match e with| .Call y1 y2 y3 _=>(match y1 with| .Name x _=>(match y3 with| []=>(match y2 with| [a',y4]=>(match y4 with| .Tuple es' _ _=>S.mK x&&decide (x=("isinstance":Str))&&S.T.gbl.contains x&&mE S a a'&&uD S cs es'&&decide (cs.length<=100)|_=>false)|_=>false)|_=>false)|_=>false)|_=>false
 | .uz c,e=>match e with| .Call y1 y2 y3 _=>(match y1 with| .Name x _=>(match y2 with| []=>(match y3 with| []=>S.mK x&&decide (S.T.gcl.lookup x=some c)&&S.T.inip.contains c|_=>false)|_=>false)|_=>false)|_=>false
 | .disp ks es,e=>match e with| .Dict keys vals _=>oh ks keys&&i8 S es vals&&decide (es.len=ks.length)&&decide (0<ks.length)&&decide (ks.length<=15)|_=>false
 | .vals tp a,e=>match e with| .Call y1 y2 y3 _=>(match y1 with| .Name x _=>(match y3 with| []=>(match y2 with| [y4]=>(match y4 with| .Call y5 y6 y7 q=>(match y5 with| .Attribute a' m p=>(match y6 with| []=>(match y7 with| []=>S.mK x&&decide (x=BU tp)&&S.T.gbl.contains x&&mE S a a'&&decide (m=("values":Str))&&fD a'&&(p.endLine ==q.line)|_=>false)|_=>false)|_=>false)|_=>false)|_=>false)|_=>false)|_=>false)|_=>false
 | .dzip a b,e=>match e with| .Call y1 y2 y3 _=>(match y1 with| .Name x _=>(match y3 with| []=>(match y2 with| [y4]=>(match y4 with| .Call y5 y6 y7 _=>(match y5 with| .Name y _=>(match y7 with| []=>(match y6 with| [a',b']=>S.mK x&&decide (x=("dict":Str))&&S.T.gbl.contains x&&S.mK y&&decide (y=("zip":Str))&&S.T.gbl.contains y&&mE S a a'&&mE S b b'&&notStar a'&&notStar b'|_=>false)|_=>false)|_=>false)|_=>false)|_=>false)|_=>false)|_=>false)|_=>false
noncomputable def mT (S:Sn):Tx->Expr->Bool
 | .not a,e=>match e with| .UnaryOp y1 a' _=>(match y1 with| .Not=>mT S a a'|_=>false)|_=>false
 | .and a b,e=>match e with| .BoolOp y1 y2 p=>(match y1 with| .And=>(match y2 with|a'::b'::r=>mT S a a'&&mT S b (match r with| []=>b'|_=>.BoolOp .And (b'::r) p)|_=>false)|_=>false)|_=>false
 | .or a b,e=>match e with| .BoolOp y1 y2 p=>(match y1 with| .Or=>(match y2 with|a'::b'::r=>mT S a a'&&mT S b (match r with| []=>b'|_=>.BoolOp .Or (b'::r) p)|_=>false)|_=>false)|_=>false
 | .cmp op a b,e=>match e with| .Compare a' y1 y2 _=>(match y1 with| [op']=>(match y2 with| [b']=>decide (op=op')&&mE S a a'&&mE S b b'&&cI b'|_=>false)|_=>false)|_=>false
 | .cmp2 o1 o2 a b c,e=>match e with| .Compare a' y1 y2 _=>(match y1 with| [p1,p2]=>(match y2 with| [b',c']=>decide (o1=p1)&&decide (o2=p2)&&mE S a a'&&mE S b b'&&mE S c c'&&cI c'|_=>false)|_=>false)|_=>false
 | .val e,e'=>mE S e e'&&plainT e'
noncomputable def i8 (S:Sn):f7->List Expr->Bool
 | .nil,es=>es.isEmpty
 | .cons e es,l=>match l with|e'::es'=>mE S e e'&&notStar e'&&i8 S es es'| []=>false
noncomputable def mO (S:Sn):JL->Option Expr->Bool
 | .no,o=>o.isNone
 | .yes e,o=>match o with|some e'=>mE S e e'|none=>false
noncomputable def mI (S:Sn):Fz->Expr->Expr->Bool
 | .rng1 a,_,e=>match e with| .Call y1 y2 y3 _=>(match y1 with| .Name x _=>(match y3 with| []=>(match y2 with| [a']=>S.mK x&&decide (x=("range":Str))&&S.T.gbl.contains x&&mE S a a'&&notStar a'|_=>false)|_=>false)|_=>false)|_=>false
 | .rng2 a b,_,e=>false
 | .enm a,t,e=>match e with| .Call y1 y2 y3 _=>(match y1 with| .Name x _=>(match y3 with| []=>(match y2 with| [a']=>S.mK x&&decide (x=("enumerate":Str))&&S.T.gbl.contains x&&mE S a a'&&notStar a'&&(match t with| .Tuple ..=>true|_=>false)|_=>false)|_=>false)|_=>false)|_=>false
 | .seq a,_,e=>mE S a e
 | .zip a b,t,e=>match e with| .Call y1 y2 y3 _=>(match y1 with| .Name x _=>(match y3 with| []=>(match y2 with| [a',b']=>S.mK x&&decide (x=("zip":Str))&&S.T.gbl.contains x&&mE S a a'&&mE S b b'&&notStar a'&&notStar b'&&(match t with| .Tuple ..=>true|_=>false)|_=>false)|_=>false)|_=>false)|_=>false
end
end L3
namespace L3
open PySem PySem.Spec L2
variable {e:Expr}
def plainT_ok (h:plainT e=true)(env:Env)(whole:Sem Value):isTrue e env whole=(do let v <-whole;standAt e.pos;holding [v] (truthy v)):=by
 cases e<;>first|rfl|(cases h)|skip
 case UnaryOp op a p=>cases op<;>first|rfl|cases h
def bP (h:cI e=true)(env:Env)(x:Value):foldedSetIterable e env x=pure x:=by
 cases e<;>first|rfl|cases h
def cZ (h:cI e=true)(op:CmpOp):behindInMarks op e=false:=by
 cases e<;>first|rfl|cases h
def ip (h:rY e=true)(t:Option Expr)(n:Nat)(env:Env):swapsWith e t n env=pure false:=by
 cases e<;>first|rfl|cases h
variable {o:Expr}
def cb (h:fD o=true)(a:Str)(env:Env)(whole:Sem Value):attributeBase o a env whole=whole:=by
 cases o with
 |Call f as ks p=>
  cases f<;>first|rfl|skip
  case Name x q=>
   cases as with
   |nil=>cases ks with
    |nil=>cases h
    |cons k ks=>rfl
   |cons b bs=>rfl
 |_=>rfl
variable {b:Expr}
def sX (h:fv b=true):uK b:=by
 intro o i;cases b<;>first|rfl|cases h
variable {X:Cx}
def PE.cf {t:TE}(h:PE X e t):PE X e (λU H R=>∃ Q,t U H Q/\∀ x H1,Q x H1->R x H1):=λY s U H R I ⟨Q,q,i⟩=>
 az (h Y s U H Q I q) λ_ _ ⟨v,H',J,r,z⟩=>⟨v,H',J,r,i _ _ z⟩
variable {t:TT}
def PT.cf (h:PT X e t):PT X e (λU H R=>∃ Q,t U H Q/\∀ x H1,Q x H1->R x H1):=λY s U H R I ⟨Q,q,i⟩=>
 az (h Y s U H Q I q) λ_ _ ⟨H',J,z⟩=>⟨H',J,i _ _ z⟩
def PA.cf {e:List Expr}{t:TA}(h:PA X e t):PA X e (λU H R=>∃ Q,t U H Q/\∀ x H1,Q x H1->R x H1):=λpos Y s U H R I ⟨Q,q,i⟩=>
 az (h pos Y s U H Q I q) λ_ _ ⟨v,H',J,r,z⟩=>⟨v,H',J,r,i _ _ z⟩
def PE.imp {t t':TE}(h:PE X e t)(hi:∀ U H Q,t' U H Q->t U H Q):PE X e t':=λY s U H Q I q=>h Y s U H Q I (hi _ _ _ q)
def PT.imp {t':TT}(h:PT X e t)(hi:∀ U H Q,t' U H Q->t U H Q):PT X e t':=λY s U H Q I q=>h Y s U H Q I (hi _ _ _ q)
def PS.imp {e:Stmt}{t t':TS}(h:PS X e t)(hi:∀ D U H,t' D U H->t D U H):PS X e t':=λY s U H D I q=>h Y s U H D I (hi _ _ _ q)
structure zf (P:Program) (w:World) (K:W.Frag) (mg:ME) (base:Heap) (k:Nat) (f:Addr) (d:aq) (sp:Sp):Prop where
 fact:∃ fd,dh P w K mg base (y9 P w) k f fd d.ps sp/\∀ j,∃ ds,Binds K fd d.ps ds/\Vals (d.dfl.drop j) ds
 own:∀ fd oc od osl,K.lookup f=some ⟨oc,od,.func fd,osl⟩->dh P w K mg base (y9 P w) k f fd d.ps sp
structure CW (K:W.Frag) (mg:ME) (T:Tab) (R:Rt):Prop where
 gfn:∀ x f,T.gfn.lookup x=some f->mg x=some (.ref (R.fad f))/\W.keepIn K (.ref (R.fad f))=true/\∃ d,T.fns[f]? =some d
 gcl:∀ x c,T.gcl.lookup x=some c->mg x=some (.ref (R.cad c))
 gbl:∀ x,T.gbl.contains x=true->mg x=none/\x≠"__name__"
 gbi:∀ x,T.gbi.contains x=true->∃ B,mg x=some (.ref B)/\Lk K B
 gl:∀ x v,R.gl x=some v->∃ u,mg x=some u/\RelV v u
 na:∀ i f,T.na.contains (i,f)=true->d6 K (R.cad i) f
 me:∀ i m f,T.me.lookup (i,m)=some f->A9 K (R.cad i)/\Meth K (R.cad i) m (R.fad f)/\∃ d,T.fns[f]? =some d
 ini0:∀ c,T.ini0.contains c=true->Fc K (R.cad c)
 inip:∀ c,T.inip.contains c=true->LF K (R.cad c)
 ini:∀ c f,T.ini.lookup c=some f->(∃ d,T.fns[f]? =some d)/\if T.xc.contains c=true then JU K (R.cad c) (R.fad f) else Mk K (R.cad c) (R.fad f)
 oc:∀ c,T.oc.contains c=true->A9 K (R.cad c)/\J9 K (R.cad c)
 xc:∀ c,T.xc.contains c=true->cU K (R.cad c)/\zh K (R.cad c)
 sub:∀ i j b,T.sub.lookup (i,j)=some b->W.kitOne K (.ref (R.cad i)) (.ref (R.cad j))=some b/\(T.xc.contains i=true->W.mroIn K (R.cad i) (.ref (R.cad j))=some b/\cU K (R.cad j))
 subT:∀ i n b,T.subT.lookup (i,n)=some b->W.kitOne K (.ref (R.cad i)) (.type n)=some b
 subB:∀ t n b,T.subB.lookup (t,n)=some b->W.kitOne K (.type t) (.type n)=some b
 subO:∀ t j b,T.subO.lookup (t,j)=some b->W.kitOne K (.type t) (.ref (R.cad j))=some b
 cin:∀ c f,T.cin.lookup c=some f->LL K (R.cad c) (R.fad f)/\∃ d,T.fns[f]? =some d
structure Gd (X:Cx) (G:Gx) (S:Sn) (k:Nat) (E:St->XK):Prop where
 hK:G.R.K=X.K
 hT:S.T=G.T
 sc:X.env.scope=S.sc
 N:X.N=S.N
 nd:S.N.Nodup
 pass:Passes (y9 X.prog X.w) X E
 cm:G.cm=true->X.calm=true
 room:G.cm=true->bT (k+1) X.A
 un:X.A.units+200<cLine
 tab:CW X.K X.mg G.T G.R
 fns:∀ f d,G.T.fns[f]? =some d->zf X.prog X.w X.K X.mg X.base k (G.R.fad f) d (G.Ψ f)
variable {x:Str}{l es:List Expr}
section
variable {X:Cx}{G:Gx}{S:Sn}{k:Nat}{E:St->XK}
def Gd.bin (g:Gd X G S k E)(op:Operator):cR X (binaryOp op) (F7 G.R.K op):=g.hK▸Gr op
def Gd.cmp (g:Gd X G S k E)(op:CmpOp):cR X (compareOp op) (km G.R.K op):=g.hK▸E0 g.un op
def Gd.glob (g:Gd X G S k E)(h:S.mK x=true):Gl X x/\(x ==("__debug__":Str))=false:=by
 unfold Sn.mK at h;simp only[Bool.and_eq_true,decide_eq_true_eq,Bool.not_eq_true'] at h;refine ⟨?_,h.2⟩;show X.env.scope.names.lookup x=_;rw[g.sc];exact h.1
def Gd.GC (g:Gd X G S k E)(h:S.GC x=true):IF X.env.scope x/\(x ==("__debug__":Str))=false/\(x ==("__classdict__":Str))=false:=by
 unfold Sn.GC at h;simp only[Bool.and_eq_true,Bool.or_eq_true,decide_eq_true_eq,Bool.not_eq_true'] at h;refine ⟨?_,h.1.2,h.2⟩;unfold IF;rw[g.sc];rcases h.1.1 with (h|h)|h
 ·exact .inl h
 ·exact .inr (.inl h)
 ·exact .inr (.inr h)
def Gd.loc (g:Gd X G S k E){i:Nat}(h:S.loc i x=true):X.N[i]? =some x/\L2.Loc X.env.scope x:=by
 unfold Sn.loc at h;simp only[Bool.and_eq_true,Bool.or_eq_true,decide_eq_true_eq] at h;rw[g.N];refine ⟨h.1,?_⟩;unfold L2.Loc;rw[g.sc];exact h.2
def aT:∀ {es:f7}{l:List Expr},i8 S es l=true->∀ (env:Env) (pos:Pos),(backTo pos (starEach l env)).any (·.1)=false
 | .nil,[],_,_,_=>rfl
 | .nil,_::_,h,_,_=>by cases (show false=true from h)
 | .cons e es,[],h,_,_=>by cases (show false=true from h)
 | .cons e es,e'::l,h,env,pos=>by
  have h:(mE S e e'&&notStar e'&&i8 S es l)=true:=h;simp only[Bool.and_eq_true] at h;rw[ag h.1.2];show ((backTo pos (starEach l env)).any (·.1))=false;exact aT h.2 env pos
def oM:∀ {es:f7}{l:List Expr},i8 S es l=true->l.length=es.len
 | .nil,[],_=>rfl
 | .nil,_::_,h=>by cases (show false=true from h)
 | .cons e es,[],h=>by cases (show false=true from h)
 | .cons e es,e'::l,h=>by
  have h:(mE S e e'&&notStar e'&&i8 S es l)=true:=h;simp only[Bool.and_eq_true] at h;show l.length+1=es.len+1;rw[oM h.2]
def bF {es:f7}(h:i8 S es (e::l)=true):notStar e=true/\∃ x es',es=.cons x es'/\i8 S es' l=true:=by
 cases es with
 |nil=>cases (show false=true from h)
 |cons x es'=>
  have h:(mE S x e&&notStar e&&i8 S es' l)=true:=h;simp only[Bool.and_eq_true] at h;exact ⟨h.1.2,x,es',rfl,h.2⟩
def um:∀ {es:f7}{l:List Expr},i8 S es l=true->es.len<20->∀ (env:Env) (cpos:Pos),methodCallForm (l.length+([]:List Keyword).length) (backTo cpos (starEach l env)) (backToKw cpos (keywordEach [] env))=true:=by
 intro es l h hl env cpos;have h1:=aT h env cpos;have h2:=oM h;have h3:(backTo cpos (starEach l env)).all (λx=>!x.1)=true:=by
  rw[all_eq_true];intro x hx;rw[any_eq_false] at h1;simpa using h1 x hx
 unfold methodCallForm;rw[h3,h2];simp[keywordEach,backToKw]
 omega
def mZ {m:Str}{apos pos:Pos}{env:Env}(hb:fD o=true)(hf:methodCallForm (es.length+([]:List Keyword).length) (backTo pos (starEach es env)) (backToKw pos (keywordEach [] env))=true)(hl:(apos.endLine ==pos.line)=true):
  eval (.Call (.Attribute o m apos) es [] pos) env=(do
   let ov <-eval o env
   standAt apos.atName
   let (f,first) <-holding [ov] (getMethod ov m (do return (<-importBound o env).getD true))
   callWith pos f first (backTo pos (starEach es env)) (backToKw pos (keywordEach [] env))):=by
 show (do
  let ov <-attributeBase o m env (eval o env)
  standAt apos.atName
  methodCall o m apos pos env ov (es.length+([]:List Keyword).length) (backTo pos (starEach es env)) (backToKw pos (keywordEach [] env)))=_
 rw[cb hb];unfold methodCall calleeOf methodCallPos;rw[hf,hl]
 rfl
def EF {es:f7}(h:i8 S es (e::l)=true)(hl:es.len<20)(env:Env)(cpos:Pos):
  ((backTo cpos (starEach (e::l) env)).all (λx=>!x.1)&&(backToKw cpos (keywordEach [] env)).all (λx=>x.1.isSome)
   &&decide ((e::l).length+([]:List Keyword).length+(if ([]:List Keyword).isEmpty then 0 else 1)<30))=true:=by
 have h1:=aT h env cpos;have h2:=oM h;have h3:(backTo cpos (starEach (e::l) env)).all (λx=>!x.1)=true:=by
  rw[all_eq_true];intro x hx;rw[any_eq_false] at h1;simpa using h1 x hx
 rw[h3,h2];simp[keywordEach,backToKw]
 omega
end
variable {H:Hp}{Y:MD}{a:Addr}
section
variable {X:Cx}{G:Gx}{S:Sn}{k:Nat}{E:St->XK}
def iW {K:W.Frag}{x:V}{t:String}(h:tyName x H=some t):gP K H x (.type t):=by
 unfold tyName at h
 split at h
 ·cases h;exact .non
 ·cases h;exact .bl _
 ·cases h;exact .int _
 ·cases h;exact .str _
 ·split at h
  ·rename_i e;cases h;exact .lst e
  ·rename_i e;cases h;exact .tup e
  ·rename_i e;cases h;exact .dK e
  ·cases h
 ·cases h
def uA {s:Shared}{U:St}{Q:VK}{i:Nat}{b:Bool}{cv:Value}(g:Gd X G S k E)(I:Inv X Y U H s)(o:ux G H a i)
  (e:W.kitOne X.K (.ref (G.R.cad i)) cv=some b) (q:Q (.bl b) H):wpAny (model X.prog X.w) X.A (call (.builtin "isinstance") [.ref a,cv]) (EP X Y U Q) X.xe s:=by
 rcases o with ⟨ho,dx,fs,ha⟩|⟨ho,dx,fs,fr,ha⟩
 ·obtain ⟨c,z⟩:=g.tab.oc i ho;exact iZ I (x:=.ref a) rfl (.ins ha c z.ha z.hn z.htk z.hm) e λtk=>⟨.bl b,H,I.tok _,rfl,q⟩
 ·obtain ⟨c,z⟩:=g.tab.xc i ho;exact xA I ha c z e λtk=>⟨.bl b,H,I.tok _,rfl,q⟩
def BM (g:Gd X G S k E)(j:Nat):cj X (.builtin "isinstance") (λvs H Q=>∃ x,vs=[x,.ref (G.R.cad j)]/\g7 G (.own j) x H Q):=by
 intro Y s U H xs us Q I r h;obtain ⟨x,rfl,h⟩:=h;obtain ⟨u,w',rfl,rx,rT⟩:=vals2 r;obtain rfl:w'=Value.ref (G.R.cad j):=rT;unfold g7 at h;rcases h with ⟨t,b,ht,hb,q⟩|⟨a,i,b,rfl,ho,hb,q⟩
 ·exact iZ I rx (iW ht) (g.tab.subO t j b hb) λtk=>⟨.bl b,H,I.tok _,rfl,q⟩
 ·obtain rfl:u=Value.ref a:=rx;exact uA g I ho (g.tab.sub i j b hb).1 q
def Fi (g:Gd X G S k E)(n:String):cj X (.builtin "isinstance") (λvs H Q=>∃ x,vs=[x,.ty n]/\g7 G (.ty n) x H Q):=by
 intro Y s U H xs us Q I r h;obtain ⟨x,rfl,h⟩:=h;obtain ⟨u,w',rfl,rx,rT⟩:=vals2 r;obtain rfl:w'=Value.type n:=rT;unfold g7 at h;rcases h with ⟨t,b,ht,hb,q⟩|⟨a,i,b,rfl,ho,hb,q⟩
 ·exact iZ I rx (iW ht) (g.tab.subB t n b hb) λtk=>⟨.bl b,H,I.tok _,rfl,q⟩
 ·obtain rfl:u=Value.ref a:=rx;exact uA g I ho (g.tab.subT i n b hb) q
def BJ {n:String}(h:j9.contains n=true):bootBuiltins (n:Str)=some (.type n):=by
 have h':n ∈ j9:=by simpa using h
 simp only[j9,mem_cons,not_mem_nil,or_false] at h';rcases h' with rfl|rfl|rfl|rfl|rfl|rfl|rfl<;>decide+kernel
abbrev Lu (G:Gx):Cl->V
 | .own c=>.ref (G.R.cad c)
 | .ty n=>.ty n
def IA (g:Gd X G S k E){c:Cl}(h:Co S c e=true):PE X e (tC (Lu G c)):=by
 unfold Co at h
 split at h
 ·simp only[Bool.and_eq_true,decide_eq_true_eq] at h;obtain ⟨hg,hd⟩:=g.glob h.1;exact nB hg (g.tab.gcl _ _ (g.hT▸h.2)) rfl hd
 ·simp only[Bool.and_eq_true,decide_eq_true_eq] at h;obtain ⟨⟨⟨h1,rfl⟩,h3⟩,h4⟩:=h;obtain ⟨hg,hd⟩:=g.glob h1;obtain ⟨hm,hn⟩:=g.tab.gbl _ (g.hT▸h3);exact CM hg hm (BJ h4) rfl hn hd
 ·cases h
def ER (g:Gd X G S k E)(c:Cl):cj X (.builtin "isinstance") (λvs H Q=>∃ x,vs=[x,Lu G c]/\g7 G c x H Q):=by
 cases c with
 |own j=>exact BM g j
 |ty n=>exact Fi g n
def yP (g:Gd X G S k E){i:Nat}{b:Bool}:∀ {cs:List Nat},anyS G i cs=some b->W.kitAny X.K (.ref (G.R.cad i)) ((cs.map λc=>G.R.cad c).map Value.ref)=some b
 | [],h=>h
 |c::cs,h=>by
  have e:∀ b',G.T.sub.lookup (i,c)=some b'->W.kitOne X.K (.ref (G.R.cad i)) (.ref (G.R.cad c))=some b':=λb' hb=>(g.tab.sub i c b' hb).1
  unfold anyS at h;show (match W.kitOne X.K (.ref (G.R.cad i)) (.ref (G.R.cad c)) with|some true=>some true|some false=>W.kitAny X.K (.ref (G.R.cad i)) ((cs.map λc=>G.R.cad c).map Value.ref)|none=>none)=some b
  split at h
  ·rename_i q;rw[e _ q];exact h
  ·rename_i q;rw[e _ q];exact yP g h
  ·cases h
def Ed (g:Gd X G S k E){t:String}{b:Bool}:∀ {cs:List Nat},Di G t cs=some b->W.kitAny X.K (.type t) ((cs.map λc=>G.R.cad c).map Value.ref)=some b
 | [],h=>h
 |c::cs,h=>by
  have e:∀ b',G.T.subO.lookup (t,c)=some b'->W.kitOne X.K (.type t) (.ref (G.R.cad c))=some b':=λb' hb=>g.tab.subO t c b' hb
  unfold Di at h;show (match W.kitOne X.K (.type t) (.ref (G.R.cad c)) with|some true=>some true|some false=>W.kitAny X.K (.type t) ((cs.map λc=>G.R.cad c).map Value.ref)|none=>none)=some b
  split at h
  ·rename_i q;rw[e _ q];exact h
  ·rename_i q;rw[e _ q];exact Ed g h
  ·cases h
def CT (g:Gd X G S k E)(cs:List Nat):cj X (.builtin "isinstance") (λvs H Q=>∃ x p,vs=[x,.ref p]/\H p=some (.tup ((cs.map λc=>G.R.cad c).map V.ref))/\qd G cs x H Q):=by
 intro Y s U H xs us Q I r h;obtain ⟨x,p,rfl,hp,h⟩:=h;obtain ⟨u,w',rfl,rx,rT⟩:=vals2 r;obtain rfl:w'=Value.ref p:=rT;unfold qd at h;rcases h with ⟨t,b,ht,hb,q⟩|⟨a,i,b,rfl,ho,hb,q⟩
 ·obtain ⟨P,Z,hP,hx⟩:=qx I rx (iW (K:=X.K) ht);exact nW I Z hP hx hp (Ed g hb) λtk=>⟨.bl b,H,I.tok _,rfl,q⟩
 ·obtain rfl:u=Value.ref a:=rx;rcases ho with ⟨ho,dx,fs,ha⟩|⟨ho,dx,fs,fr,ha⟩
  ·obtain ⟨c,z⟩:=g.tab.oc i ho;obtain ⟨P,Z,hP,hx⟩:=qx I (x:=.ref a) rfl (.ins ha c z.ha z.hn z.htk z.hm);exact nW I Z hP hx hp (yP g hb) λtk=>⟨.bl b,H,I.tok _,rfl,q⟩
  ·obtain ⟨c,z⟩:=g.tab.xc i ho;obtain ⟨ox,odo,J⟩:=qP I ha;exact nW I (qq (ox:=ox) (odo:=odo) c z) J (λz=>nomatch z) hp (yP g hb) λtk=>⟨.bl b,H,I.tok _,rfl,q⟩
def xW (g:Gd X G S k E):∀ {cs:List Nat}{es:List Expr},uD S cs es=true->PA X es (λU H Q=>Q (cs.map λc=>.ref (G.R.cad c)) H)
 | [],[],_=>eO
 | [],_::_,h=>by cases (show false=true from h)
 |_::_,[],h=>by cases (show false=true from h)
 |c::cs,e::es,h=>by
  unfold uD at h
  split at h
  ·rename_i h1 h2;cases h1
  ·rename_i c' cs' x p es' h1 h2;cases h1;cases h2;simp only[Bool.and_eq_true,decide_eq_true_eq] at h;obtain ⟨hg,hd⟩:=g.glob h.1.1;exact jP (nB (v:=.ref (G.R.cad _)) hg (g.tab.gcl _ _ (g.hT▸h.1.2)) rfl hd) (xW g h.2) rfl
  ·cases h
abbrev yz:Bf->Value
 | .len=>.builtin "len"| .list=>.type "list"| .tuple=>.type "tuple"| .int=>.type "int"| .str=>.type "str"| .min=>.builtin "min"| .max=>.builtin "max"| .abs=>.builtin "abs"| .all=>.builtin "all"| .any=>.builtin "any"| .dict=>.type "dict"
def AZ (b:Bf):bootBuiltins (Am b:Str)=some (yz b):=by cases b<;>decide+kernel
def uC:∀ {bs:List Bool}{us:List Value},Vals (bs.map V.bl) us->PyProof.Rows.LSm.BoolsAre us bs
 | [],_,h=>by cases h;exact .nil
 |b::bs,_,h=>by
  cases h with
  |cons r1 r2=>
   obtain rfl:_=Value.bool b:=r1;exact .cons b (uC r2)
def vW (hc:X.calm=true):cj X (.builtin "all") (λxs H Q=>∃ p,∃ bs:List Bool,xs=[.ref p]/\aS X.K H p (bs.map V.bl)/\Q (.bl (bs.all id)) H):=by
 intro Y s U H xs us Q I r h;obtain ⟨p,bs,rfl,hq,q⟩:=h;obtain ⟨u,rfl,rx⟩:=vals1 r;cases rx;obtain ⟨its,r',pl,hz⟩:=I.list hq;have hb:=uC r';have hl:=pl.isList;have lt:p<s.heap.objs.size:=by obtain ⟨_,e,_⟩:=hl;exact Heap.lt_size e
 refine call_all_walk (wpAny_pyIter_list hl ⟨s.heap.objs.size,[s.heap.objs.size,p],[s.heap.objs.size],its.toArray.size,_,_,λi=>(bs[i]?).getD true,rfl,
  Walks.list (A:=X.A.in1) (I.ok.hd hc) _ p (Nat.ne_of_lt lt) its.toArray,⟨⟨_,Heap.get?_push_size _ rfl,rfl,rfl⟩,hl.push _⟩,λi v s' Q' E' hP hQ=>?_,λh' tk hk=>?_⟩)
 ·obtain ⟨b,e,rfl⟩:=hb.get i v (by simpa using hP);have hQ:Q' ((bs[i]?).getD _) s':=hQ;rw[e] at hQ;exact wpAny_truthy_bool hQ
 ·have e:((List.range its.toArray.size).all λi=>(bs[i]?).getD true)=bs.all id:=by
   rw[size_toArray,hb.length,PyProof.Rows.LSm.range_all]
  rw[e];exact ⟨.bl _,H,I.kept (PyProof.Rows.LSm.kept_iter hk),rfl,q⟩
def pM:cj X (.type "dict") (λvs H Q=>∃ p kvs,vs=[.ref p]/\H p=some (.dK kvs)/\∀ l,H l=none->Q (.ref l) (upd H l (.dK kvs))):=by
 intro Y s U H xs us Q I r h;obtain ⟨p,kvs,rfl,hp,q⟩:=h;obtain ⟨u,rfl,rx⟩:=vals1 r;cases rx;exact yT I (.inl hp) λl s' hl J=>⟨.ref l,_,J,rfl,q l hl⟩
def IU (g:Gd X G S k E)(b:Bf):cj X (yz b) (lX G b):=by
 intro Y s U H xs us Q I r h;unfold lX at h;rw[g.hK] at h;cases b with
 |len=>exact yK Y s U H _ us Q I r h
 |list=>exact nY Y s U H _ us Q I r h
 |tuple=>exact ma Y s U H _ us Q I r h
 |int=>exact wW Y s U H _ us Q I r h
 |str=>
  rcases h with h|⟨z,rfl,q⟩
  ·exact oE Y s U H _ us Q I r h
  ·obtain ⟨u,rfl,t,rfl⟩:=vals1 r;exact PySem.P.str_of_str ⟨.str z,H,I,⟨_,rfl⟩,q⟩
 |min=>
  rcases h with ⟨hc,h|h⟩
  ·exact vV (g.cm hc) Y s U H _ us Q I r h
  ·exact h.elim
 |max=>exact wY (g.cm h.1) Y s U H _ us Q I r h.2
 |abs=>exact h.elim
 |all=>exact vW (g.cm h.1) Y s U H _ us Q I r h.2
 |any=>exact h.elim
 |dict=>exact pM Y s U H _ us Q I r h
abbrev EB:Lm->String
 | .append=>"list.append"| .extend=>"list.extend"| .insert=>"list.insert"| .pop=>"list.pop"| .clear=>"list.clear"| .reverse=>"list.reverse"| .count=>"list.count"
def uo (m:Lm):Slot "list" (yb m:Str) (EB m):=by
 cases m
 ·exact PySem.F.slot_list_append
 ·exact PySem.F.slot_list_extend
 ·exact PySem.F.slot_list_insert
 ·exact PySem.F.slot_list_pop
 ·exact PySem.F.slot_list_clear
 ·exact PySem.F.slot_list_reverse
 ·exact PySem.F.slot_list_count
def Dz (m:Lm):typeOf (.builtin (EB m))=pure (.type "method_descriptor"):=by cases m<;>rfl
abbrev LV (m:Lm):V->List V->Hp->VK->Prop:=λx vs H Q=>∃ p xs,x=.ref p/\H p=some (.lst xs)/\EO m p xs vs H Q
def DP (m:Lm):JB X (EB m) (LV m):=by
 intro Y s U H x vs v us Q I rx rv h;obtain ⟨p,xs,rfl,hp,h⟩:=h;unfold EO at h;cases m with
 |append=>
  obtain ⟨y,rfl,h⟩:=h;exact iV Y s U H _ _ v us Q I rx rv ⟨p,xs,_,rfl,rfl,hp,Nat.lt_of_le_of_lt h.1 (by decide),h.2⟩
 |extend=>
  obtain ⟨b,zs,rfl,hz,hl,q⟩:=h;exact wV Y s U H _ _ v us Q I rx rv ⟨p,_,xs,zs,rfl,rfl,hp,hz,kZ nofun,q⟩
 |insert=>
  obtain ⟨i,y,rfl,h⟩:=h;exact vN Y s U H _ _ v us Q I rx rv ⟨p,xs,_,_,rfl,rfl,hp,h.1,h.2.1,Nat.lt_of_le_of_lt h.2.2.1 (by decide),h.2.2.2⟩
 |pop=>exact h.elim
 |clear=>exact h.elim
 |reverse=>exact h.elim
 |count=>exact h.elim
def yV {m:Str}{apos pos:Pos}{ta:TE}{t:TA}{pl:Sem Bool}{n:Nat}(g:Gd X G S k E)(hc:G.cm=true)(he:PE X o ta)(ha:PA X es t)
  (hnil:es=[]->∀ U H R,t U H R->R [] H) (hst:∀ e r,es=e::r->starEach es X.env=(false,eval e X.env)::starEach r X.env) (hpl:∀ e r,es=e::r->(backTo pos (starEach r X.env)).any (·.1)=false)
  (ht:eval (.Call (.Attribute o m apos) es [] pos) X.env=(do
   let ov <-eval o X.env
   standAt apos.atName
   let (f,first) <-holding [ov] (getMethod ov m pl)
   callWith pos f first (backTo pos (starEach es X.env)) (backToKw pos (keywordEach [] X.env)))):
  PE X (.Call (.Attribute o m apos) es [] pos) (λU H Q=>ta U H λx H1=>∃ p i dx fs f,x=.ref p/\H1 p=some (.ins (G.R.cad i) dx fs)/\fs.lookup m=none/\G.T.me.lookup (i,m)=some f/\
   t U H1 λvs H2=>G.Ψ f (x::(vs++dflt G f n)) H2 Q (E U)):=by
 intro Y s U H Q I h;refine W.methodCall_KW (pl:=pl) (az (he Y s U H _ I h) λu s1 ⟨x,H1,I1,rx,a,i,dx,fs,f,ex,ea,l,hf,q⟩=>?_) ht;subst ex;obtain rfl:u=Value.ref a:=rx;obtain ⟨c,hm,d,hd⟩:=g.tab.me i m f hf;obtain ⟨fd,F,B⟩:=(g.fns f d hd).fact;have hr:bT k X.A:=(g.room hc).mono (Nat.le_succ _);obtain ⟨ds,hb,hv⟩:∃ ds,Binds X.K fd d.ps ds/\Vals (dflt G f n) ds:=by
  unfold dflt;rw[hd];exact B _
 refine tW I1 ea c hm l ?_;cases es with
 |nil=>
  refine W.callWith_K0 (first:=[.ref a]) I1.bQ hm.kp ?_;exact nZ (us:=[.ref a]) (vs:=[.ref a]) F hr hb hv g.pass I1 (.cons rfl .nil) (hnil rfl _ _ _ q)
 |cons e r=>
  refine W.callWith_K (first:=[.ref a]) (h₀:=X.base) I.ok.mod.kin hm.kp (az (ha pos Y s1 U H1 _ I1 q) λus s2 ⟨vs,H2,I2,r,q2⟩=>⟨I2.bQ,?_⟩) (hst e r rfl) (hpl e r rfl);exact nZ (us:=.ref a::us) (vs:=.ref a::vs) F hr hb hv g.pass I2 (.cons rfl r) q2
end
def Dl {α β:Type}{f:α->Option β}:∀ {l:List α}{j:Nat}{y:β},(∀ a ∈ l,(f a).isSome=true)->(l.filterMap f)[j]? =some y->∃ a,l[j]? =some a/\f a=some y
 | [],_,_,_,h=>by simp at h
 |a::l,j,y,hs,h=>by
  obtain ⟨b,hb⟩:=Option.isSome_iff_exists.mp (hs a mem_cons_self);rw[filterMap_cons,hb] at h;cases j with
  |zero=>simp at h;exact ⟨a,rfl,by rw[hb,h]⟩
  |succ j=>
   simp at h;obtain ⟨a',h1,h2⟩:=Dl (λa ha=>hs a (mem_cons_of_mem _ ha)) h;exact ⟨a',by simpa using h1,h2⟩
def yv {α β:Type}{f:α->Option β}:∀ {l:List α},(∀ a ∈ l,(f a).isSome=true)->(l.filterMap f).length=l.length
 | [],_=>rfl
 |a::l,hs=>by
  obtain ⟨b,hb⟩:=Option.isSome_iff_exists.mp (hs a mem_cons_self);rw[filterMap_cons,hb];simp[yv (λa ha=>hs a (mem_cons_of_mem _ ha))]
abbrev kf (env:Env):Str×NameKind->List (Str×Addr)->Sem (ForInStep (List (Str×Addr))):=λnk r=>do
 let cs:=r
 if (nk.2 ==NameKind.free)=true then do
  let a <-cellOf env nk.1
  pure (ForInStep.yield ((nk.1,a)::cs))
 else pure (ForInStep.yield cs)
def nI {env:Env}:∀ (names:List (Str×NameKind)) (cs:List (Str×Addr)),(∀ y ∈ names,y.2=.free->∃ c,env.cells.lookup y.1=some c)->
  ∃ cl,(forIn names cs (kf env):Sem _)=pure cl/\(∀ y c,cl.lookup y=some c->cs.lookup y=some c\/env.cells.lookup y=some c)/\(∀ y,(cs.lookup y).isSome=true->(cl.lookup y).isSome=true)/\∀ y ∈ names,y.2=.free->(cl.lookup y.1).isSome=true
 | [],cs,_=>⟨cs,rfl,λy c h=>.inl h,λy h=>h,λy hy=>absurd hy (by simp)⟩
 |(n,kd)::r,cs,h=>by
  by_cases hk:kd=.free
  ·subst hk;obtain ⟨c,hc⟩:=h (n,.free) mem_cons_self rfl;obtain ⟨cl,h1,h2,h3,h4⟩:=nI r ((n,c)::cs) λy hy=>h y (mem_cons_of_mem _ hy)
   have self:(((n,c)::cs).lookup n).isSome=true:=by simp[lookup_cons]
   refine ⟨cl,?_,λy d q=>?_,λy q=>h3 y ?_,λy hy hf=>?_⟩
   ·rw[forIn_cons];have e:kf env (n,.free) cs=pure (ForInStep.yield ((n,c)::cs)):=by
     unfold kf;simp only[cellOf,hc]
     rfl
    rw[e];exact h1
   ·rcases h2 y d q with q|q
    ·rw[lookup_cons] at q
     by_cases e:y=n
     ·subst e;simp at q;subst q;exact .inr hc
     ·rw[show (y ==n)=false from beq_eq_false_iff_ne.mpr e] at q;exact .inl q
    ·exact .inr q
   ·rw[lookup_cons];cases (y ==n)<;>simp[q]
   ·rcases mem_cons.mp hy with rfl|hy
    ·exact h3 _ self
    ·exact h4 y hy hf
  ·obtain ⟨cl,h1,h2,h3,h4⟩:=nI r cs λy hy=>h y (mem_cons_of_mem _ hy)
   refine ⟨cl,?_,h2,h3,λy hy hf=>?_⟩
   ·rw[forIn_cons];have e:kf env (n,kd) cs=pure (ForInStep.yield cs):=by
     unfold kf;cases kd<;>first|rfl|exact absurd rfl hk
    rw[e];exact h1
   ·rcases mem_cons.mp hy with rfl|hy
    ·exact absurd hf hk
    ·exact h4 y hy hf
variable {scope:Scope}
def Bd {env:Env}(h:∀ y ∈ scope.names,y.2=.free->∃ c,env.cells.lookup y.1=some c):
  ∃ cl,closureFor scope env=pure cl/\(∀ y c,cl.lookup y=some c->env.cells.lookup y=some c)/\∀ y ∈ scope.names,y.2=.free->(cl.lookup y.1).isSome=true:=by
 obtain ⟨cl,h1,h2,_,h4⟩:=nI scope.names [] h;refine ⟨cl,?_,λy c q=>(h2 y c q).resolve_left (by simp),h4⟩;have e:closureFor scope env=(forIn scope.names [] (kf env) >>= λcs=>pure cs):=by
  unfold closureFor kf
  rfl
 rw[e,h1]
 rfl
variable {xs:List Str}{sel:List Nat}
section
variable {X:Cx}{G:Gx}{S:Sn}{k:Nat}{E:St->XK}
def qu (g:Gd X G S k E)(scope:Scope):relabel scope X.env=dQ S.sc scope:=by
 unfold relabel dQ Env.kindOf;rw[g.sc]
def cE (g:Gd X G S k E)(ok:X.Ok)(h:gd S scope xs sel=true):∃ cl,bB X scope cl xs (sel.filterMap λi=>S.N[i]?) sel:=by
 unfold gd at h;simp only[Bool.and_eq_true,decide_eq_true_eq,all_eq_true,Bool.or_eq_true,bne_iff_ne,ne_eq] at h;obtain ⟨⟨⟨⟨⟨h1,h2⟩,h3⟩,h4⟩,h5⟩,h6⟩:=h;have hs:∀ i ∈ sel,(S.N[i]?).isSome=true:=λi hi=>by
  have:=h5 i hi
  split at this
  ·rename_i e;rw[e];rfl
  ·cases this
 obtain ⟨cl,c1,c2,c3⟩:=Bd (env:=X.env) (scope:=scope) λy hy hf=>ok.has y.1 (.inl (by
  show X.env.scope.names.lookup y.1=_;rw[g.sc];exact ((h3 y hy).2).resolve_left λz=>z hf))
 refine ⟨cl,⟨c1,c2,λy hy=>?_,h1,λy hy=>(h3 y hy).1.1,λy hy hl=>((h3 y hy).1.2).resolve_left λz=>z hl,h4,(yv hs).symm,λj y hj=>?_,h6⟩⟩
 ·have:∃ kd,(y,kd) ∈ scope.names/\kd=.free:=by
   rcases hy with hy|hy
   ·obtain ⟨kd,m,q⟩:=dN hy;rcases q with q|q
    ·subst q;exact absurd rfl (h3 _ m).1.1
    ·exact ⟨kd,m,q.1⟩
   ·obtain ⟨kd,m,q⟩:=dN hy;rcases q with q|q
    ·exact ⟨kd,m,q.symm⟩
    ·exact nomatch q.2
  obtain ⟨kd,m,rfl⟩:=this;exact Option.isSome_iff_exists.mp (c3 _ m rfl)
 ·obtain ⟨i,hi,hn⟩:=Dl hs hj;have q:=h5 i (mem_of_getElem? hi);rw[hn] at q;simp only[Bool.and_eq_true,decide_eq_true_eq] at q;refine ⟨i,hi,by rw[g.N];exact hn,by rw[g.sc];exact q.1,by rw[qu g];exact q.2⟩
def Gd.comp (g:Gd X G S k E){cl:List (Str×Addr)}(C:bB X scope cl xs (sel.filterMap λi=>S.N[i]?) sel) (s:Shared) (H:Hp) (fp:List Addr):
  Gd (fR X scope cl (xs++sel.filterMap λi=>S.N[i]?) s H fp) G { S with sc:=dQ S.sc scope,N:=xs++sel.filterMap λi=>S.N[i]? } k (λ_ _ _=>False) where
 hK:=g.hK
 hT:=g.hT
 sc:=qu g scope
 N:=rfl
 nd:=C.nd
 pass:=λY U H s e s' I h=>by
  obtain ⟨e,H',C,dx,fs,T,_,_,_,_,_,_,_,_,_,q⟩:=h;exact q.elim
 cm:=g.cm
 room:=g.room
 un:=g.un
 tab:=g.tab
 fns:=g.fns
def qC (env:Env):∀ {is:List Nat}{ts:List Expr},xi S is ts=true->(assignEach ts env).length=is.length/\(assignEach ts env).findIdx? (·.1)=none
 | [],[],_=>⟨rfl,rfl⟩
 | [],_::_,h=>by simp[xi] at h
 |_::_,[],h=>by simp[xi] at h
 |i::is,t::ts,h=>by
  cases t<;>simp[xi] at h
  rename_i x p;obtain ⟨h1,h2⟩:=qC env h.2;have e:assignEach (.Name x p::ts) env=(false,assign (.Name x p) env)::assignEach ts env:=rfl;rw[e];refine ⟨by simp[h1],?_⟩;rw[List.findIdx?_cons];simp[h2]
def uX (g:Gd X G S k E):∀ {is:List Nat}{ts:List Expr},xi S is ts=true->Gn X ts (gl is)
 | [],[],_=>λY s U H vs us Q I r h=>nU Y s U H vs us Q I r ⟨length_eq_zero_iff.mp h.1,by
   have:=h.2;have e:vs=[]:=length_eq_zero_iff.mp h.1;subst e;exact this⟩
 | [],_::_,h=>by simp[xi] at h
 |_::_,[],h=>by simp[xi] at h
 |i::is,t::ts,h=>by
  cases t<;>simp[xi] at h
  rename_i x p;have hl:X.env.scope.names.lookup x=some .local:=by rw[g.sc];exact h.1.2
  have h1:PG X (.Name x p) (gA i):=gJ (by rw[g.N];exact g.nd) (by rw[g.N];exact h.1.1) (.inl hl) (.inr hl);have h2:=uX g h.2;intro Y s U H vs us Q I r q;refine gT h1 h2 rfl Y s U H vs us Q I r ?_;obtain ⟨hl,q⟩:=q;cases vs with
  |nil=>simp at hl
  |cons v vs=>exact ⟨v,vs,rfl,by simpa using hl,q⟩
def uZ (g:Gd X G S k E)(hc:G.cm=true){n kt:Nat}{ts:List Expr}{pt:Pos}(h:xi S (List.range n) ts=true):PG X (.Tuple ts kt pt) (Bq G.R.K n (gl (List.range n))):=by
 obtain ⟨e1,e2⟩:=qC X.env h;rw[List.length_range] at e1;rw[g.hK];exact pC (g.cm hc) (uX g h) e1 e2
def uM {n:Nat}(h:xs.length=n):qM xs=List.replicate n none:=by
 subst h;unfold qM;rw[List.map_const']
end
set_option maxHeartbeats 2000000
variable {r:List Expr}{p:Pos}{U:L2.St}{s1:Shared}{R:It->Hp->Prop}{keys:List (Option Expr)}
section
variable {G:Gx}{k:Nat}
def kg {o1 o2:CmpOp}{c:Expr}(h:cI c=true):lastMarks [o1,o2] [b,c]=false:=by
 show behindInMarks o2 c=false;exact cZ h _
def tU {o1 o2 o3:CmpOp}{c d:Expr}(h:cI d=true):lastMarks [o1,o2,o3] [b,c,d]=false:=by
 show behindInMarks o3 d=false;exact cZ h _
def ye {t:TE}(h:PE X (match r with| []=>b|_=>.BoolOp .And (b::r) p) t):PE X (.BoolOp .And (b::r) p) t:=by
 cases r with
 |nil=>exact xD h
 |cons c r=>exact h
def xC {t:TE}(h:PE X (match r with| []=>b|_=>.BoolOp .Or (b::r) p) t):PE X (.BoolOp .Or (b::r) p) t:=by
 cases r with
 |nil=>exact xD h
 |cons c r=>exact h
def DG {op:BoolOp}(h:PT X (.BoolOp op l p) t):PW X (.BoolOp op l p) t:=λwhole Y s U H Q I q=>by
 have:=h Y s U H Q I q;exact this
def yp (h:PT X (match r with| []=>b|_=>.BoolOp .And (b::r) p) t):PW X (.BoolOp .And (b::r) p) t:=by
 cases r with
 |nil=>exact BX h
 |cons c r=>exact DG h
def xp (h:PT X (match r with| []=>b|_=>.BoolOp .Or (b::r) p) t):PW X (.BoolOp .Or (b::r) p) t:=by
 cases r with
 |nil=>exact Gm h
 |cons c r=>exact DG h
def BP:JR X (unaryOp .USub) (λx H Q=>match x with| .int i=>Q (.int (-i)) H|_=>False):=by
 intro Y s U H x v Q I r h
 split at h
 ·exact (L2.Fq Y s U H _ v Q I r ⟨_,rfl,h⟩)
 ·exact h.elim
def w9 {CX:ug}{C f:Addr}{fd:FuncData}{ps:List Str}{sp:Sp}{dvs:List V}{ds:List Value}{E:St->XK}{pos:Pos}(M:JU X.K C f)(F:dh X.prog X.w X.K X.mg X.base CX k f fd ps sp)(hr:bT (k+1) X.A)(hg:Gl X x)(hm:X.mg x=some (.ref C))(hb:Binds X.K fd ps ds)(hd:Vals dvs ds)(hx:Passes CX X E)
  (hdb:(x ==("__debug__":Str))=false):PE X (.Call (.Name x p) [] [] pos) (yG C sp dvs E Cy):=by
 intro Y s U H Q I h;refine wpAny_Call_Name_kw (bE I hg hm ?_ hdb);exact W.callWith_K0 I.bQ M.kp (mV (us:=[]) M F hr hb hd hx (Nat.zero_le _) I .nil h.2)
def cR.cf {f:Value->Value->Sem Value}{r:R2}(h:cR X f r):cR X f (λx y H R=>∃ Q,r x y H Q/\∀ z H1,Q z H1->R z H1):=λY s U H x y v u R I rx ry ⟨Q,q,i⟩=>
 az (h Y s U H x y v u Q I rx ry q) λ_ _ ⟨v,H',J,r,z⟩=>⟨v,H',J,r,i _ _ z⟩
section
open PyProof.Rows
def w6 {tg:Expr}{H1:Hp}{v:Value}{xs:List V}(I1:Inv X Y U H1 s1)(r:RelV (.ref a) v)(hq:aS X.K H1 a xs)(q:R (G9 X.K a) H1):
  wpAny (model X.prog X.w) X.A (pyIter v) (JK X Y U tg R) X.xe s1:=by
 cases r;obtain ⟨its,rv,p,hz⟩:=I1.list hq;refine wpAny_pyIter_list p.isList ?_;refine ⟨s1.heap.objs.size,[s1.heap.objs.size],_,_,H1,rfl,I1.kept (t':=s1.toks) λb o e=>Heap.get?_push_of_some _ e,vL a _,⟨_,Heap.get?_push_size _ rfl,rfl,rfl⟩,λb hb=>?_,q⟩;have e:b=s1.heap.objs.size:=by simpa using hb
 subst e;exact I1.xN (Nat.le_refl _) (I1.hok.fresh (Nat.le_refl _))
def zN {tg:Expr}{H1:Hp}{v:Value}{xs:List V}(I1:Inv X Y U H1 s1)(r:RelV (.ref a) v)(hq:aZ X.K H1 a xs)(q:R (HH X.K a) H1):
  wpAny (model X.prog X.w) X.A (pyIter v) (JK X Y U tg R) X.xe s1:=by
 cases r;obtain ⟨its,rv,p,hz⟩:=I1.tuple hq;refine wpAny_pyIter_tuple (show s1.heap.IsTuple a its.toArray from p) ?_;refine ⟨s1.heap.objs.size,[s1.heap.objs.size],_,_,H1,rfl,I1.kept (t':=s1.toks) λb o e=>Heap.get?_push_of_some _ e,tN a _,⟨_,Heap.get?_push_size _ rfl,rfl,rfl⟩,λb hb=>?_,q⟩;have e:b=s1.heap.objs.size:=by simpa using hb
 subst e;exact I1.xN (Nat.le_refl _) (I1.hok.fresh (Nat.le_refl _))
end
def F5 {K:W.Frag}{x:V}{Q:Bool->Hp->Prop}(h:Er K x H Q):∃ k,AN K x H k/\Q k H:=by
 unfold Er at h
 split at h
 ·exact ⟨_,rfl,h⟩
 ·exact h
abbrev JO:List Str->List V->List (V×V)
 |k::ks,x::xs=>(.str k,x)::JO ks xs
 |_,_=>[]
def yd:∀ {ks:List Str}{xs:List V},JO ks xs=(G7 ks xs).map (λkv=>(kV kv.1,kv.2))
 | [],_=>rfl
 |_::_,[]=>rfl
 |k::ks,x::xs=>by
  show (V.str k,x)::JO ks xs=(kV (.inr k),x)::(G7 ks xs).map _;rw[yd]
  rfl
def uT:∀ {ks:List Str}{xs:List V},(G7 ks xs).length<=ks.length
 | [],_=>Nat.le_refl _
 |_::_,[]=>Nat.zero_le _
 |k::ks,x::xs=>Nat.succ_le_succ uT
def iK {k:Str}{ks:List Str}(h:oh (k::ks) keys=true):∃ j p r,keys=some (.Constant (.str k) j p)::r/\oh ks r=true:=by
 unfold oh at h
 split at h
 ·rename_i e;cases e
 ·rename_i k' ks' x j p r e
  injection e with e1 e2
  subst e1 e2;simp only[Bool.and_eq_true,decide_eq_true_eq] at h;obtain ⟨rfl,h⟩:=h;exact ⟨_,_,_,rfl,h⟩
 ·cases h
def kJ (h:oh [] keys=true):keys=[]:=by
 cases keys with
 |nil=>rfl
 |cons a r=>cases (show false=true from h)
def qO:∀ {ks:List Str}{keys:List (Option Expr)},oh ks keys=true->keys.length=ks.length
 | [],keys,h=>by rw[kJ h];rfl
 |k::ks,keys,h=>by
  obtain ⟨j,p,r,rfl,h2⟩:=iK h;rw[length_cons,length_cons,qO h2]
def qB:∀ {ks:List Str}{keys:List (Option Expr)},oh ks keys=true->keys.all (·.isSome)=true
 | [],keys,h=>by rw[kJ h];rfl
 |k::ks,keys,h=>by
  obtain ⟨j,p,r,rfl,h2⟩:=iK h;rw[all_cons,qB h2]
  rfl
def zM {S:Sn}:∀ {x:f7}{e:List Expr},i8 S x e=true->e.length=x.len
 | .nil,[],_=>rfl
 | .nil,_::_,h=>by cases (show false=true from h)
 | .cons x xs,[],h=>by cases (show false=true from h)
 | .cons x xs,e::es,h=>by
  have h:(mE S x e&&notStar e&&i8 S xs es)=true:=h;simp only[Bool.and_eq_true] at h;exact congrArg Nat.succ (zM h.2)
mutual
theorem sE:∀ (x:Ex){X:Cx}{S:Sn}{E:St->XK},Gd X G S k E->∀ {e:Expr},mE S x e=true->PE X e (λU H Q=>wE G x U H Q (E U))
 | .v i,X,S,E,g,e,h=>by
  sleep 1
  simp only[Bool.and_eq_true,decide_eq_true_eq] at h;obtain ⟨h1,h2⟩:=h;obtain ⟨v1,v2,v3⟩:=g.GC h2;refine PE.imp (GH (i:=i) (by rw[g.N];exact h1) v1 v2 v3) λU H Q q=>?_
  conv at q=>whnf
  split at q
  ·rename_i e;exact ⟨_,e,q⟩
  ·exact q.elim
 | .int i,X,S,E,g,e,h=>by
  sleep 2
  simp only[decide_eq_true_eq] at h;subst h;exact Ej
 | .bl i,X,S,E,g,e,h=>by
  sleep 2
  simp only[decide_eq_true_eq] at h;subst h;exact HL
 | .non,X,S,E,g,e,h=>by
  sleep 2
  exact FR
 | .str i,X,S,E,g,e,h=>by
  sleep 2
  simp only[decide_eq_true_eq] at h;subst h;exact xH
 | .gl x,X,S,E,g,e,h=>by
  sleep 1
  simp only[Bool.and_eq_true,decide_eq_true_eq] at h;obtain ⟨rfl,h2⟩:=h;obtain ⟨hg,hd⟩:=g.glob h2;intro Y s U H Q I q
  conv at q=>whnf
  split at q
  ·rename_i v e;obtain ⟨u,hm,r⟩:=g.tab.gl _ v e;exact nB hg hm r hd Y s U H Q I q
  ·exact q.elim
 | .bin op a b,X,S,E,g,e,h=>by
  sleep 1
  simp only[Bool.and_eq_true,decide_eq_true_eq] at h;obtain ⟨⟨rfl,ha⟩,hb⟩:=h;exact Ji (g.bin op) (sE a g ha) (sE b g hb)
 | .neg a,X,S,E,g,e,h=>by
  sleep 2
  exact Hq BP (sE a g h)
 | .not a,X,S,E,g,e,h=>by
  sleep 2
  refine PE.imp (FV (PE.cf (sE a g h))) λU H Q q=>⟨_,q,λx H1 z=>?_⟩
  split at z
  ·exact ⟨_,rfl,z⟩
  ·exact z.elim
 | .and a b,X,S,E,g,e,h=>by
  sleep 3
  simp only[Bool.and_eq_true] at h;refine PE.imp (FE (PE.cf (sE a g h.1)) (ye (sE b g h.2))) λU H Q q=>⟨_,q,λx H1 z=>?_⟩
  split at z
  ·rw[cP] at z;exact ⟨_,rfl,z⟩
  ·exact z.elim
 | .or a b,X,S,E,g,e,h=>by
  sleep 3
  simp only[Bool.and_eq_true] at h;refine PE.imp (Jg (PE.cf (sE a g h.1)) (xC (sE b g h.2))) λU H Q q=>⟨_,q,λx H1 z=>?_⟩
  split at z
  ·rw[cP] at z;exact ⟨_,rfl,z⟩
  ·exact z.elim
 | .cmp op a b,X,S,E,g,e,h=>by
  sleep 3
  simp only[Bool.and_eq_true,decide_eq_true_eq] at h;obtain ⟨⟨⟨rfl,ha⟩,hb⟩,hn⟩:=h;exact Cr (g.cmp op) (sE a g ha) (sE b g hb) (cZ hn _)
 | .cmp2 o1 o2 a b c,X,S,E,g,e,h=>by
  sleep 3
  simp only[Bool.and_eq_true,decide_eq_true_eq] at h;obtain ⟨⟨⟨⟨⟨rfl,rfl⟩,ha⟩,hb⟩,hc⟩,hn⟩:=h;refine PE.imp (yS (cR.cf (g.cmp o1)) (g.cmp o2) (PE.cf (sE a g ha)) (PE.cf (sE b g hb)) (sE c g hc) (kg hn)) λU H Q q=>⟨_,q,λx H1 q1=>⟨_,q1,λy H2 q2=>⟨_,q2,λz H3 q3=>?_⟩⟩⟩
  split at q3
  ·rw[cP] at q3;exact ⟨_,rfl,q3⟩
  ·exact q3.elim
 | .cmp3 o1 o2 o3 a b c d,X,S,E,g,e,h=>by
  sleep 3
  simp only[Bool.and_eq_true,decide_eq_true_eq] at h;obtain ⟨⟨⟨⟨⟨⟨⟨rfl,rfl⟩,rfl⟩,ha⟩,hb⟩,hc⟩,hd⟩,hn⟩:=h;refine PE.imp (wR (cR.cf (g.cmp o1)) (cR.cf (g.cmp o2)) (g.cmp o3) (PE.cf (sE a g ha)) (PE.cf (sE b g hb)) (PE.cf (sE c g hc)) (sE d g hd) (tU hn)) λU H Q q=>⟨_,q,λx H1 q1=>⟨_,q1,λy H2 q2=>⟨_,q2,λz H3 q3=>?_⟩⟩⟩
  split at q3
  ·refine ⟨_,rfl,?_⟩;rw[cP] at q3
   split at q3
   ·rename_i hk;rw[if_pos hk];refine ⟨_,q3,λw H4 q4=>⟨_,q4,λz' H5 q5=>?_⟩⟩
    split at q5
    ·rw[cP] at q5;exact ⟨_,rfl,q5⟩
    ·exact q5.elim
   ·rename_i hk;rw[if_neg hk];exact q3
  ·exact q3.elim
 | .ife c a b,X,S,E,g,e,h=>by
  sleep 1
  simp only[Bool.and_eq_true] at h;exact PE.imp (y8 (PT.cf (sT c g h.1.1)) (sE a g h.1.2) (sE b g h.2)) λU H Q q=>⟨_,q,λk H1 z=>by rwa [cP] at z⟩
 | .tup es,X,S,E,g,e,h=>by
  sleep 1
  refine PE.imp (zl (PA.cf (uB es g h))) λU H Q q=>⟨_,q,λx H1 z=>by unfold g6 at z;exact ⟨kZ (by have:=z.1;omega),z.2⟩⟩
 | .lst es,X,S,E,g,e,h=>by
  sleep 1
  refine PE.imp (E8 (PA.cf (uB es g h))) λU H Q q=>⟨_,q,λx H1 z=>by unfold B0 at z;exact ⟨kZ (by have:=z.1;omega),z.2⟩⟩
 | .ix a i,X,S,E,g,e,h=>by
  sleep 1
  simp only[Bool.and_eq_true] at h;have hr:IY X (rK G.R.K):=g.hK▸tY g.un;exact Ia hr (sE a g h.1.1) (sE i g h.1.2) (sX h.2)
 | .sl a lo hi,X,S,E,g,e,h=>by
  sleep 3
  simp only[Bool.and_eq_true] at h;have hr:JI X (DE G.R.K):=g.hK▸GX;exact Aq hr (sE a g h.1.1) (sO lo g h.1.2) (sO hi g h.2)
 | .fld a f,X,S,E,g,e,h=>by
  sleep 1
  simp only[Bool.and_eq_true,decide_eq_true_eq] at h;obtain ⟨⟨ha,rfl⟩,hn⟩:=h;intro Y s U H Q I q;have q':wE G a U H (λx H1=>sZ G f x H1 Q) (E U):=q;refine Bi (cb hn _ _ _) (az (sE a g ha Y s U H _ I q') λu s1 ⟨x,H1,I1,rx,qf⟩=>?_);unfold sZ at qf;obtain ⟨a,i,fs,v,ex,ea,hna,l,q⟩:=qf;subst ex;obtain rfl:u=Value.ref a:=rx;have n:=g.tab.na i f hna;rcases ea with ⟨ho,dx,ea⟩|⟨ho,dx,fr,ea⟩
  ·exact t8 I1 ea (g.tab.oc i ho).1 n l λu' s' J rv=>⟨v,H1,J,rv,q⟩
  ·exact vK I1 ea (g.tab.xc i ho).1 n l λu' s' J rv=>⟨v,H1,J,rv,q⟩
 | .call f es,X,S,E,g,e,h=>by
  sleep 3
  rename_i es' pos _ xn p1 _;simp only[Bool.and_eq_true,decide_eq_true_eq] at h;obtain ⟨⟨h1,h2⟩,h3⟩:=h;obtain ⟨hg,hdb⟩:=g.glob h1;obtain ⟨hm,hk,d,hd⟩:=g.tab.gfn _ _ (g.hT▸h2);obtain ⟨fd,F,B⟩:=(g.fns f d hd).fact;obtain ⟨ds,hb,hv⟩:∃ ds,Binds X.K fd d.ps ds/\Vals (dflt G f es.len) ds:=by
   unfold dflt;rw[hd];exact B _
  intro Y s U H Q I q;obtain ⟨hc,q⟩:=(show G.cm=true/\wEs G es U H (λvs H1=>G.Ψ f (vs++dflt G f es.len) H1 Q (E U)) (E U) from q);have hr:bT k X.A:=(g.room hc).mono (Nat.le_succ _);cases es' with
  |nil=>
   cases es with
   |nil=>exact zQ F hr hg hm hk hb hv g.pass hdb Y s U H Q I q
   |cons _ _=>cases (show false=true from h3)
  |cons e0 er=>
   have PAs:=uB es g h3;obtain ⟨ns,x0,xr,rfl,h4⟩:=bF h3;exact Cz F hr hg hm hk hb hv g.pass PAs hdb (ag ns) (aT h4 _ _) Y s U H Q I q
 | .meth a m es,X,S,E,g,e,h=>by
  sleep 3
  rename_i es' pos _ a' m' apos _;simp only[Bool.and_eq_true,decide_eq_true_eq] at h;obtain ⟨⟨⟨⟨⟨ha,rfl⟩,h3⟩,h4⟩,h5⟩,h6⟩:=h;intro Y s U H Q I q;obtain ⟨hc,q⟩:=(show G.cm=true/\_ from q);refine yV (n:=es.len+1) g hc (sE a g ha) (uB es g h3) (λz U H R hr=>?_) (λe r z=>?_) (λe r z=>?_) (mZ h4 (um h3 h6 _ _) h5) Y s U H Q I q
  ·subst z;cases es with
   |nil=>exact hr
   |cons _ _=>cases (show false=true from h3)
  ·subst z;exact ag (bF h3).1
  ·subst z;have PAs:=uB es g h3;obtain ⟨ns,x0,xr,rfl,h4⟩:=bF h3;exact aT h4 _ _
 | .lm m a es,X,S,E,g,e,h=>by
  sleep 3
  rename_i es' pos _ a' m' apos _;simp only[Bool.and_eq_true,decide_eq_true_eq] at h;obtain ⟨⟨⟨⟨⟨ha,rfl⟩,h3⟩,h4⟩,h5⟩,h6⟩:=h;cases es' with
  |nil=>
   cases es with
   |nil=>exact PE.imp (Gg PySem.F.plainAttrs_list (uo m) (Dz m) (DP m) (PE.cf (sE a g ha)) (cb h4 _ _ _) h5) λU H Q q=>⟨_,q,λx H1 z=>by
     obtain ⟨p,xs0,ex,hp,q⟩:=z;subst ex;obtain ⟨xs,h1,h2⟩:=q;exact ⟨.inl ⟨rfl,xs0,aS.of hp⟩,p,xs,rfl,h1,h2⟩⟩
   |cons _ _=>cases (show false=true from h3)
  |cons e0 er=>
   have PAs:=uB es g h3;obtain ⟨ns,x0,xr,rfl,h7⟩:=bF h3;exact PE.imp (Hh PySem.F.plainAttrs_list (uo m) (Dz m) (DP m) (PE.cf (sE a g ha)) (PA.cf PAs) (cb h4 _ _ _) (EF h3 h6 _ _) h5 (ag ns) (aT h7 _ _)) λU H Q q=>⟨_,q,λx H1 z=>by
     obtain ⟨p,xs0,ex,hp,q⟩:=z;subst ex;exact ⟨.inl ⟨rfl,xs0,aS.of hp⟩,_,q,λvs H2 ⟨xs,h1,h2⟩=>⟨p,xs,rfl,h1,h2⟩⟩⟩
 | .make c es,X,S,E,g,e,h=>by
  sleep 3
  rename_i es' pos _ xn p1 _;simp only[Bool.and_eq_true,decide_eq_true_eq] at h;obtain ⟨⟨h1,h2⟩,h3⟩:=h;obtain ⟨hg,hdb⟩:=g.glob h1;have hm:=g.tab.gcl _ _ (g.hT▸h2);intro Y s U H Q I q
  conv at q=>whnf
  obtain ⟨hc,q⟩:=q
  split at q
  ·obtain ⟨h0,q⟩:=q;cases es' with
   |nil=>
    cases es with
    |nil=>exact absurd q.1 (by decide)
    |cons _ _=>cases (show false=true from h3)
   |cons e0 er=>
    have PAs:=uB es g h3;obtain ⟨ns,x0,xr,rfl,h4⟩:=bF h3;exact yx (g.tab.ini0 c h0) hg hm PAs hdb (ag ns) (aT h4 _ _) Y s U H Q I q
  ·rename_i f hf;obtain ⟨⟨d,hd⟩,hmk⟩:=g.tab.ini c f hf;obtain ⟨fd,F,B⟩:=(g.fns f d hd).fact;obtain ⟨ds,hb,hv⟩:∃ ds,Binds X.K fd d.ps ds/\Vals (dflt G f (es.len+1)) ds:=by
    unfold dflt;rw[hd];exact B _
   have hr:=g.room hc
   split at q
   ·rename_i hx;rw[if_pos hx] at hmk;cases es' with
    |nil=>
     cases es with
     |nil=>exact w9 hmk F hr hg hm hb hv g.pass hdb Y s U H Q I q
     |cons _ _=>cases (show false=true from h3)
    |cons e0 er=>
     have PAs:=uB es g h3;obtain ⟨ns,x0,xr,rfl,h4⟩:=bF h3;exact yj hmk F hr hg hm hb hv g.pass PAs hdb (ag ns) (aT h4 _ _) Y s U H Q I q
   ·rename_i hx;rw[if_neg hx] at hmk;cases es' with
    |nil=>
     cases es with
     |nil=>exact xu hmk F hr hg hm hb hv g.pass hdb Y s U H Q I q
     |cons _ _=>cases (show false=true from h3)
    |cons e0 er=>
     have PAs:=uB es g h3;obtain ⟨ns,x0,xr,rfl,h4⟩:=bF h3;exact CB hmk F hr hg hm hb hv g.pass PAs hdb (ag ns) (aT h4 _ _) Y s U H Q I q
 | .bini es,X,S,E,g,e,h=>by
  sleep 4
  rename_i es' pos _ mm p2 _ xn p1 _;simp only[Bool.and_eq_true,decide_eq_true_eq] at h;obtain ⟨⟨⟨⟨⟨h1,rfl⟩,h2⟩,h3⟩,h4⟩,h5⟩:=h;obtain ⟨hg,hdb⟩:=g.glob h1;obtain ⟨B,hm,hB⟩:=g.tab.gbi _ (g.hT▸h2);cases es' with
  |nil=>
   cases es with
   |nil=>cases h4
   |cons _ _=>cases (show false=true from h3)
  |cons e0 er=>
   have PAs:=uB es g h3;obtain ⟨ns,x0,xr,rfl,h7⟩:=bF h3;refine PE.imp (Gz hB hg hm (PA.cf PAs) hdb (ag ns) (aT h7 _ _) (mZ (o:=.Name _ _) rfl (um h3 (by rw[h4];decide) _ _) h5)) λU H Q q=>⟨_,q,λvs H1 z=>?_⟩
   obtain ⟨a,i,dx,fs,fr,v,ev,ea,hi,q⟩:=z;exact ⟨a,_,dx,fs,fr,v,ev,ea,(g.tab.xc i hi).1,q⟩
 | .cini c es,X,S,E,g,e,h=>by cases (show false=true from h)
 | .bf b es,X,S,E,g,e,h=>by
  sleep 3
  rename_i es' pos _ xn p1 _;simp only[Bool.and_eq_true,decide_eq_true_eq] at h;obtain ⟨⟨⟨⟨h1,rfl⟩,h2⟩,h3⟩,h4⟩:=h;obtain ⟨hg,hdb⟩:=g.glob h1;obtain ⟨hm,hn⟩:=g.tab.gbl _ (g.hT▸h2);cases es' with
  |nil=>
   cases es with
   |nil=>exact absurd h4 (by decide)
   |cons _ _=>cases (show false=true from h3)
  |cons e0 er=>
   have PAs:=uB es g h3;obtain ⟨ns,x0,xr,rfl,h7⟩:=bF h3;have hb:=AZ b;have hk:=IU g b;have key:∀ {v:Value},yz b=v->(∃ i,v=.builtin i)\/(∃ i,v=.type i):=by
    intro v hv;subst hv;cases b<;>first|exact .inl ⟨_,rfl⟩|exact .inr ⟨_,rfl⟩
   rcases key rfl with ⟨i,hi⟩|⟨i,hi⟩
   ·rw[hi] at hb hk;exact kK hk hg hm hb PAs hn hdb (ag ns) (aT h7 _ _)
   ·rw[hi] at hb hk;exact vI hk hg hm hb PAs hn hdb (ag ns) (aT h7 _ _)
 | .isi a c,X,S,E,g,e,h=>by
  sleep 4
  rename_i pos _ xn p1 _ _ a' c';simp only[Bool.and_eq_true,decide_eq_true_eq] at h;obtain ⟨⟨⟨⟨h1,rfl⟩,h2⟩,h3⟩,h4⟩:=h;obtain ⟨hg,hdb⟩:=g.glob h1;obtain ⟨hm,hn⟩:=g.tab.gbl _ (g.hT▸h2);have n1:notStar a'=true:=by
   cases a'<;>first|rfl|(cases a<;>cases (show false=true from h3))
  have n2:notStar c'=true:=by
   cases c'<;>first|rfl|(cases c<;>simp[Co] at h4)
  refine PE.imp (kK (ER g c) hg hm xQ (jP (PE.cf (sE a g h3)) (jP (IA g h4) eO n2) n1) hn hdb (ag n1) ?_) λU H Q q=>⟨_,q,λx H1 z=>⟨x,rfl,z⟩⟩
  rw[ag n2]
  rfl
 | .lc elt sel it,X,S,E,g,e,h=>by
  sleep 2
  split at h
  iterate 3 (split at h;rotate_left;cases h)
  simp only[Bool.and_eq_true] at h;obtain ⟨⟨⟨h1,h2⟩,h3⟩,h4⟩:=h;intro Y s U H Q I q;obtain ⟨hc,q⟩:=(show G.cm=true/\wI G it U H (λJ H1=>xT (λσ' H' Q'=>wE G elt σ' H' Q' (λ_ _=>False)) J (none::gf U sel) H1 Q) (E U) from q);rw[xJ] at q;obtain ⟨cl,C⟩:=cE g I.ok h1;exact zE (g.cm hc) C (sI it g h2) (λs H fp=>sE elt (g.comp C s H fp) h3) (bP h4 _) Y s U H Q I q
 | .lci elt c sel it,X,S,E,g,e,h=>by cases (show false=true from h)
 | .lct elt n sel it,X,S,E,g,e,h=>by
  sleep 2
  split at h
  iterate 3 (split at h;rotate_left;cases h)
  simp only[Bool.and_eq_true,decide_eq_true_eq] at h;obtain ⟨⟨⟨⟨⟨h1,h5⟩,h6⟩,h2⟩,h3⟩,h4⟩:=h;intro Y s U H Q I q;obtain ⟨hc,q⟩:=(show G.cm=true/\wI G it U H (λJ H1=>LCt G.R.K n (λσ' H' Q'=>wE G elt σ' H' Q' (λ_ _=>False)) J (List.replicate n none++gf U sel) H1 Q) (E U) from q);rw[Af,<-uM h6] at q;obtain ⟨cl,C⟩:=cE g I.ok h1;exact mW (g.cm hc) C (sI it g h2) (λs H fp=>uZ (g.comp C s H fp) hc h5) (λs H fp=>j0) (λs H fp=>sE elt (g.comp C s H fp) h3) (bP h4 _) Y s U H Q I q
 | .dnew,X,S,E,g,e,h=>by
  sleep 3
  refine PE.imp xR λU H Q q=>?_
  have q':newD H Q:=q;unfold newD at q';exact q'
 | .up a,X,S,E,g,e,h=>by cases (show false=true from h)
 | .isiT a cs,X,S,E,g,e,h=>by
  sleep 5
  rename_i pos _ xn p1 _ _ a' _ es' kk pos2;simp only[Bool.and_eq_true,decide_eq_true_eq] at h;obtain ⟨⟨⟨⟨⟨h1,rfl⟩,h2⟩,h3⟩,h4⟩,h5⟩:=h;obtain ⟨hg,hdb⟩:=g.glob h1;obtain ⟨hm,hn⟩:=g.tab.gbl _ (g.hT▸h2);have n1:notStar a'=true:=by
   cases a'<;>first|rfl|(cases a<;>cases (show false=true from h3))
  refine PE.imp (kK (CT g cs) hg hm xQ (jP (PE.cf (sE a g h3)) (jP (zl (xW g h4)) eO rfl) n1) hn hdb (ag n1) ?_) λU H Q q=>⟨_,q,λx H1 z=>⟨?_,λp hp=>⟨x,p,rfl,?_,z p hp⟩⟩⟩
  ·rw[ag (show notStar (.Tuple es' kk pos2)=true from rfl)]
   rfl
  ·exact kZ (by rw[length_map];omega)
  ·rw[av,List.map_map]
   rfl
 | .uz c,X,S,E,g,e,h=>by
  sleep 4
  simp only[Bool.and_eq_true,decide_eq_true_eq] at h;obtain ⟨⟨h1,h2⟩,h3⟩:=h;obtain ⟨hg,hdb⟩:=g.glob h1;refine PE.imp (yr (g.tab.inip c (g.hT▸h3)) hg (g.tab.gcl _ _ (g.hT▸h2)) hdb) λU H Q q=>?_
  have q':yf (G.R.cad c) H Q:=q;unfold yf at q';exact q'
 | .vals tp a,X,S,E,g,e,h=>by
  sleep 8
  simp only[Bool.and_eq_true,decide_eq_true_eq] at h;obtain ⟨⟨⟨⟨⟨⟨h1,rfl⟩,h2⟩,h3⟩,rfl⟩,h4⟩,h5⟩:=h;obtain ⟨hg,hdb⟩:=g.glob h1;obtain ⟨hm,hn⟩:=g.tab.gbl _ (g.hT▸h2);intro Y s U H Q I q;obtain ⟨hc,q⟩:=(show G.cm=true/\wE G a U H (λx H1=>p6 tp x H1 Q) (E U) from q);refine Cw tp (g.cm hc) hg hm (PE.cf (sE a g h3)) (cb h4 _ _ _) h5 Y s U H Q I ⟨_,q,λx H1 z=>?_⟩;unfold p6 at z;exact z
 | .disp ks es,X,S,E,g,e,h=>by
  sleep 1
  simp only[Bool.and_eq_true,decide_eq_true_eq] at h;obtain ⟨⟨⟨⟨h1,h2⟩,h3⟩,h4⟩,h5⟩:=h;intro Y s U H Q I q;have hk:=qO h1;have hv:=zM h2;refine Cg (Lq es g h1 h2 h3) (qB h1) nofun (λz=>by rw[z] at hk;simp at hk;omega) nofun Y s U H Q I λp hp=>?_
  refine ⟨_,q p hp,λxs H2 hl z=>?_⟩;unfold vm at z;exact ⟨z.1,G7 ks xs,yd,by have:=uT (ks:=ks) (xs:=xs);omega,z.2⟩
 | .dzip a b,X,S,E,g,e,h=>by
  sleep 8
  simp only[Bool.and_eq_true,decide_eq_true_eq] at h;obtain ⟨⟨⟨⟨⟨⟨⟨⟨⟨h1,rfl⟩,h2⟩,h3⟩,rfl⟩,h4⟩,h5⟩,h6⟩,n1⟩,n2⟩:=h;obtain ⟨hg,hdb⟩:=g.glob h1;obtain ⟨hm,hn⟩:=g.tab.gbl _ (g.hT▸h2);obtain ⟨hg',hdb'⟩:=g.glob h3;obtain ⟨hm',hn'⟩:=g.tab.gbl _ (g.hT▸h4);intro Y s U H Q I q;obtain ⟨hc,q⟩:=(show G.cm=true/\wE G a U H (λx H1=>wE G b U H1 (λy H2=>II G.R.K x y H2 Q) (E U)) (E U) from q);refine BQ (g.cm hc) hg hm hg' hm' (jP (PE.cf (sE a g h5)) (jP (PE.cf (sE b g h6)) eO n2) n1) (ag n1) (by rw[ag n2];rfl) Y s U H Q I ⟨_,q,λx H1 z=>⟨_,z,λy H2 z=>?_⟩⟩;unfold II at z;exact ⟨_,_,rfl,g.hK▸z⟩
termination_by structural x=>x
theorem sI:∀ (x:Fz){X:Cx}{S:Sn}{E:St->XK},Gd X G S k E->∀ {t e:Expr},mI S x t e=true->PI X t e (λU H R=>wI G x U H R (E U))
 | .rng1 a,X,S,E,g,t,e,h=>by
  sleep 4
  simp only[Bool.and_eq_true,decide_eq_true_eq] at h;obtain ⟨⟨⟨⟨h1,rfl⟩,h2⟩,h3⟩,n1⟩:=h;obtain ⟨hg,hdb⟩:=g.glob h1;obtain ⟨hm,hn⟩:=g.tab.gbl _ (g.hT▸h2);intro Y s U H R I q;refine w8 hg hm (jP (PE.cf (sE a g h3)) eO n1) (ag n1) Y s U H R I ⟨_,q,λx H1 z=>?_⟩
  split at z
  ·exact ⟨_,rfl,z.1,z.2.1,z.2.2⟩
  ·exact z.elim
 | .rng2 a b,X,S,E,g,t,e,h=>by cases (show false=true from h)
 | .enm a,X,S,E,g,t,e,h=>by
  sleep 4
  simp only[Bool.and_eq_true,decide_eq_true_eq] at h;obtain ⟨⟨⟨⟨⟨h1,rfl⟩,h2⟩,h3⟩,n1⟩,h5⟩:=h;obtain ⟨hg,hdb⟩:=g.glob h1;obtain ⟨hm,hn⟩:=g.tab.gbl _ (g.hT▸h2)
  split at h5
  ·intro Y s U H R I q;refine Dc hg hm (jP (PE.cf (sE a g h3)) eO n1) (ag n1) Y s U H R I ⟨_,q,λx H1 z=>?_⟩
   split at z
   ·unfold Be at z;exact ⟨_,rfl,z.1,z.2⟩
   ·exact z.elim
  ·cases h5
 | .seq a,X,S,E,g,t,e,h=>by
  conv at h=>lhs;whnf
  intro Y s U H R I q;have q':wE G a U H (λx H1=>match x with| .ref p=>sF G.R.K p H1 R|_=>False) (E U):=q;rw[g.hK] at q';refine az (sE a g h Y s U H _ I q') λv s1 ⟨x,H1,I1,r1,z⟩=>?_
  dsimp only at z
  split at z
  ·unfold sF at z;rcases z with ⟨⟨xs,hx⟩,z⟩|⟨⟨xs,hx⟩,z⟩
   ·exact w6 I1 r1 hx z
   ·exact zN I1 r1 hx z
  ·exact z.elim
 | .zip a b,X,S,E,g,t,e,h=>by
  sleep 4
  simp only[Bool.and_eq_true,decide_eq_true_eq] at h;obtain ⟨⟨⟨⟨⟨⟨⟨h1,rfl⟩,h2⟩,h3⟩,h4⟩,n1⟩,n2⟩,h5⟩:=h;obtain ⟨hg,hdb⟩:=g.glob h1;obtain ⟨hm,hn⟩:=g.tab.gbl _ (g.hT▸h2)
  split at h5
  ·intro Y s U H R I q;refine GS hg hm (jP (PE.cf (sE a g h3)) (jP (PE.cf (sE b g h4)) eO n2) n1) (ag n1) (by rw[ag n2];rfl) Y s U H R I ⟨_,q,λx H1 z=>⟨_,z,λy H2 z=>?_⟩⟩;unfold CC at z;exact ⟨_,_,rfl,g.hK▸z⟩
  ·cases h5
termination_by structural x=>x
theorem sO:∀ (x:JL){X:Cx}{S:Sn}{E:St->XK},Gd X G S k E->∀ {e:Option Expr},mO S x e=true->PO X e (λU H Q=>wO G x U H Q (E U))
 | .no,X,S,E,g,none,h=>Dk
 | .no,X,S,E,g,some _,h=>by cases (show false=true from h)
 | .yes x,X,S,E,g,none,h=>by cases (show false=true from h)
 | .yes x,X,S,E,g,some e,h=>by
  conv at h=>lhs;whnf
  intro Y s U H Q I q;refine AR (PE.cf (sE x g h)) Y s U H Q I ⟨_,q,λy H1 z=>?_⟩
  split at z
  ·exact ⟨_,rfl,z⟩
  ·exact z.elim
termination_by structural x=>x
theorem sT:∀ (x:Tx){X:Cx}{S:Sn}{E:St->XK},Gd X G S k E->∀ {e:Expr},mT S x e=true->PT X e (λU H Q=>wT G x U H Q (E U))
 | .not a,X,S,E,g,e,h=>by
  sleep 2
  exact Fy (sT a g h)
 | .and a b,X,S,E,g,e,h=>by
  sleep 3
  simp only[Bool.and_eq_true] at h;exact PT.imp (Gp (PT.cf (sT a g h.1)) (yp (sT b g h.2))).pt λU H Q q=>⟨_,q,λk H1 z=>by rwa [cP] at z⟩
 | .or a b,X,S,E,g,e,h=>by
  sleep 3
  simp only[Bool.and_eq_true] at h;exact PT.imp (HJ (PT.cf (sT a g h.1)) (xp (sT b g h.2))).pt λU H Q q=>⟨_,q,λk H1 z=>by rwa [cP] at z⟩
 | .cmp op a b,X,S,E,g,e,h=>by
  sleep 3
  simp only[Bool.and_eq_true,decide_eq_true_eq] at h;obtain ⟨⟨⟨rfl,ha⟩,hb⟩,hn⟩:=h;refine PT.imp (CY (cR.cf (g.cmp op)) (PE.cf (sE a g ha)) (PE.cf (sE b g hb)) (cZ hn _)) λU H Q q=>⟨_,q,λx H1 q1=>⟨_,q1,λy H2 q2=>⟨_,q2,λz H3 q3=>?_⟩⟩⟩
  split at q3
  ·exact ⟨_,rfl,q3⟩
  ·exact q3.elim
 | .cmp2 o1 o2 a b c,X,S,E,g,e,h=>by
  sleep 3
  simp only[Bool.and_eq_true,decide_eq_true_eq] at h;obtain ⟨⟨⟨⟨⟨rfl,rfl⟩,ha⟩,hb⟩,hc⟩,hn⟩:=h;refine PT.imp (zy (cR.cf (g.cmp o1)) (cR.cf (g.cmp o2)) (PE.cf (sE a g ha)) (PE.cf (sE b g hb)) (PE.cf (sE c g hc)) (kg hn)) λU H Q q=>⟨_,q,λx H1 q1=>⟨_,q1,λy H2 q2=>⟨_,q2,λz H3 q3=>?_⟩⟩⟩
  split at q3
  ·refine ⟨_,rfl,?_⟩;rw[cP] at q3
   split at q3
   ·rename_i hk;rw[if_pos hk];refine ⟨_,q3,λw H4 q4=>⟨_,q4,λz H5 q5=>?_⟩⟩
    split at q5
    ·exact ⟨_,rfl,q5⟩
    ·exact q5.elim
   ·rename_i hk;rw[if_neg hk];exact ⟨_,rfl,q3⟩
  ·exact q3.elim
 | .val x,X,S,E,g,e,h=>by
  have h:(mE S x e&&plainT e)=true:=h;simp only[Bool.and_eq_true] at h;refine PT.imp (zD (PE.cf (sE x g h.1)) (plainT_ok h.2 _)) λU H Q q=>⟨_,q,λy H1 z=>?_⟩
  exact g.hK▸F5 z
termination_by structural x=>x
theorem Lq:∀ (x:f7){X:Cx}{S:Sn}{E:St->XK},Gd X G S k E->∀ {ks:List Str}{keys:List (Option Expr)}{e:List Expr}{pos:Pos},oh ks keys=true->i8 S x e=true->x.len=ks.length->PQ X pos keys e (λU H R=>∃ Q,wEs G x U H Q (E U)/\∀ xs H1,xs.length=x.len->Q xs H1->R (JO ks xs) H1)
 | .nil,X,S,E,g,ks,keys,[],pos,h1,h,hl=>by
  obtain rfl:ks=[]:=List.eq_nil_of_length_eq_zero hl.symm;rw[kJ h1];exact λY s U H R I ⟨Q,q,i⟩=>EE Y s U H R I (i [] H rfl q)
 | .nil,X,S,E,g,_,_,_::_,pos,h1,h,hl=>by cases (show false=true from h)
 | .cons x xs,X,S,E,g,_,_,[],pos,h1,h,hl=>by cases (show false=true from h)
 | .cons x xs,X,S,E,g,[],keys,e::es,pos,h1,h,hl=>by cases hl
 | .cons x xs,X,S,E,g,c::ks,keys,e::es,pos,h1,h,hl=>by
  have h:(mE S x e&&notStar e&&i8 S xs es)=true:=h;simp only[Bool.and_eq_true] at h;obtain ⟨j,p,r,rfl,h2⟩:=iK h1;intro Y s U H R I ⟨Q,q,i⟩;refine CA xH (PE.cf (sE x g h.1.1)) (Lq xs g h2 h.2 (Nat.succ.inj hl)) Y s U H R I ?_;exact ⟨_,q,λy H2 z=>⟨_,z,λys H3 hy w=>i (y::ys) H3 (congrArg Nat.succ hy) w⟩⟩
termination_by structural x=>x
theorem uB:∀ (x:f7){X:Cx}{S:Sn}{E:St->XK},Gd X G S k E->∀ {e:List Expr},i8 S x e=true->PA X e (λU H Q=>wEs G x U H Q (E U))
 | .nil,X,S,E,g,[],h=>eO
 | .nil,X,S,E,g,_::_,h=>by cases (show false=true from h)
 | .cons x xs,X,S,E,g,[],h=>by cases (show false=true from h)
 | .cons x xs,X,S,E,g,e::es,h=>by
  have h:(mE S x e&&notStar e&&i8 S xs es)=true:=h;simp only[Bool.and_eq_true] at h;exact jP (sE x g h.1.1) (uB xs g h.2) h.1.2
termination_by structural x=>x
end
end
end L3
namespace L2
open PySem PySem.Spec PyProof.Rows
variable {scope:Scope}{cl:List (Str×Addr)}{fr:List Str}{sel:List Nat}{s:Shared}
section
variable {X:Cx}
def fY {elt iter tgt:Expr}{ifs:List Expr}{xs:List Str}{y:Str}{py pos spos:Pos}{wi:TI}{tg:TG}{tc:TT}{te:TE}{ni:Nat}(hc:X.calm=true)(S:bB X scope cl xs fr sel)(hi:PI X tgt iter wi)
  (hg:∀ (s:Shared) (H:Hp) (fp:List Addr),PG (fR X scope cl (xs++fr) s H fp) tgt tg) (ht:∀ (s:Shared) (H:Hp) (fp:List Addr),Jz (fR X scope cl (xs++fr) s H fp) ifs tc)
  (he:∀ (s:Shared) (H:Hp) (fp:List Addr),PE (fR X scope cl (xs++fr) s H fp) elt te) (hs:∀ x,foldedSetIterable iter X.env x=pure x) (hN:X.N.Nodup) (hni:X.N[ni]? =some y) (hy:X.env.scope.names.lookup y=some .local)
  (hsw:swapsWith (.ListComp elt [⟨tgt,iter,ifs,0⟩] scope pos) (some (.Name y py)) spos.line X.env=pure true):PS X (.Assign [.Name y py] (.ListComp elt [⟨tgt,iter,ifs,0⟩] scope pos) spos) (λD U H=>Il wi tg tc te xs sel U H λv H1=>D.nx (U.set ni (some v)) H1):=by
 intro Y s U H DD I h;rw[exec_Assign_Name_used _ _ _ _ hsw];refine wpAny_bind (wpAny_standAt (wpAny_bind ?_));show wpAny _ _ (do let _ <-comprehension (.ListComp elt [⟨tgt,iter,ifs,0⟩] scope pos) scope X.env _ (newList []) false (eval iter X.env) (some (assign (.Name y py) X.env))) _ _ s;refine wpAny_bind (wpAny_mono (wpAny_comprehension_free (use:=some (assign (.Name y py) X.env)) (Q:=λ_ s'=>SP X Y DD .next s') rfl hs S.clos S.kind S.names ?_) (λ_ s' hq=>wpAny_pure (wpAny_pure hq)) λ_ _ e=>e);refine az (hi Y s U H _ I h) λv s1 h1=>az h1 λitv s2 h2=>?_
 obtain ⟨it,fp,tn,J,H2,e,I2,T,pU,f2,h2⟩:=h2;subst e;refine wpAny_newObj_type ?_;have hD:H2 s2.heap.objs.size=none:=I2.hok.fresh (Nat.le_refl _);have I3:Inv X Y U (upd H2 s2.heap.objs.size (.lst [])) { s2 with heap:=s2.heap.push { cls:=.type "list",dict:=none,data:=.seq ([]:List Value).toArray } }:=
  I2.laid (t':=s2.toks) (λb u e=>Heap.get?_push_of_some _ e) (Nat.le_refl _) ⟨Nat.zero_le _,[],0,.nil,Heap.get?_push_size _ rfl⟩
 have fo2:∀ b ∈ fp,b<s2.heap.objs.size:=λb hb=>by
  obtain ⟨o,ho,_⟩:=T.obj _ _ pU b hb;exact Heap.lt_size ho
 have f3:∀ b ∈ fp,iQ X Y (upd H2 s2.heap.objs.size (.lst [])) b:=λb hb=>⟨by rw[ai (Nat.ne_of_lt (fo2 b hb))];exact (f2 b hb).1,(f2 b hb).2⟩
 have st3:tn 0 (s2.heap.push { cls:=.type "list",dict:=none,data:=.seq ([]:List Value).toArray }):=T.keep _ _ _ pU λb hb o e=>Heap.get?_push_of_some _ e
 have fo3:∀ b ∈ fp,b<(s2.heap.push { cls:=.type "list",dict:=none,data:=.seq ([]:List Value).toArray }).objs.size:=λb hb=>by
  rw[Heap.size_push];exact Nat.lt_succ_of_lt (fo2 b hb)
 obtain ⟨W,⟨m0,w0⟩,turn⟩:=h2 _ hD;generalize s2.heap.objs.size=D at*;generalize hs3:({ s2 with heap:=s2.heap.push { cls:=.type "list",dict:=none,data:=.seq ([]:List Value).toArray } }:Shared)=s3 at*;have st3':tn 0 s3.heap:=by rw[<-hs3];exact st3
 have fo3':∀ b ∈ fp,b<s3.heap.objs.size:=by rw[<-hs3];exact fo3
 refine wpAny_newFunctionEnv S.nocell (by intro y hy;simp at hy) (λh' hns hsb=>?_) S.kind;have keep:∀ b o,s3.heap.get? b=some o->h'.get? b=some o:=λb o e=>(hsb.2 b (Nat.ne_of_lt (Heap.lt_size e))).trans (Heap.get?_push_of_some _ e)
 have I4:=qy (tk:=s3.toks+([]:List (Str×Value)).length) S I3 f3 fo3' hns keep;have st4:tn 0 h':=T.keep _ _ _ st3' λb hb o e=>keep b o e
 have stat:∀ {H':Hp},(∀ b ∈ fp,H' b=none)->∀ b ∈ fp,iQ (fR X scope cl (xs++fr) s3 (upd H2 D (.lst [])) fp) (X.pn++Y) H' b:=λ{H'} hn b hb=>
  ⟨hn b hb,Nat.ne_of_lt (fo3' b hb),λz=>(mem_cons.mp (I3.iS b z)).elim (f3 b hb).2.1 (f3 b hb).2.2.1,.inl hb,λy c hy=>(f3 b hb).2.2.2.2.1 y c (S.sub y c hy),λp hp=>(f3 b hb).2.2.2.2.2 p (by simpa [fR] using hp)⟩
 have loop:codeAny (model X.prog X.w) X.A (.compLoop (.ListComp elt [⟨tgt,iter,ifs,0⟩] scope pos) 0 (.ref it) (.ref D) (compEnvC scope cl s3.heap.objs.size X.env))
   (compPost (model X.prog X.w) X.A X.xe (some (assign (.Name y py) X.env)) (λ_ s'=>SP X Y DD .next s') (.ref D) s3.heap.objs.size) { s3 with heap:=h',toks:=s3.toks+([]:List (Str×Value)).length }:=by
  refine codeAny_loop rfl (λn s'=>∃ i σ' H',Inv (fR X scope cl (xs++fr) s3 (upd H2 D (.lst [])) fp) (X.pn++Y) σ' H' s'/\tn i s'.heap/\(∀ b ∈ fp,H' b=none)/\W i n σ' H') (λn s5 hI=>?_) m0 ⟨0,_,_,I4,st4,λb hb=>(f3 b hb).1,w0⟩;show wpAny _ _ ((compTurn (.ListComp elt [⟨tgt,iter,ifs,0⟩] scope pos) 0 (.ref it) (.ref D) (compEnvC scope cl s3.heap.objs.size X.env)).onRaise (λx=>do noteFrame x (compEnvC scope cl s3.heap.objs.size X.env);theTreesLotGoes x)) _ _ s5;refine wpAny_noted ?_;refine uS (ht s3 (upd H2 D (.lst [])) fp).1 ?_;obtain ⟨i,σ5,H5,I5,st5,fr5,w5⟩:=hI;rcases turn i n σ5 H5 w5 with ⟨stop,q⟩|⟨go,Nn,hNn,step⟩
  ·refine az (T.done (fR X scope cl (xs++fr) s3 (upd H2 D (.lst [])) fp) rfl rfl rfl hc i _ s5 σ5 H5 _ I5 (stat fr5) st5 stop) λr s6 ⟨hr,I6⟩=>?_
   subst hr;obtain ⟨m,hn,_⟩:=I6.loc;have J:Inv X Y U H5 s6:=I3.ym (ch:=fp) I6.os I6.base I6.hok I6.bare λb hb=>⟨(f3 b hb).2.2.2.1,(f3 b hb).2.1,(f3 b hb).2.2.2.2.1,(f3 b hb).2.2.2.2.2⟩
   have fC:H5 s3.heap.objs.size=none:=I6.free;have nL:s3.heap.objs.size≠X.env.locals:=Ne.symm (Nat.ne_of_lt I3.lt);have nC:∀ z c,X.env.cells.lookup z=some c->c≠s3.heap.objs.size:=λz c e=>by
    obtain ⟨v,o,ho,_⟩:=I3.cell z c e;exact Nat.ne_of_lt (Heap.lt_size ho)
   show wpAny _ _ (assign (.Name y py) X.env (.ref D)) _ _ s6;refine wpAny_assign_Name (nz J hN hni (.inl hy) (v:=.ref D) rfl (λs7 J7 hsb=>?_) (.inr hy));obtain ⟨a,sb,ha⟩:=hsb;have hne:s3.heap.objs.size≠a:=by
    rcases ha with ha|ha
    ·rw[ha];exact nL
    ·exact Ne.symm (nC _ _ ha)
   refine ⟨m,hn.sameBut sb hne,λh'' hs''=>⟨_,H5,?_,q⟩⟩;exact J7.turned (h':=h'') (t':=s7.toks) (it:=s3.heap.objs.size) (λb o hb e=>(hs''.2 b hb).trans e) fC nL (.inr I3.sz) nC λp hp=>Nat.ne_of_lt (Heap.lt_size (I3.pin p hp).1)
  ·have fin:∀ {σ8:St}{H10:Hp}{s10:Shared},Inv (fR X scope cl (xs++fr) s3 (upd H2 D (.lst [])) fp) (X.pn++Y) σ8 H10 s10/\tn (i+1) s10.heap/\(∀ b ∈ fp,H10 b=none)->Nn σ8 H10->∃ m',m'<n/\∃ i σ' H',Inv (fR X scope cl (xs++fr) s3 (upd H2 D (.lst [])) fp) (X.pn++Y) σ' H' s10/\tn i s10.heap/\(∀ b ∈ fp,H' b=none)/\W i m' σ' H':=λ⟨I,t,f⟩ nn=>by
    obtain ⟨m',hm,w10⟩:=hNn _ _ nn;exact ⟨m',hm,i+1,_,_,I,t,f,w10⟩
   refine az (T.item (fR X scope cl (xs++fr) s3 (upd H2 D (.lst [])) fp) rfl rfl rfl hc i _ s5 σ5 H5 _ I5 (stat fr5) st5 go) λr s6 ⟨u,hr,h6⟩=>?_
   subst hr;refine az h6 λ_ s7 ⟨xv,H7,I7,r7,y7,st7,fr7⟩=>?_
   have I7':=I7.pinned (stat fr7) (T.obj _ _ st7);refine DU (hg s3 _ fp _ s7 σ5 H7 xv u _ I7' r7 (step xv _ y7)) λ_ s8 ⟨σ8,H8,I8,q8⟩=>?_
   refine DU ((ht s3 _ fp).2 _ s8 σ8 H8 _ I8 q8) λok s9 ⟨H9,I9,q9⟩=>?_
   have back:∀ {H10:Hp}{s10:Shared},Inv (fR X scope cl (xs++fr) s3 (upd H2 D (.lst [])) fp) _ σ8 H10 s10->Inv (fR X scope cl (xs++fr) s3 (upd H2 D (.lst [])) fp) (X.pn++Y) σ8 H10 s10/\tn (i+1) s10.heap/\(∀ b ∈ fp,H10 b=none):=λ{H10 s10} I10=>⟨I10.e9,T.keep _ _ _ st7 λb hb o e=>(I10.pin (b,o) (mem_append_right _ (mem_append_right _ (bU hb e)))).1,λb hb=>by
    obtain ⟨o,e,d⟩:=T.obj _ _ st7 b hb;exact (I10.pin (b,o) (mem_append_right _ (mem_append_right _ (bU hb e)))).2.1⟩
   refine ⟨λek=>?_,λek=>wpAny_pure ⟨rfl,fin (back I9) (q9.2 ek)⟩⟩;refine DU (he s3 _ fp _ s9 _ _ _ I9 (q9.1 ek)) λuv s10 ⟨vv,H10,I10,r10,zs,hz,hzl,n10⟩=>?_
   refine DU (iV (X:=fR X scope cl (xs++fr) s3 (upd H2 D (.lst [])) fp) _ s10 _ H10 (.ref D) [vv] (.ref D) [uv] (λ_ H'=>H'=upd H10 D (.lst (zs++[vv]))) I10 rfl (.cons r10 .nil) ⟨D,zs,vv,rfl,rfl,hz,hzl,rfl⟩) λ_ s11 ⟨_,H11,I11,_,e11⟩=>?_
   subst e11;exact wpAny_pure ⟨rfl,fin (back I11) n10⟩
 exact codeAny_compStart_list loop (T.self _ 0 _ _ _ st4 loop)
def vx {elt iter:Expr}{x y:Str}{px py pos spos:Pos}{wi:TI}{te:TE}{ni:Nat}(hc:X.calm=true)(S:bB X scope cl [x] fr sel)(hi:PI X (.Name x px) iter wi)
  (he:∀ (s:Shared) (H:Hp) (fp:List Addr),PE (fR X scope cl (x::fr) s H fp) elt te) (hs:∀ x,foldedSetIterable iter X.env x=pure x) (hN:X.N.Nodup) (hni:X.N[ni]? =some y) (hy:X.env.scope.names.lookup y=some .local)
  (hsw:swapsWith (.ListComp elt [⟨.Name x px,iter,[],0⟩] scope pos) (some (.Name y py)) spos.line X.env=pure true):PS X (.Assign [.Name y py] (.ListComp elt [⟨.Name x px,iter,[],0⟩] scope pos) spos) (λD U H=>Lo wi te sel U H λv H1=>D.nx (U.set ni (some v)) H1):=λY s U H D I h=>
 fY hc S hi.up (λs H fp=>tX S) (λ_ _ _=>j0) he hs hN hni hy hsw Y s U H D I ⟨_,h,λ_ _ q=>q.g⟩
section
variable {prog:Program}{w:World}{A:Around}{E:MC}
def mY {it t:Addr}{items:Array Value}(hne:t≠it):∀ (n i:Nat) (s:Shared) (Q:List Value->Shared->Prop),s.heap.IsListIter it t i->s.heap.IsList t items->i+n<=items.size->
  (∀ h',h'.IsListIter it t (i+n)->Heap.SameBut it s.heap h'->Q ((items.toList.drop i).take n) { s with heap:=h' })->wpAny (model prog w) A (draw (.ref it) n) Q E s
 |0,i,s,Q,hit,_,_,hQ=>by
  show wpAny _ _ (pure []) Q E s;exact wpAny_pure (by simpa using hQ s.heap hit (Heap.SameBut.refl ..))
 |n+1,i,s,Q,hit,ht,hle,hQ=>by
  have hlt:i<items.size:=by omega
  show wpAny _ _ (pyNext (.ref it) >>= _) Q E s;refine wpAny_bind (wpAny_pyNext_list_item hit ht (x:=items[i]) (by simp[hlt]) λh₁ hit₁ hs₁=>?_);refine wpAny_bind (wpAny_holding (mY hne n (i+1) _ _ hit₁ (ht.extBut hs₁.extBut hne) nofun λh₂ hit₂ hs₂=>wpAny_pure ?_));have hd:items.toList.drop i=items[i]::items.toList.drop (i+1):=by simp[List.drop_eq_getElem_cons,hlt]
  have:=hQ h₂ (by rw[show i+(n+1)=i+1+n by omega];exact hit₂) (hs₁.trans hs₂);rw[hd,List.take_succ_cons] at this;exact this
def iG {t:Addr}{items:Array Value}{Q:List Value->Shared->Prop}(hh:A.handled=none)(ht:s.heap.IsList t items)(hty:s.TypeIs (.ref t) "list")
  (hQ:∀ h',Heap.ExtBut s.heap.objs.size s.heap h'->Q items.toList { s with heap:=h' }):wpAny (model prog w) A (unpackItems (.ref t) items.size none) Q E s:=by
 have hlt:t≠s.heap.objs.size:=by obtain ⟨o,ho,_⟩:=id ht;exact Nat.ne_of_lt (Heap.lt_size ho)
 unfold unpackItems;refine wpAny_bind ?_
 ·unfold notIterableAtAll;refine wpAny_bind (wpAny_specialOf hty PySem.F.slot_list_iter.lookup ?_);refine wpAny_pure ?_;simp only[Bool.false_eq_true,if_false];refine wpAny_bind (wpAny_holding (wpAny_pyIter_list ht ?_));refine wpAny_bind (wpAny_holding (mY hlt items.size 0 _ _ ⟨_,Heap.get?_push_size _ rfl,rfl,rfl⟩ (ht.push _) nofun λh₁ hit₁ hs₁=>?_));have hall:List.take items.size (List.drop 0 items.toList)=items.toList:=by
   rw[drop_zero];exact take_of_length_le (by simp)
  rw[hall];rw[if_neg (by simp)];have ht₁:h₁.IsList t items:=(ht.push _).extBut hs₁.extBut hlt;refine wpAny_bind (wpAny_holding (wpAny_pyNext_list_end hh hit₁ ht₁ (by simp) λh₂ he₂=>?_));simp only[Option.isSome_none,Bool.false_eq_true,if_false];refine wpAny_pure (hQ h₂ λb o hb e=>he₂ b o hb (hs₁.extBut b o hb (Heap.get?_push_of_some _ e)))
end
def EY {es:List Expr}{k:Nat}{pos:Pos}{t:B9}{n:Nat}(hc:X.calm=true)(h:Gn X es t)
  (hn:(assignEach es X.env).length=n) (hst:(assignEach es X.env).findIdx? (·.1)=none){Y:MD}{U:St}{H:Hp}{a:Addr}{u:Value}{xs:List V}{Q:St->Hp->Prop}(I:Inv X Y U H s) (r:RelV (.ref a) u)
  (hq:aS X.K H a xs) (hl:xs.length=n) (hw:t xs U H Q):wpAny (model X.prog X.w) X.A (assign (.Tuple es k pos) X.env u) (λ_ s'=>∃ σ' H',Inv X Y σ' H' s'/\Q σ' H') X.xe s:=by
 cases r;obtain ⟨its,rv,p,hz⟩:=I.list hq;rw[assign_Tuple];refine wpAny_bind (wpAny_standAt ?_);unfold unpack;have e1:(assignEach es X.env).length=its.toArray.size:=by
  rw[hn,<-hl];simp[rv.length]
 rw[e1,hst];refine wpAny_bind (wpAny_holding (iG (I.ok.hd hc) p.isList p.isList.typeIs λh' hx=>?_));have I1:Inv X Y U H { s with heap:=h' }:=I.kept (t':=s.toks) λb o e=>hx b o (Nat.ne_of_lt (Heap.lt_size e)) e
 exact h Y _ U H xs _ Q I1 (by simpa using rv) hw
end
end L2
namespace L3
open PySem PySem.Spec L2
set_option maxHeartbeats 2000000
abbrev DX:Expr->Bool
 | .Tuple ..=>false
 |_=>true
abbrev xj (S:Sn):List Nat->List Expr->Bool
 | [],[]=>true
 |i::is,.Name x _::r=>S.loc i x&&xj S is r
 |_,_=>false
abbrev KS (S:Sn):JE->Expr->Bool
 | .nm i,e=>match e with| .Name x _=>S.loc i x|_=>false
 | .tp is,e=>match e with| .Tuple ts _ _=>xj S is ts|_=>false
 | .nt i is,e=>match e with| .Tuple y1 _ _=>(match y1 with| [y2,y3]=>(match y2 with| .Name x _=>(match y3 with| .Tuple ts _ _=>S.loc i x&&xj S is ts|_=>false)|_=>false)|_=>false)|_=>false
abbrev Sn.tP (S:Sn)(i:Nat)(x:Str):Bool:=decide (S.N[i]? =some x)&&decide (S.sc.names.lookup x=some .local)
abbrev HK (S:Sn)(is:List Nat)(ts:List Expr):Bool:=match is with
 | [i,j]=>(match ts with| [a,b]=>(match a with| .Name x _=>(match b with| .Name y _=>S.tP i x&&(S.tP j y&&decide (i≠j))|_=>false)|_=>false)|_=>false)
 | [i,j,l]=>(match ts with| [a,b,c]=>(match a with| .Name x _=>(match b with| .Name y _=>(match c with| .Name z _=>S.tP i x&&(S.tP j y&&(S.tP l z&&(decide (i≠j)&&(decide (i≠l)&&decide (j≠l)))))|_=>false)|_=>false)|_=>false)|_=>false)
 |_=>false
mutual
noncomputable def mS (S:Sn):Sx->Stmt->Bool
 | .asg i e,s=>match s with| .Assign y1 e' _=>(match y1 with| [y2]=>(match y2 with| .Name x _=>S.loc i x&&mE S e e'|_=>false)|_=>false)|_=>false
 | .asgT is e,s=>match s with| .Assign y1 e' _=>(match y1 with| [y2]=>(match y2 with| .Tuple ts _ _=>xj S is ts&&mE S e e'&&DX e'|_=>false)|_=>false)|_=>false
 | .par is es,s=>match s with| .Assign y1 y2 _=>(match y1 with| [y3]=>(match y3 with| .Tuple ts kt pt=>(match y2 with| .Tuple vs k2 p2=>HK S is ts&&i8 S es vs&&Fe S.sc (.Tuple ts kt pt) (.Tuple vs k2 p2) (is.filterMap λi=>S.N[i]?)|_=>false)|_=>false)|_=>false)|_=>false
 | .sub o i v,s=>match s with| .Assign y1 v' _=>(match y1 with| [y2]=>(match y2 with| .Subscript o' i' _=>mE S o o'&&mE S i i'&&mE S v v'&&fv i'|_=>false)|_=>false)|_=>false
 | .fld o f v,s=>match s with| .Assign y1 v' _=>(match y1 with| [y2]=>(match y2 with| .Attribute o' f' _=>mE S o o'&&decide (f=f')&&mE S v v'|_=>false)|_=>false)|_=>false
 | .aug i op e,s=>match s with| .AugAssign y1 op' e' _=>(match y1 with| .Name x _=>S.loc i x&&decide (op=op')&&mE S e e'|_=>false)|_=>false
 | .augS o i op e,s=>match s with| .AugAssign y1 op' e' _=>(match y1 with| .Subscript o' i' _=>mE S o o'&&mE S i i'&&decide (op=op')&&mE S e e'&&fv i'|_=>false)|_=>false
 | .ret e,s=>match s with| .Return y1 _=>(match y1 with|some e'=>mE S e e'|_=>false)|_=>false
 | .retN,_=>false
 | .pass,_=>false
 | .brk,_=>false
 | .cont,_=>false
 | .expr e,s=>match s with| .Expr e' _=>mE S e e'&&rY e'|_=>false
 | .ife c a b,s=>match s with| .If c' a' b' _=>mT S c c'&&mB S a a'&&mB S b b'|_=>false
 | .whl c b,s=>match s with| .While c' b' y1 _=>(match y1 with| []=>mT S c c'&&mB S b b'|_=>false)|_=>false
 | .for t it b,s=>match s with| .For t' it' b' y1 _=>(match y1 with| []=>KS S t t'&&mI S it t' it'&&mB S b b'&&cI it'|_=>false)|_=>false
 | .rais e,s=>match s with| .Raise y1 y2 _=>(match y1 with|some e'=>(match y2 with|none=>mE S e e'|_=>false)|_=>false)|_=>false
 | .tryx b hs,s=>match s with| .Try b' y1 y2 y3 _=>(match y1 with|h0::hs'=>(match y2 with| []=>(match y3 with| []=>mB S b b'&&mH S hs (h0::hs')|_=>false)|_=>false)|_=>false)|_=>false
noncomputable def mB (S:Sn):lQ->List Stmt->Bool
 | .nil,l=>l.isEmpty
 | .cons s r,l=>match l with|s'::r'=>mS S s s'&&mB S r r'| []=>false
noncomputable def mH (S:Sn):AG->List ExceptHandler->Bool
 | .nil,l=>l.isEmpty
 | .cons c i b hs,l=>match l with| .ExceptHandler (some (.Name x _)) (some n) (b0::bs) _::r=>S.mK x&&decide (S.T.gcl.lookup x=some c)&&decide (S.N[i]? =some n)&&decide (S.sc.names.lookup n=some .local)&&mB S b (b0::bs)&&mH S hs r|_=>false
end
structure Gs (X:Cx) (G:Gx) (S:Sn) (k:Nat) (E:St->XK):Prop extends Gd X G S k E where
 xok:G.cm=true->G3 X E
 own:PassesOwn (model X.prog X.w) X.A X.env X.xe
 stk:X.stack=X.env::X.outer
 fr:X.env.frame=some X.env.locals
 fn:∀ x,X.fn x=true
variable {e elt:Expr}{ts:List Expr}{p:Pos}{gs:List Comprehension}{scope:Scope}
section
variable {X:Cx}{G:Gx}{S:Sn}{k:Nat}{E:St->XK}
def Gs.fZ (g:Gs X G S k E){Y:MD}{xe:MC}{E':St->XK}(hx:G3 (X.fZ Y xe) E')(ho:PassesOwn (model X.prog X.w) X.A X.env xe):Gs (X.fZ Y xe) G S k E' where
 hK:=g.hK
 hT:=g.hT
 sc:=g.sc
 N:=g.N
 nd:=g.nd
 pass:=nA hx
 cm:=g.cm
 room:=g.room
 un:=g.un
 tab:=g.tab
 fns:=g.fns
 xok:=λ_=>hx
 own:=ho
 stk:=g.stk
 fr:=g.fr
 fn:=g.fn
def Gs.bD (g:Gs X G S k E)(e:Value):Gs (X.bD e) { G with cm:=false } S k (λ_ _ _=>False) where
 hK:=g.hK
 hT:=g.hT
 sc:=g.sc
 N:=g.N
 nd:=g.nd
 pass:=λY U H s e s' I h=>by
  obtain ⟨e,H',C,dx,fs,T,_,_,_,_,_,_,_,_,_,q⟩:=h;exact q.elim
 cm:=λz=>by cases z
 room:=λz=>by cases z
 un:=g.un
 tab:=g.tab
 fns:=g.fns
 xok:=λz=>by cases z
 own:=PassesOwn.never
 stk:=g.stk
 fr:=g.fr
 fn:=g.fn
def lI (env:Env):∀ {is:List Nat}{ts:List Expr},xj S is ts=true->(assignEach ts env).length=is.length/\(assignEach ts env).findIdx? (·.1)=none
 | [],[],_=>⟨rfl,rfl⟩
 | [],_::_,h=>by simp[xj] at h
 |_::_,[],h=>by simp[xj] at h
 |i::is,t::ts,h=>by
  cases t<;>simp[xj] at h
  rename_i x p;obtain ⟨h1,h2⟩:=lI env h.2;have e:assignEach (.Name x p::ts) env=(false,assign (.Name x p) env)::assignEach ts env:=rfl;rw[e];refine ⟨by simp[h1],?_⟩;rw[List.findIdx?_cons];simp[h2]
def oz (g:Gs X G S k E):∀ {is:List Nat}{ts:List Expr},xj S is ts=true->Gn X ts (gl is)
 | [],[],_=>λY s U H vs us Q I r h=>nU Y s U H vs us Q I r ⟨length_eq_zero_iff.mp h.1,by
   have:=h.2;have e:vs=[]:=length_eq_zero_iff.mp h.1;subst e;exact this⟩
 | [],_::_,h=>by simp[xj] at h
 |_::_,[],h=>by simp[xj] at h
 |i::is,t::ts,h=>by
  cases t<;>simp[xj] at h
  rename_i x p;obtain ⟨hi,hx⟩:=g.loc h.1;have h1:PG X (.Name x p) (gA i):=gJ (by rw[g.N];exact g.nd) hi hx (.inl (g.fn x));have h2:=oz g h.2;intro Y s U H vs us Q I r q;refine gT h1 h2 rfl Y s U H vs us Q I r ?_;obtain ⟨hl,q⟩:=q;cases vs with
  |nil=>simp at hl
  |cons v vs=>exact ⟨v,vs,rfl,by simpa using hl,q⟩
def D6 (g:Gs X G S k E)(hc:G.cm=true){t:JE}(h:KS S t e=true):PG X e (λv U H Q=>wG U t G.R.K v H λσ1=>Q σ1 H):=by
 cases t with
 |nm i=>
  conv at h=>lhs;whnf
  split at h
  ·obtain ⟨hi,hx⟩:=g.loc h;exact gJ (by rw[g.N];exact g.nd) hi hx (.inl (g.fn _))
  ·cases h
 |tp is=>
  conv at h=>lhs;whnf
  split at h
  ·intro Y s U H v u Q I r q;obtain ⟨a,xs,rfl,hq,hl,q⟩:=q;obtain ⟨e1,e2⟩:=lI X.env h;rw[g.hK] at hq;rcases hq with hq|hq
   ·exact pC (g.cm hc) (oz g h) e1 e2 Y s U H _ u Q I r ⟨a,xs,rfl,hq,hl,hl,q⟩
   ·exact EY (g.cm hc) (oz g h) e1 e2 I r hq hl ⟨hl,q⟩
  ·cases h
 |nt i is=>
  conv at h=>lhs;whnf
  split at h
  ·split at h
   ·split at h
    ·split at h
     ·intro Y s U H v u Q I r q;simp only[Bool.and_eq_true] at h;obtain ⟨a,y,b,ys,rfl,hq,hb,hl,q⟩:=q;obtain ⟨e1,e2⟩:=lI X.env h.2;obtain ⟨hi,hx⟩:=g.loc h.1;rw[g.hK] at hq hb;refine pC (n:=2) (g.cm hc) (gT (gJ (by rw[g.N];exact g.nd) hi hx (.inl (g.fn _))) (gT (pC (g.cm hc) (oz g h.2) e1 e2) nU rfl) rfl) rfl rfl Y s U H _ u Q I r ⟨a,_,rfl,hq,rfl,y,_,rfl,.ref b,_,rfl,b,ys,rfl,hb,hl,hl,rfl,q⟩
     ·cases h
    ·cases h
   ·cases h
  ·cases h
def et {kk:Nat}(n:Nat)(env:Env):swapsWithSole [.Tuple ts kk p] e n env=pure false:=by
 cases e<;>rfl
def vq {o i:Expr}(n:Nat)(env:Env):swapsWithSole [.Subscript o i p] e n env=pure false:=by
 cases e<;>rfl
def vM {o:Expr}{f:Str}(n:Nat)(env:Env):swapsWith e (some (.Attribute o f p)) n env=pure false:=by
 cases e<;>rfl
def tF {kk:Nat}(env:Env)(h:DX e=true):swappedStores [.Tuple ts kk p] e env=pure none:=by
 cases e<;>first|rfl|cases h
def sV {o i:Expr}(env:Env):swappedStores [.Subscript o i p] e env=pure none:=by
 cases e<;>rfl
def sR {o i:Expr}{pos:Pos}{env:Env}(h:fv i=true):∀ v,assign (.Subscript o i pos) env v=(do
   let ov <-holding [v] (eval o env)
   let iv <-holding [v,ov] (eval i env)
   standAt pos
   holding [v,ov,iv] (setItem ov iv v)
   release [v,ov,iv] []):=by
 intro v;cases i<;>first|rfl|cases h
def CJ {i:Expr}(h:fv i=true):∀ ov iv new,augStore i ov iv new=(do holding [new,ov,iv] (setItem ov iv new);release [new,ov,iv] [];pure .next):=by
 intro ov iv new;cases i<;>first|rfl|cases h
def Dp (op:Operator):He X op (JH op):=by
 intro Y s U H x y v u Q I r1 r2 h;unfold JH at h
 split at h
 ·exact EX Y s U H _ _ v u Q I r1 r2 ⟨_,_,rfl,rfl,h⟩
 ·exact Ef Y s U H _ _ v u Q I r1 r2 ⟨_,_,rfl,rfl,h⟩
 ·exact h.elim
def EV (g:Gd X G S k E):EH X (zu G.R.K):=by
 intro Y s U H x y v u Q I r1 r2 h;unfold zu at h;rw[g.hK] at h
 split at h
 ·obtain ⟨xs,w,h1,h2,h3,q⟩:=h;exact zT Y s U H _ _ v u Q I r1 r2 ⟨_,xs,_,w,rfl,rfl,h1,h2,h3,q⟩
 ·exact h.elim
def tE {py:Pos}{y:Str}{n:Nat}{env:Env}(hk:env.scope.kind=.function):∃ b,swapsWith (.ListComp elt gs scope p) (some (.Name y py)) n env=pure b/\(b=true->env.scope.names.lookup y=some .local):=by
 refine ⟨_,rfl,λh=>?_⟩;simp only[Bool.and_eq_true] at h;have:=h.1.1.2;exact beq_iff_eq.mp this
end
set_option maxHeartbeats 2000000
variable {S:Sn}{α:Type}
section
variable {k:Nat}
def Jk {x:Ex}(h:mE S x (.ListComp elt gs scope p)=true):(∃ e' sel it y py iter,x=.lc e' sel it/\gs=[⟨.Name y py,iter,[],0⟩]/\
  gd S scope [y] sel=true/\mI S it (.Name y py) iter=true/\mE { S with sc:=dQ S.sc scope,N:=y::sel.filterMap λi=>S.N[i]? } e' elt=true/\cI iter=true)\/
  (∃ e' c sel it y py iter c',x=.lci e' c sel it/\gs=[⟨.Name y py,iter,[c'],0⟩]/\
  gd S scope [y] sel=true/\mI S it (.Name y py) iter=true/\mE { S with sc:=dQ S.sc scope,N:=y::sel.filterMap λi=>S.N[i]? } e' elt=true/\mT { S with sc:=dQ S.sc scope,N:=y::sel.filterMap λi=>S.N[i]? } c c'=true/\cI iter=true)\/
  ∃ e' n sel it ts kt pt iter,x=.lct e' n sel it/\gs=[⟨.Tuple ts kt pt,iter,[],0⟩]/\
  gd S scope (Dg ts) sel=true/\xi { S with sc:=dQ S.sc scope,N:=Dg ts++sel.filterMap λi=>S.N[i]? } (List.range n) ts=true/\(Dg ts).length=n/\mI S it (.Tuple ts kt pt) iter=true/\mE { S with sc:=dQ S.sc scope,N:=Dg ts++sel.filterMap λi=>S.N[i]? } e' elt=true/\cI iter=true:=by
 cases x<;>(try (cases (show false=true from h);done))
 all_goals (conv at h=>lhs;whnf)
 all_goals (iterate 5 (split at h<;>first|(cases h;done)|skip))
 all_goals (simp only[Bool.and_eq_true,decide_eq_true_eq] at h)
 all_goals first
  |exact .inl ⟨_,_,_,_,_,_,rfl,rfl,h.1.1.1,h.1.1.2,h.1.2,h.2⟩
  |exact .inr (.inl ⟨_,_,_,_,_,_,_,_,rfl,rfl,h.1.1.1.1,h.1.1.1.2,h.1.1.2,h.1.2,h.2⟩)
  |exact .inr (.inr ⟨_,_,_,_,_,_,_,_,rfl,rfl,h.1.1.1.1.1,h.1.1.1.1.2,h.1.1.1.2,h.1.1.2,h.1.2,h.2⟩)
def sY (e:Expr){x:Ex}(h:mE S x e=true):rY e=true\/∃ elt gs scope p,e=.ListComp elt gs scope p:=by
 cases e<;>first|exact .inl rfl|exact .inr ⟨_,_,_,_,rfl⟩|(cases x<;>cases (show false=true from h))
def IW {G:Gx}{X:Cx}{E:St->XK}(g:Gs X G S k E){i:Nat}{x:Str}{e:Ex}{e':Expr}{px:Pos}(hx:S.loc i x=true)(h:mE S e e'=true):PS X (.Assign [.Name x px] e' p) (λD U H=>wS (.asg i e) G D E U H):=by
 obtain ⟨hi,hl⟩:=g.loc hx;have hN:X.N.Nodup:=by rw[g.N];exact g.nd
 rcases sY e' h with hn|⟨elt,gs,scope,pp,rfl⟩
 ·exact As hN hi hl (sE e g.toGd h) (ip hn _ _ _) (.inl (g.fn x))
 ·intro Y s U H D I q;obtain ⟨b,hb,hb2⟩:=tE (elt:=elt) (gs:=gs) (scope:=scope) (p:=pp) (py:=px) (y:=x) (n:=p.line) (env:=X.env) I.ok.kind;cases b with
  |false=>exact As hN hi hl (sE e g.toGd h) hb (.inl (g.fn x)) Y s U H D I q
  |true=>
   rcases Jk h with ⟨e2,sel,it,y,py,iter,rfl,rfl,h1,h2,h3,h4⟩|⟨e2,c,sel,it,y,py,iter,c',rfl,rfl,h1,h2,h3,h5,h4⟩|⟨e2,n,sel,it,ts,kt,pt,iter,rfl,rfl,h1,h5,h6,h2,h3,h4⟩
   ·obtain ⟨hc,q⟩:=(show G.cm=true/\wI G it U H (λJ H1=>xT (λσ' H' Q'=>wE G e2 σ' H' Q' (λ_ _=>False)) J (none::gf U sel) H1 (λx H1=>D.nx (U.set i (some x)) H1)) (E U) from q);rw[xJ] at q;obtain ⟨cl,C⟩:=cE g.toGd I.ok h1;exact vx (g.cm hc) C (sI it g.toGd h2) (λs H fp=>sE e2 (g.toGd.comp C s H fp) h3) (bP h4 _) hN hi (hb2 rfl) hb Y s U H D I q
   ·obtain ⟨hc,q⟩:=(show G.cm=true/\wI G it U H (λJ H1=>JT (λσ' H' Q'=>wT G c σ' H' Q' (λ_ _=>False)) (λσ' H' Q'=>wE G e2 σ' H' Q' (λ_ _=>False)) J (none::gf U sel) H1 (λx H1=>D.nx (U.set i (some x)) H1)) (E U) from q);rw[FA] at q;obtain ⟨cl,C⟩:=cE g.toGd I.ok h1;exact fY (g.cm hc) C (sI it g.toGd h2) (λs H fp=>tX C) (λs H fp=>B2 (sT c (g.toGd.comp C s H fp) h5)) (λs H fp=>sE e2 (g.toGd.comp C s H fp) h3) (bP h4 _) hN hi (hb2 rfl) hb Y s U H D I q
   ·obtain ⟨hc,q⟩:=(show G.cm=true/\wI G it U H (λJ H1=>LCt G.R.K n (λσ' H' Q'=>wE G e2 σ' H' Q' (λ_ _=>False)) J (List.replicate n none++gf U sel) H1 (λx H1=>D.nx (U.set i (some x)) H1)) (E U) from q);rw[Af,<-uM h6] at q;obtain ⟨cl,C⟩:=cE g.toGd I.ok h1;exact fY (g.cm hc) C (sI it g.toGd h2) (λs H fp=>uZ (g.toGd.comp C s H fp) hc h5) (λs H fp=>j0) (λs H fp=>sE e2 (g.toGd.comp C s H fp) h3) (bP h4 _) hN hi (hb2 rfl) hb Y s U H D I q
def B8 {xs:List α}{i j:Nat}(h:xs.length=[i,j].length):∃ a b,xs=[a,b]:=by
 match xs,h with
 | [a,b],_=>exact ⟨a,b,rfl⟩
def wQ {xs:List α}{i j l:Nat}(h:xs.length=[i,j,l].length):∃ a b c,xs=[a,b,c]:=by
 match xs,h with
 | [a,b,c],_=>exact ⟨a,b,c,rfl⟩
mutual
theorem sS:∀ (x:Sx){G:Gx}{X:Cx}{S:Sn}{E:St->XK},Gs X G S k E->∀ {st:Stmt},mS S x st=true->PS X st (λD U H=>wS x G D E U H)
 | .asg i e,G,X,S,E,g,st,h=>by
  sleep 3
  simp only[Bool.and_eq_true] at h;exact IW g h.1 h.2
 | .asgT is e,G,X,S,E,g,st,h=>by
  sleep 3
  simp only[Bool.and_eq_true] at h;obtain ⟨⟨h1,h2⟩,h3⟩:=h;intro Y s U H D I q;obtain ⟨hc,q⟩:=(show G.cm=true/\wE G e U H (λx H1=>wG U (.tp is) G.R.K x H1 λσ1=>D.nx σ1 H1) (E U) from q);exact xX (sE e g.toGd h2) (D6 g hc (t:=.tp is) (by simp only[KS];exact h1)) (et _ _) (tF _ h3) rfl Y s U H D I q
 | .par is es,G,X,S,E,g,st,h=>by
  sleep 4
  rename_i pos _ _ ts kt pt _ vs k2 p2;simp only[Bool.and_eq_true] at h;obtain ⟨⟨h1,h2⟩,h3⟩:=h;intro Y s U H D I q;obtain ⟨hc,q⟩:=(show G.cm=true/\wEs G es U H (λxs H1=>xs.length=is.length/\D.nx (wu U is xs) H1) (E U) from q);have hN:X.N.Nodup:=by rw[g.N];exact g.nd
  rw[<-g.sc] at h3;unfold HK at h1
  split at h1
  ·iterate 3 (split at h1;rotate_left;cases h1)
   rename_i i j _ _ x px _ y py;simp only[Sn.tP,Bool.and_eq_true,decide_eq_true_eq] at h1;obtain ⟨⟨a1,a2⟩,⟨b1,b2⟩,c1⟩:=h1;rw[filterMap_cons,a1,filterMap_cons,b1,List.filterMap_nil] at h3;obtain ⟨v1,v2,rfl⟩:=BO h3;rw[<-g.N] at a1 b1;rw[<-g.sc] at a2 b2;exact CS (g.cm hc) hN a1 b1 c1 a2 b2 (PA.cf (uB es g.toGd h2)) (Ap h3) (et _ _) Y s U H D I ⟨_,q,λxs H1 z=>by
    obtain ⟨z1,z2⟩:=z;obtain ⟨u1,u2,rfl⟩:=B8 z1;exact ⟨u1,u2,rfl,z2⟩⟩
  ·iterate 4 (split at h1;rotate_left;cases h1)
   rename_i i j l _ _ x px _ y py _ z pz;simp only[Sn.tP,Bool.and_eq_true,decide_eq_true_eq] at h1;obtain ⟨⟨a1,a2⟩,⟨b1,b2⟩,⟨d1,d2⟩,c1,c2,c3⟩:=h1;rw[filterMap_cons,a1,filterMap_cons,b1,filterMap_cons,d1,List.filterMap_nil] at h3;obtain ⟨v1,v2,v3,rfl⟩:=wo h3;rw[<-g.N] at a1 b1 d1;rw[<-g.sc] at a2 b2 d2;exact Ck (g.cm hc) hN a1 b1 d1 c1 c2 c3 a2 b2 d2 (PA.cf (uB es g.toGd h2)) (Ap h3) (et _ _) Y s U H D I ⟨_,q,λxs H1 z=>by
    obtain ⟨z1,z2⟩:=z;obtain ⟨u1,u2,u3,rfl⟩:=wQ z1;exact ⟨u1,u2,u3,rfl,z2⟩⟩
  ·cases h1
 | .sub o i v,G,X,S,E,g,st,h=>by
  sleep 3
  simp only[Bool.and_eq_true] at h;obtain ⟨⟨⟨h1,h2⟩,h3⟩,h4⟩:=h;exact xX (sE v g.toGd h3) (Ga (sE o g.toGd h1) (sE i g.toGd h2) (uu g.un) (sR h4)) (vq _ _) (sV _) rfl
 | .fld o f v,G,X,S,E,g,st,h=>by
  sleep 3
  simp only[Bool.and_eq_true,decide_eq_true_eq] at h;obtain ⟨⟨h1,rfl⟩,h3⟩:=h;intro Y s U H D I q;have q':wE G v U H (λy H1=>wE G o U H1 (λx H2=>C9 G f x y H2 (λH3=>D.nx U H3)) (E U)) (E U):=q;refine plainObj_wpAny_Assign_Attribute (az (sE v g.toGd h3 Y s U H _ I q') λu s1 ⟨y,H1,I1,ry,q⟩=>az (sE o g.toGd h1 Y s1 U H1 _ I1 q) λov s2 ⟨x,H2,I2,rx,q2⟩=>?_) (vM _ _);unfold C9 at q2;obtain ⟨a,i,rfl,hna,q2⟩:=q2;obtain rfl:ov=Value.ref a:=rx;have n:=g.tab.na i f hna;rcases q2 with ⟨dx,fs,ho,ea,l,q2⟩|⟨d,fs,fr,ho,ea,l,q2⟩|⟨fr,ho,ea,q2⟩
  ·exact sC I2 ea (g.tab.oc i ho).1 n l ry λs3 I3=>⟨U,_,I3,q2⟩
  ·exact tO I2 ea (g.tab.xc i ho).1 n l ry λs3 I3=>⟨U,_,I3,q2⟩
  ·exact tJ I2 ea (g.tab.xc i ho).1 n ry λd s3 hd I3=>⟨U,_,I3,q2 d hd⟩
 | .aug i op e,G,X,S,E,g,st,h=>by
  sleep 2
  simp only[Bool.and_eq_true,decide_eq_true_eq] at h;obtain ⟨⟨h1,rfl⟩,h3⟩:=h;obtain ⟨hi,hl⟩:=g.loc h1;refine PS.imp (Fh (by rw[g.N];exact g.nd) hi hl (sE e g.toGd h3) (Dp op) (.inl (g.fn _))) λD U H q=>?_
  conv at q=>whnf
  split at q
  ·rename_i e;exact ⟨_,e,q⟩
  ·exact q.elim
 | .augS o i op e,G,X,S,E,g,st,h=>by
  sleep 2
  simp only[Bool.and_eq_true,decide_eq_true_eq] at h;obtain ⟨⟨⟨⟨h1,h2⟩,rfl⟩,h3⟩,h4⟩:=h;exact C4 (sE o g.toGd h1) (sE i g.toGd h2) (EV g.toGd) (sE e g.toGd h3) (Dp op) (uu g.un) (CJ h4)
 | .ret e,G,X,S,E,g,st,h=>by
  sleep 2
  exact EM (sE e g.toGd h)
 | .retN,G,X,S,E,g,st,h=>by cases (show false=true from h)
 | .pass,G,X,S,E,g,st,h=>by cases (show false=true from h)
 | .brk,G,X,S,E,g,st,h=>by cases (show false=true from h)
 | .cont,G,X,S,E,g,st,h=>by cases (show false=true from h)
 | .expr e,G,X,S,E,g,st,h=>by
  sleep 1
  simp only[Bool.and_eq_true] at h;exact AV (sE e g.toGd h.1) (ip h.2 _ _ _)
 | .ife c a b,G,X,S,E,g,st,h=>by
  sleep 1
  simp only[Bool.and_eq_true] at h;exact PS.imp (IJ (PT.cf (sT c g.toGd h.1.1)) (sB a g h.1.2) (sB b g h.2)) λD U H q=>⟨_,q,λk H1 z=>by rwa [cP] at z⟩
 | .whl c b,G,X,S,E,g,st,h=>by
  sleep 2
  simp only[Bool.and_eq_true] at h;refine PS.imp (zR g.own (PT.cf (sT c g.toGd h.1)) (sB b g h.2)) λD U H q=>?_
  obtain ⟨W,w0,w1⟩:=q;exact ⟨W,w0,λm U H w=>⟨_,w1 m U H w,λk H1 z=>by rwa [cP] at z⟩⟩
 | .for t it b,G,X,S,E,g,st,h=>by
  sleep 2
  simp only[Bool.and_eq_true] at h;obtain ⟨⟨⟨h1,h2⟩,h3⟩,h4⟩:=h;intro Y s U H D I q
  conv at q=>whnf
  obtain ⟨hc,q⟩:=q;unfold l6 at q;exact Ft g.own (g.cm hc) (sI it g.toGd h2) (D6 g hc h1) (sB b g h3) (bP h4 _) Y s U H D I q
 | .rais e,G,X,S,E,g,st,h=>by
  sleep 3
  intro Y s U H D I q
  conv at q=>whnf
  obtain ⟨hc,q⟩:=q;refine zC (g.xok hc) (g.cm hc) (PE.cf (sE e g.toGd h)) Y s U H D I ⟨_,q,λv H1 z=>?_⟩;obtain ⟨a,i,dx,fs,ev,ea,hi,q⟩:=z;exact ⟨a,_,dx,fs,ev,ea,(g.tab.xc i hi).1,q⟩
 | .tryx b hs,G,X,S,E,g,st,h=>by
  sleep 4
  simp only[Bool.and_eq_true] at h;intro Y s U H D I q;obtain ⟨hc,q⟩:=(show G.cm=true/\wB b G D (λσ' e H'=>wH hs G D σ' e H') U H from q);refine FD (E':=λσ' e H'=>wH hs G D σ' e H') I g.stk g.fr (λxe hx ho=>?_) λσ' H' s' e C dx fs T J he hT hH hp st q'=>?_
  ·exact sB b (g.fZ hx ho) h.1 [] s U H D (I.fZ xe) q
  ·exact sH hs g h.2 J he hT hH hp st q'
theorem sB:∀ (x:lQ){G:Gx}{X:Cx}{S:Sn}{E:St->XK},Gs X G S k E->∀ {st:List Stmt},mB S x st=true->A4 X st (λD U H=>wB x G D E U H)
 | .nil,G,X,S,E,g,[],h=>BR
 | .nil,G,X,S,E,g,_::_,h=>by cases (show false=true from h)
 | .cons x xs,G,X,S,E,g,[],h=>by cases (show false=true from h)
 | .cons x xs,G,X,S,E,g,st::sts,h=>by
  have h:(mS S x st&&mB S xs sts)=true:=h;simp only[Bool.and_eq_true] at h;exact zk (sS x g h.1) (sB xs g h.2)
theorem sH:∀ (x:AG){G:Gx}{X:Cx}{S:Sn}{E:St->XK},Gs X G S k E->∀ {hs:List ExceptHandler},mH S x hs=true->∀ {Y:MD}{U:St}{H:Hp}{s:Shared}{e C:Addr}{dx:Option Addr}{fs:List (Str×V)}{T:Addr}{D:Ends},
  L2.Inv X Y U H s->H e=some (.exc C dx fs false)->X.s₀.heap.objs.size<=T->H T=none->(∀ p ∈ X.pn++Y,p.1≠T)->AI s.heap e T .none->wH x G D U e H->wpAny (model X.prog X.w) X.A (handleBy (.ref e) X.env hs) (SP X Y D) X.xe s
 | .nil,G,X,S,E,g,hs,h,Y,U,H,s,e,C,dx,fs,T,D,I,he,hT,hH,hp,st,q=>by
  simp only[wH] at q
 | .cons c i b hs,G,X,S,E,g,l,h,Y,U,H,s,e,C,dx,fs,T,D,I,he,hT,hH,hp,st,q=>by
  conv at h=>lhs;whnf
  split at h
  ·simp only[Bool.and_eq_true,decide_eq_true_eq] at h;obtain ⟨⟨⟨⟨⟨h1,h2⟩,h3⟩,h4⟩,h5⟩,h6⟩:=h;obtain ⟨hg,hdb⟩:=g.glob h1;have hm:=g.tab.gcl _ _ (g.hT▸h2);obtain ⟨j,dx',fs',kk,he',hxc,hsub,q⟩:=(show ∃ j dx fs k,H e=some (.exc (G.R.cad j) dx fs false)/\G.T.xc.contains j=true/\G.T.sub.lookup (j,c)=some k/\_ from q);have ee:=he.symm.trans he'
   injection ee with ee
   injection ee with e1 e2 e3 e4
   subst e1;obtain ⟨_,hs2⟩:=g.tab.sub j c kk hsub;obtain ⟨hs3,hs4⟩:=hs2 hxc;refine rQ (i:=i) I he hT hH hp st (g.tab.xc j hxc).1 hs4 hs3 hg hm (by rw[g.N];exact g.nd) (by rw[g.N];exact h3) (by rw[g.sc];exact h4) hdb (λhk s2 J=>?_) λhk=>?_
   ·rw[hk] at q;unfold iz at q;exact sB b (g.bD (.ref e)) h5 Y s2 _ H _ J q
   ·rw[hk] at q;unfold iz at q;exact sH hs g h6 I he hT hH hp st q
  ·cases h
end
end
abbrev c9 (T:Tab)(R:Rt):Nat->Nat->Sp
 |0,_=>λ_ _ _ _=>False
 |k+1,f=>λvs H Q E=>match T.fns[f]? with
  |some d=>vs.length=d.ps.length/\wB d.body ⟨T,R,c9 T R k,true⟩ { nx:=λ_ H'=>Q .non H',rt:=Q } (λ_=>E) (start d.N vs) H
  |none=>False
structure wX (K:W.Frag) (T:Tab) (f:Addr) (d:aq):Prop where
 ex:∃ (name qual:Str) (params:Arguments) (body:List Stmt) (scope:Scope) (dV kV doc pm cdv ct oc:Value) (od an:Option Addr) (osl:Array (Option Value)),
  K.lookup f=some ⟨oc,od,.func (W.fnOf name qual params body scope dV kV doc pm an cdv ct),osl⟩/\W.codeIn K cdv qual=true/\jZ d.N d.ps scope/\mB ⟨T,scope,d.N⟩ d.body body=true/\
  ∀ j,∃ ds,Binds K (W.fnOf name qual params body scope dV kV doc pm an cdv ct) d.ps ds/\Vals (d.dfl.drop j) ds
def yw {P:Program}{w:World}{K:W.Frag}{mg:ME}{base:Heap}{T:Tab}{R:Rt}(tab:CW K mg T R)(hK:R.K=K)(fs:∀ f d,T.fns[f]? =some d->wX K T (R.fad f) d):
  ∀ (k f:Nat) (d:aq),T.fns[f]? =some d->zf P w K mg base (2*k) (R.fad f) d (c9 T R k f)
 |0,f,d,hd=>by
  obtain ⟨name,qual,params,body,scope,dV,kV,doc,pm,cdv,ct,oc,od,an,osl,lk,hcd,S,hm,hb⟩:=(fs f d hd).ex;exact ⟨⟨_,⟨λ_ _ _ _ h=>h.elim,λ_ _ _ _ _ _ _ _ _ _ _ _ _ h=>h.elim⟩,hb⟩,λ_ _ _ _ _=>⟨λ_ _ _ _ h=>h.elim,λ_ _ _ _ _ _ _ _ _ _ _ _ _ h=>h.elim⟩⟩
 |k+1,f,d,hd=>by
  obtain ⟨name,qual,params,body,scope,dV,kV,doc,pm,cdv,ct,oc,od,an,osl,lk,hcd,S,hm,hb⟩:=(fs f d hd).ex;have F:=IQ (P:=P) (w:=w) (mg:=mg) (base:=base) (CX:=y9 P w) (k:=2*k+1) (sp:=c9 T R (k+1) f) lk hcd S (λvs H Q E h=>?_) (λA outer s H vs Q E hr h=>?_)
  ·refine ⟨⟨_,F,hb⟩,λfd oc' od' osl' lk'=>?_⟩;have e:=lk.symm.trans lk'
   injection e with e
   injection e with e1 e2 e3 e4
   injection e3 with e3
   subst e3;exact F
  ·simp only[c9,hd] at h;exact h.1
  ·simp only[c9,hd] at h;refine ⟨λD U H=>wB d.body ⟨T,R,c9 T R k,true⟩ D (λ_=>E) U H,?_,h.2⟩;have hx:=vT (P:=P) (w:=w) (K:=K) (mg:=mg) (base:=base) (N:=d.N) (qual:=qual) (scope:=scope) (f:=R.fad f) (cd:=cdv) (A:=A) (outer:=outer) (E:=E) (s:=s) (H:=H);refine sB (k:=2*k) d.body (G:=⟨T,R,c9 T R k,true⟩) (S:=⟨T,scope,d.N⟩) { hK:=hK,hT:=rfl,sc:=rfl,N:=rfl,nd:=S.nd,pass:=nA hx,cm:=λ_=>rfl,room:=λ_=>hr,un:= ?_,tab:=tab,fns:=λf' d' hd'=>yw tab hK fs k f' d' hd',xok:=λ_=>hx,own:=PassesOwn.leaving,stk:=rfl,fr:=rfl,fn:=λ_=>rfl } hm;have:=hr.un;show (A.deeper _).units+200<cLine
   omega
abbrev jm (K:W.Frag)(n:Nat):Sp:=λvs H Q _=>∃ (a:Addr) (ns:List Int),vs=[.ref a]/\aS K H a (ns.map V.int)/\ns.length<=n/\∀ H',Q (.bl true) H'
variable {P:Program}
def zH {w:World}{H:Hp}{s:Shared}{e:Value}{s':Shared}(h:y9 P w [] H s (λ_ _=>False) e s'):False:=by
 obtain ⟨e,H',C,dx,fs,T,_,_,_,_,_,_,_,_,_,q⟩:=h;exact q
variable {fd:FuncData}{ps:List Str}
def F8 {K:W.Frag}(h:Binds K fd ps []):∀ j:Nat,∃ ds,Binds K fd ps ds/\Vals (([]:List V).drop j) ds:=λj=>⟨[],h,by simp;exact .nil⟩
def CV {K:W.Frag}{ds:List Value}{T:Addr}{o:Obj}{items:Array Value}{c n:Nat}(hd:fd.defaults=.ref T)(ho:K.lookup T=some o)(hs:o.data=.seq items c)(hn:n+ds.length=ps.length)
  (h:∀ us:List Value,us.length=n->∃ k:Option (Array Value)->Sem (List (Str×Value)),bindArgs fd ⟨us,[]⟩=seqItems? fd.defaults >>= k/\k (some items)=pure (ps.zip (us++ds))):Binds K fd ps ds:=λs us X hl=>by
 obtain ⟨k,h1,h2⟩:=h us (by rw[length_append] at hl;omega);exact W.binds_K X hd ho hs h1 h2
def mx:∀ {vs:List V}{us:List Value}(j:Nat),Vals vs us->Vals (vs.drop j) (us.drop j)
 |_,_,0,h=>h
 |_,_,j+1,.nil=>by simp;exact .nil
 |_::_,_::_,j+1,.cons _ h=>by simpa using mx j h
def sm {α β:Type} [BEq α] [LawfulBEq α] {x:α}{y:β}:∀ {l:List (α×β)},l.lookup x=some y->(x,y) ∈ l
 | [],h=>by simp at h
 |(a,b)::l,h=>by
  rw[lookup_cons] at h;cases e:x ==a with
  |true=>
   rw[e] at h;have:=beq_iff_eq.mp e;subst this
   injection h with h
   subst h;exact mem_cons_self
  |false=>
   rw[e] at h;exact mem_cons_of_mem _ (sm h)
def kP {β:Type} [BEq α] [LawfulBEq α] {P:α->β->Prop}{l:List (α×β)}(h:∀ p ∈ l,P p.1 p.2):∀ x y,l.lookup x=some y->P x y:=λx y e=>h (x,y) (sm e)
def gZ {β γ:Type} [BEq α] [LawfulBEq α] [BEq β] [LawfulBEq β] {P:α->β->γ->Prop}{l:List ((α×β)×γ)}(h:∀ p ∈ l,P p.1.1 p.1.2 p.2):∀ x y z,l.lookup (x,y)=some z->P x y z:=λx y z e=>h ((x,y),z) (sm e)
def iX  [BEq α] [LawfulBEq α] {P:α->Prop}{l:List α}(h:∀ p ∈ l,P p):∀ x,l.contains x=true->P x:=λx e=>h x (by simpa using e)
def C6 {β:Type} [BEq α] [LawfulBEq α] [BEq β] [LawfulBEq β] {P:α->β->Prop}{l:List (α×β)}(h:∀ p ∈ l,P p.1 p.2):∀ x y,l.contains (x,y)=true->P x y:=λx y e=>h (x,y) (by simpa using e)
abbrev uI (P:Nat->aq->Prop):Nat->List aq->Prop
 |_,[]=>True
 |n,d::r=>P n d/\uI P (n+1) r
def D0 {P:Nat->aq->Prop}:∀ {l:List aq}{n:Nat},uI P n l->∀ f d,l[f]? =some d->P (n+f) d
 | [],_,_,f,d,e=>by simp at e
 |a::l,n,h,0,d,e=>by
  have:a=d:=by simpa using e
  subst this;exact h.1
 |a::l,n,h,f+1,d,e=>by
  have:=D0 h.2 f d (by simpa using e)
  rwa [Nat.add_assoc,Nat.add_comm 1 f] at this
def tY {P:Nat->aq->Prop}{l:List aq}(h:uI P 0 l):∀ f d,l[f]? =some d->P f d:=λf d e=>by
 have:=D0 h f d e
 rwa [Nat.zero_add] at this
def EZ {w:World}{K:W.Frag}{mg:ME}{base:Heap}{T:Tab}{R:Rt}(tab:CW K mg T R)(hK:R.K=K)(fs:∀ f d,T.fns[f]? =some d->wX K T (R.fad f) d) (k fl:Nat) (d:aq) (hd:T.fns[fl]? =some d)
  {oc:Value}{od:Option Addr}{osl:Array (Option Value)}(lk:K.lookup (R.fad fl)=some ⟨oc,od,.func fd,osl⟩) (h:∀ vs H Q E,jm K 63 vs H Q E->c9 T R k fl vs H Q E):dh P w K mg base (y9 P w) (2*k) (R.fad fl) fd d.ps (jm K 63):=
 ((yw tab hK fs k fl d hd).own _ _ _ _ lk).imp h
end L3
namespace L3
open PySem L2
abbrev mf:HO->HO
 | .lst _=>.lst []
 | .dK _=>.dK []
 | .dT _=>.dT []
 | .ins C dx _=>.ins C dx []
 | .exc C _ _ _=>.exc C none [] false
 |o=>o
abbrev kd:HO->Option String
 | .lst _=>some "list"
 | .tup _=>some "tuple"
 | .dK _=>some "dict"
 |_=>none
def uW (o:HO):kd (mf o)=kd o:=by cases o<;>rfl
abbrev jK (H H':Hp):Prop:=∀ a o,H a=some o->∃ o',H' a=some o'/\mf o'=mf o
def jK.tup {H H':Hp}(g:jK H H'){t:Addr}{xs:List V}(h:H t=some (.tup xs)):H' t=some (.tup xs):=by
 obtain ⟨o',h1,h2⟩:=g t _ h;have key:∀ u:HO,mf u=.tup xs->u=.tup xs:=λu=>by cases u<;>intro e<;>first|exact e|cases e
 rw[key o' h2] at h1;exact h1
variable {H:Hp}{t:String}
def jK.ty {H':Hp}(g:jK H H'){v:V}(h:tyName v H=some t):tyName v H'=some t:=by
 cases v<;>try exact h
 rename_i a;have h':(match H a with|some (.lst _)=>some "list"|some (.tup _)=>some "tuple"|some (.dK _)=>some "dict"|_=>none)=some t:=h;show (match H' a with|some (.lst _)=>some "list"|some (.tup _)=>some "tuple"|some (.dK _)=>some "dict"|_=>none)=some t;cases e:H a with
 |none=>rw[e] at h';cases h'
 |some o=>
  rw[e] at h';obtain ⟨o',h1,h2⟩:=g a _ e;rw[h1];have key:kd o'=kd o:=by rw[<-uW o',<-uW o,h2]
  have k1:∀ u:HO,(match some u with|some (HO.lst _)=>some "list"|some (.tup _)=>some "tuple"|some (.dK _)=>some "dict"|_=>none)=kd u:=λu=>by cases u<;>rfl
  rw[k1] at h'⊢;rw[key];exact h'
variable {a:Addr}{xs:List V}
def vY (e:H a=some (.lst xs)):tyName (.ref a) H=some "list":=by
 show (match H a with|some (.lst _)=>some "list"|some (.tup _)=>some "tuple"|some (.dK _)=>some "dict"|_=>none)=_;rw[e]
def ES (e:H a=some (.tup xs)):tyName (.ref a) H=some "tuple":=by
 show (match H a with|some (.lst _)=>some "list"|some (.tup _)=>some "tuple"|some (.dK _)=>some "dict"|_=>none)=_;rw[e]
variable {kvs:List (Key×V)}
def Kt (e:H a=some (.dK kvs)):tyName (.ref a) H=some "dict":=by
 show (match H a with|some (.lst _)=>some "list"|some (.tup _)=>some "tuple"|some (.dK _)=>some "dict"|_=>none)=_;rw[e]
def jK.upd {o o':HO}(h:H a=some o)(e:mf o'=mf o):jK H (L2.upd H a o'):=λb u hb=>by
 by_cases z:b=a
 ·subst z;rw[h] at hb;cases hb;exact ⟨o',av,e⟩
 ·exact ⟨u,(ai z).trans hb,rfl⟩
def jK.new {o':HO}(h:H a=none):jK H (L2.upd H a o'):=λb u hb=>⟨u,(ai λz=>by rw[z,h] at hb;cases hb).trans hb,rfl⟩
structure ay where
 p:Hp->(Addr->Prop)->Prop
 st:∀ H H' D,p H D->(∀ a,D a->H' a=H a)->jK H H'->p H' D
 up:∀ H D D',p H D->(∀ a,D a->D' a)->p H D'
abbrev pt (a:Addr)(o:HO):ay:=⟨λH D=>D a/\H a=some o,λH H' D h k _=>⟨h.1,(k a h.1).trans h.2⟩,λH D D' h k=>⟨k a h.1,h.2⟩⟩
abbrev tu (t:Addr)(xs:List V):ay:=⟨λH _=>H t=some (.tup xs),λH H' D h _ k=>k.tup h,λH D D' h _=>h⟩
abbrev tys (xs:List V):ay:=⟨λH _=>∀ x ∈ xs,∃ t,tyName x H=some t,λH H' D h _ k x hx=>let ⟨t,e⟩:=h x hx;⟨t,k.ty e⟩,λH D D' h _=>h⟩
abbrev pu (φ:Prop):ay:=⟨λ_ _=>φ,λ_ _ _ h _ _=>h,λ_ _ _ h _=>h⟩
abbrev ex {α:Type}(f:α->ay):ay:=⟨λH D=>∃ x,(f x).p H D,λH H' D ⟨x,h⟩ k t=>⟨x,(f x).st H H' D h k t⟩,λH D D' ⟨x,h⟩ k=>⟨x,(f x).up H D D' h k⟩⟩
abbrev pU (A B:ay):ay:=⟨λH D=>∃ D1 D2:Addr->Prop,(∀ a,D1 a->D a)/\(∀ a,D2 a->D a)/\(∀ a,D1 a->D2 a->False)/\A.p H D1/\B.p H D2,
 λH H' D ⟨D1,D2,s1,s2,dj,h1,h2⟩ k t=>⟨D1,D2,s1,s2,dj,A.st H H' D1 h1 (λa z=>k a (s1 a z)) t,B.st H H' D2 h2 (λa z=>k a (s2 a z)) t⟩,
 λH D D' ⟨D1,D2,s1,s2,dj,h1,h2⟩ k=>⟨D1,D2,λa z=>k a (s1 a z),λa z=>k a (s2 a z),dj,h1,h2⟩⟩
abbrev bw:List ay->Hp->(Addr->Prop)->Prop
 | [],_,_=>True
 |A::O,H,D=>∃ D1 D2:Addr->Prop,(∀ a,D1 a->D a)/\(∀ a,D2 a->D a)/\(∀ a,D1 a->D2 a->False)/\A.p H D1/\bw O H D2
abbrev Sep (O:List ay)(H:Hp):Prop:=∃ D:Addr->Prop,(∀ a,D a->H a≠none)/\bw O H D
inductive af (A:ay):List ay->List ay->Prop where
 |here {O:List ay}:af A (A::O) O
 |there {B:ay}{O Γ':List ay}(h:af A O Γ'):af A (B::O) (B::Γ')
section
variable {A B:ay}{O Γ':List ay}{H H':Hp}{a b p t:Addr}{o o':HO}{xs:List V}{φ:Prop}
def bw.st:∀ {O:List ay}{H H':Hp}{D:Addr->Prop},bw O H D->(∀ a,D a->H' a=H a)->jK H H'->bw O H' D
 | [],_,_,_,_,_,_=>True.intro
 |A::O,H,H',D,⟨D1,D2,s1,s2,dj,h1,h2⟩,k,t=>⟨D1,D2,s1,s2,dj,A.st H H' D1 h1 (λa z=>k a (s1 a z)) t,bw.st h2 (λa z=>k a (s2 a z)) t⟩
def bw.up:∀ {O:List ay}{H:Hp}{D D':Addr->Prop},bw O H D->(∀ a,D a->D' a)->bw O H D'
 | [],_,_,_,_,_=>True.intro
 |A::O,H,D,D',⟨D1,D2,s1,s2,dj,h1,h2⟩,k=>⟨D1,D2,λa z=>k a (s1 a z),λa z=>k a (s2 a z),dj,h1,h2⟩
def Sep.nil:Sep [] H:=⟨λ_=>False,λ_ z=>z.elim,True.intro⟩
def bw.pull:∀ {O Γ':List ay}{D:Addr->Prop},af A O Γ'->bw O H D->bw (A::Γ') H D:=by
 intro O Γ' D h
 induction h generalizing D with
 |here=>exact λz=>z
 |there h ih=>
  rintro ⟨D1,D2,s1,s2,dj,h1,h2⟩;obtain ⟨E1,E2,t1,t2,ej,k1,k2⟩:=ih h2;refine ⟨E1,λa=>D1 a\/E2 a,λa z=>s2 a (t1 a z),λa z=>z.elim (s1 a) λz=>s2 a (t2 a z),λa z1 z2=>?_,k1,D1,E2,λa z=>.inl z,λa z=>.inr z,λa z1 z2=>dj a z1 (t2 a z2),h1,k2⟩;rcases z2 with z2|z2
  ·exact dj a z2 (t1 a z1)
  ·exact ej a z1 z2
def Sep.pull (h:af A O Γ')(s:Sep O H):Sep (A::Γ') H:=let ⟨D,k,z⟩:=s;⟨D,k,bw.pull h z⟩
def bw.push:∀ {O Γ':List ay}{D:Addr->Prop},af A O Γ'->bw (A::Γ') H D->bw O H D:=by
 intro O Γ' D h
 induction h generalizing D with
 |here=>exact λz=>z
 |there h ih=>
  rintro ⟨D1,D2,s1,s2,dj,h1,E1,E2,t1,t2,ej,k1,k2⟩;refine ⟨E1,λa=>D1 a\/E2 a,λa z=>s2 a (t1 a z),λa z=>z.elim (s1 a) λz=>s2 a (t2 a z),λa z1 z2=>?_,k1,ih ⟨D1,E2,λa z=>.inl z,λa z=>.inr z,λa z1 z2=>dj a z1 (t2 a z2),h1,k2⟩⟩;rcases z2 with z2|z2
  ·exact dj a z2 (t1 a z1)
  ·exact ej a z1 z2
def Sep.push (h:af A O Γ')(s:Sep (A::Γ') H):Sep O H:=let ⟨D,k,z⟩:=s;⟨D,k,bw.push h z⟩
def Sep.drop (s:Sep (A::O) H):Sep O H:=let ⟨D,k,D1,D2,s1,s2,dj,h1,h2⟩:=s;⟨D2,λa z=>k a (s2 a z),h2⟩
def Sep.at (s:Sep (pt a o::O) H):H a=some o:=let ⟨D,k,D1,D2,s1,s2,dj,h1,h2⟩:=s;h1.2
def Sep.atT (s:Sep (tu t xs::O) H):H t=some (.tup xs):=let ⟨D,k,D1,D2,s1,s2,dj,h1,h2⟩:=s;h1
def Sep.pure (s:Sep (pu φ::O) H):φ:=let ⟨D,k,D1,D2,s1,s2,dj,h1,h2⟩:=s;h1
def Sep.tS (h:φ)(s:Sep O H):Sep (pu φ::O) H:=let ⟨D,k,h2⟩:=s;⟨D,k,λ_=>False,D,λ_ z=>z.elim,λ_ z=>z,λ_ z _=>z,h,h2⟩
def Sep.HS (h:H t=some (.tup xs))(s:Sep O H):Sep (tu t xs::O) H:=let ⟨D,k,h2⟩:=s;⟨D,k,λ_=>False,D,λ_ z=>z.elim,λ_ z=>z,λ_ z _=>z,h,h2⟩
def Sep.ne (s:Sep (pt a o::pt b o'::O) H):a≠b:=by
 obtain ⟨D,k,D1,D2,s1,s2,dj,h1,E1,E2,t1,t2,ej,k1,k2⟩:=s;rintro rfl;exact dj a h1.1 (t1 a k1.1)
def Sep.set (s:Sep (pt a o::O) H)(n:mf o'=mf o):Sep (pt a o'::O) (upd H a o'):=by
 obtain ⟨D,k,D1,D2,s1,s2,dj,h1,h2⟩:=s;refine ⟨D,λb z=>?_,D1,D2,s1,s2,dj,⟨h1.1,av⟩,bw.st h2 (λb z=>ai λe=>dj a h1.1 (e▸z)) (jK.upd h1.2 n)⟩
 by_cases e:b=a
 ·rw[e,av];exact λz=>by cases z
 ·rw[ai e];exact k b z
def Sep.new (s:Sep O H)(h:H p=none):Sep (pt p o::O) (upd H p o):=by
 obtain ⟨D,k,z⟩:=s;have ne:∀ b,D b->b≠p:=λb hb e=>k b hb (e▸h)
 refine ⟨λb=>b=p\/D b,λb hb=>?_,λb=>b=p,D,λb e=>.inl e,λb e=>.inr e,λb e z=>ne b z e,⟨rfl,av⟩,bw.st z (λb hb=>ai (ne b hb)) (jK.new h)⟩;rcases hb with rfl|hb
 ·rw[av];exact λz=>by cases z
 ·rw[ai (ne b hb)];exact k b hb
def Sep.g6 (s:Sep O H)(h:H p=none):Sep (tu p xs::O) (upd H p (.tup xs)):=Sep.HS av (Sep.drop (s.new (o:=.tup xs) h))
def Sep.toT (s:Sep (pt t (.tup xs)::O) H):Sep (tu t xs::O) H:=Sep.HS s.at s.drop
def Sep.star:Sep (pU A B::O) H ↔ Sep (A::B::O) H:=by
 constructor
 ·rintro ⟨D,k,D1,D2,s1,s2,dj,⟨E1,E2,t1,t2,ej,k1,k2⟩,h2⟩;refine ⟨D,k,E1,λa=>E2 a\/D2 a,λa z=>s1 a (t1 a z),λa z=>z.elim (λz=>s1 a (t2 a z)) (s2 a),λa z1 z2=>?_,k1,E2,D2,λa z=>.inl z,λa z=>.inr z,λa z1 z2=>dj a (t2 a z1) z2,k2,h2⟩;rcases z2 with z2|z2
  ·exact ej a z1 z2
  ·exact dj a (t1 a z1) z2
 ·rintro ⟨D,k,D1,D2,s1,s2,dj,h1,E1,E2,t1,t2,ej,k1,k2⟩;refine ⟨D,k,λa=>D1 a\/E1 a,E2,λa z=>z.elim (s1 a) λz=>s2 a (t1 a z),λa z=>s2 a (t2 a z),λa z1 z2=>?_,⟨D1,E1,λa z=>.inl z,λa z=>.inr z,λa z1 z2=>dj a z1 (t1 a z2),h1,k1⟩,k2⟩;rcases z1 with z1|z1
  ·exact dj a z1 (t2 a z2)
  ·exact ej a z1 z2
def Sep.G6 {α:Type}{f:α->ay}:Sep (ex f::O) H ↔ ∃ x,Sep (f x::O) H:=by
 constructor
 ·rintro ⟨D,k,D1,D2,s1,s2,dj,⟨x,h1⟩,h2⟩;exact ⟨x,D,k,D1,D2,s1,s2,dj,h1,h2⟩
 ·rintro ⟨x,D,k,D1,D2,s1,s2,dj,h1,h2⟩;exact ⟨D,k,D1,D2,s1,s2,dj,⟨x,h1⟩,h2⟩
def Sep.imp (h:∀ H D,A.p H D->B.p H D) (s:Sep (A::O) H):Sep (B::O) H:=let ⟨D,k,D1,D2,s1,s2,dj,h1,h2⟩:=s;⟨D,k,D1,D2,s1,s2,dj,h _ _ h1,h2⟩
def Sep.DW (s:Sep (tys xs::O) H):∀ x ∈ xs,∃ t,tyName x H=some t:=let ⟨D,k,D1,D2,s1,s2,dj,h1,h2⟩:=s;h1
def Sep.free (h:∀ D,A.p H D) (s:Sep O H):Sep (A::O) H:=let ⟨D,k,h2⟩:=s;⟨D,k,λ_=>False,D,λ_ z=>z.elim,λ_ z=>z,λ_ z _=>z,h _,h2⟩
def Sep.Ai (h:∀ x ∈ xs,∃ t,tyName x H=some t) (s:Sep O H):Sep (tys xs::O) H:=s.free λ_=>h
def Sep.get (s:Sep O H)(h:af (pt a o) O Γ'):H a=some o:=(s.pull h).at
def Sep.fK (s:Sep O H)(h:af (tu t xs) O Γ'):H t=some (.tup xs):=(s.pull h).atT
inductive aV (A B:ay):List ay->List ay->Prop where
 |here {O:List ay}:aV A B (A::O) (B::O)
 |there {C:ay}{O Γ':List ay}(h:aV A B O Γ'):aV A B (C::O) (C::Γ')
def aV.bL (h:aV A B O Γ'):∃ Δ,af A O Δ/\af B Γ' Δ:=by
 induction h with
 |here=>exact ⟨_,.here,.here⟩
 |there h ih=>
  obtain ⟨Δ,h1,h2⟩:=ih;exact ⟨_,.there h1,.there h2⟩
def Sep.put (s:Sep O H)(h:aV (pt a o) (pt a o') O Γ')(n:mf o'=mf o):Sep Γ' (upd H a o'):=by
 obtain ⟨Δ,h1,h2⟩:=h.bL;exact ((s.pull h1).set n).push h2
inductive Sub:List ay->List ay->Prop where
 |refl {O:List ay}:Sub O O
 |nil {O:List ay}:Sub [] O
 |cons {A:ay}{O Γ' Δ:List ay}(h:af A O Δ) (r:Sub Γ' Δ):Sub (A::Γ') O
 |drop {A:ay}{O Γ':List ay}(r:Sub Γ' O):Sub Γ' (A::O)
def bw.sub:∀ {O Γ':List ay}{D:Addr->Prop},Sub Γ' O->bw O H D->bw Γ' H D:=by
 intro O Γ' D h
 induction h generalizing D with
 |refl=>exact λz=>z
 |nil=>exact λ_=>True.intro
 |cons h r ih=>
  intro z;obtain ⟨D1,D2,s1,s2,dj,h1,h2⟩:=bw.pull h z;exact ⟨D1,D2,s1,s2,dj,h1,ih h2⟩
 |drop r ih=>
  rintro ⟨D1,D2,s1,s2,dj,h1,h2⟩;exact (ih h2).up s2
def Sep.sub (h:Sub Γ' O)(s:Sep O H):Sep Γ' H:=let ⟨D,k,z⟩:=s;⟨D,k,bw.sub h z⟩
end
@[irreducible] noncomputable def ab (T:Tab) (R:Rt) (k f:Nat):Sp:=c9 T R k f
def rm:ab=c9:=by
 funext T R k f
 unfold ab
 rfl
variable {Q:VK}
def wc {T:Tab}{R:Rt}{k f:Nat}{d:aq}{vs:List V}{E:XK}(hk:0<k)(hd:T.fns[f]? =some d)(hl:vs.length=d.ps.length)
  (h:wB d.body ⟨T,R,ab T R (k-1),true⟩ { nx:=λ_ H'=>Q .non H',rt:=Q } (λ_=>E) (start d.N vs) H):ab T R k f vs H Q E:=by
 rw[rm] at h⊢;cases k with
 |zero=>exact absurd hk (by decide)
 |succ k=>
  show (match T.fns[f]? with|some d=>_|none=>False);rw[hd];exact ⟨hl,h⟩
variable {c:Bool}
def cG {A B:Prop}(h1:c=true->A)(h2:c=false->B):iz c A B:=by
 unfold iz;cases c
 ·exact h2 rfl
 ·exact h1 rfl
def aN {A B:Prop}(h:c=true)(h1:A):iz c A B:=by subst h;unfold iz;exact h1
def ar {A B:Prop}(h:c=false)(h1:B):iz c A B:=by subst h;unfold iz;exact h1
def FH {A B:Prop}(h:iz c B A):iz (!c) A B:=by
 unfold iz at h⊢;cases c
 ·exact h
 ·exact h
def ax {p:Prop} [Decidable p] {A B:Prop}(h1:p->A)(h2:¬ p->B):iz (decide p) A B:=cG (λh=>h1 (of_decide_eq_true h)) λh=>h2 (of_decide_eq_false h)
def aB {i j:Int}{A B:Prop}(h1:i=j->A)(h2:i≠j->B):iz (d4 (.int i) (.int j)) A B:=by
 show iz (i ==j) A B;exact cG (λh=>h1 (by simpa using h)) λh=>h2 (by simpa using h)
variable {dx:Option Addr}{n j:Nat}{fs:List (Str×V)}{es:List V}{R:Hp->Prop}{fr b:Bool}
section
variable {K:W.Frag}{G:Gx}{O Γ':List ay}{H:Hp}{Q:VK}{a p:Addr}{o:HO}{xs ys:List V}{v w:V}{i:Int}{f:Str}
def al (s:Sep O H)(h:∀ p H',Sep (pt p o::O) H'->Q (.ref p) H'):∀ p,H p=none->Q (.ref p) (upd H p o):=λp hp=>h p _ (s.new hp)
def gk {C x dx:Addr}(s:Sep O H)(h1:H x=none)(h2:H dx=none)(h3:dx≠x):Sep (pt x (.ins C dx [])::pt dx (.own x)::O) (upd (upd H dx (.own x)) x (.ins C dx [])):=(s.new h2).new (by rw[ai h3.symm];exact h1)
def eG {E:XK}(s:Sep O H)(r:aV (pt a (.exc (G.R.cad n) dx fs true)) (pt a (.exc (G.R.cad n) dx fs false)) O Γ')(ho:G.T.xc.contains n=true)(h:∀ H',Sep Γ' H'->E a H'):
  ∃ b i dx fs,V.ref a=.ref b/\H b=some (.exc (G.R.cad i) dx fs true)/\G.T.xc.contains i=true/\E b (upd H b (.exc (G.R.cad i) dx fs false)):=by
 obtain ⟨Δ,h1,h2⟩:=r.bL;exact ⟨a,n,dx,fs,rfl,s.get h1,ho,h _ (s.put r rfl)⟩
def LX (s:Sep O H)(h:∀ p H',Sep (tu p xs::O) H'->Q (.ref p) H'):∀ p,H p=none->Q (.ref p) (upd H p (.tup xs)):=λp hp=>h p _ (s.g6 hp)
def FF (s:Sep O H)(hl:es.length<=10000)(h:∀ p H',Sep (pt p (.lst es)::O) H'->Q (.ref p) H'):B0 es H Q:=by unfold B0;exact ⟨hl,al s h⟩
def Gh (s:Sep O H)(hl:es.length<=10000)(h:∀ p H',Sep (pt p (.tup es)::O) H'->Q (.ref p) H'):g6 es H Q:=by unfold g6;exact ⟨hl,al s h⟩
def FO (s:Sep O H)(h:∀ p H',Sep (pt p (.dK [])::O) H'->Q (.ref p) H'):newD H Q:=by unfold newD;exact al s h
def aL (e:H a=some (.lst xs))(hv:lL xs i=some v)(q:Q v H):rK K (.ref a) (.int i) H Q:=by unfold rK;exact .inl ⟨xs,i,v,rfl,.inl (aS.of e),hv,q⟩
def cS (e:H a=some (.tup xs))(hv:lL xs i=some v)(q:Q v H):rK K (.ref a) (.int i) H Q:=by unfold rK;exact .inl ⟨xs,i,v,rfl,.inr (aZ.of e),hv,q⟩
def fW (s:Sep O H)(r:aV (pt a (.lst xs)) (pt a (.lst ys)) O Γ')(hj:yc xs.length i=some j)(hx:xs.set j v=ys)(h:∀ H',Sep Γ' H'->R H'):g9 (.ref a) (.int i) v H R:=by
 obtain ⟨Δ,h1,h2⟩:=r.bL;subst hx;unfold g9;exact .inl ⟨xs,i,j,rfl,s.get h1,hj,h _ (s.put r rfl)⟩
def HD (e:H a=some (.lst xs))(h0:0<=i)(hv:xs[i.toNat]? =some v)(q:Q v H):zu K (.ref a) (.int i) H Q:=by unfold zu;exact ⟨xs,v,aS.of e,h0,hv,q⟩
def cD {dx:Addr}(e:H a=some (.ins (G.R.cad n) dx fs))(ho:G.T.oc.contains n=true)(hn:G.T.na.contains (n,f)=true)(hl:fs.lookup f=some v)(q:Q v H):sZ G f (.ref a) H Q:=by unfold sZ;exact ⟨a,n,fs,v,rfl,.inl ⟨ho,dx,e⟩,hn,hl,q⟩
def Hu {dx:Addr}(e:H a=some (.exc (G.R.cad n) (some dx) fs fr))(ho:G.T.xc.contains n=true)(hn:G.T.na.contains (n,f)=true)(hl:fs.lookup f=some v)(q:Q v H):sZ G f (.ref a) H Q:=by unfold sZ;exact ⟨a,n,fs,v,rfl,.inr ⟨ho,dx,fr,e⟩,hn,hl,q⟩
def Ka {dx:Addr}{fs':List (Str×V)}(s:Sep O H)(r:aV (pt a (.ins (G.R.cad n) dx fs)) (pt a (.ins (G.R.cad n) dx fs')) O Γ')(ho:G.T.oc.contains n=true)(hn:G.T.na.contains (n,f)=true)(hl:fs.length<1000)(hf:cT f v fs=fs')(h:∀ H',Sep Γ' H'->R H'):C9 G f (.ref a) v H R:=by
 obtain ⟨Δ,h1,h2⟩:=r.bL;subst hf;unfold C9;exact ⟨a,n,rfl,hn,.inl ⟨dx,fs,ho,s.get h1,hl,h _ (s.put r rfl)⟩⟩
def ID {d:Addr}{fs':List (Str×V)}(s:Sep O H)(r:aV (pt a (.exc (G.R.cad n) (some d) fs fr)) (pt a (.exc (G.R.cad n) (some d) fs' fr)) O Γ')(ho:G.T.xc.contains n=true)(hn:G.T.na.contains (n,f)=true)(hl:fs.length<1000)(hf:cT f v fs=fs')(h:∀ H',Sep Γ' H'->R H'):C9 G f (.ref a) v H R:=by
 obtain ⟨Δ,h1,h2⟩:=r.bL;subst hf;unfold C9;exact ⟨a,n,rfl,hn,.inr (.inl ⟨d,fs,fr,ho,s.get h1,hl,h _ (s.put r rfl)⟩)⟩
def ve (s:Sep (pt a (.exc (G.R.cad n) none [] fr)::O) H)(ho:G.T.xc.contains n=true)(hn:G.T.na.contains (n,f)=true)(h:∀ d H',Sep (pt a (.exc (G.R.cad n) (some d) [(f,v)] fr)::pt d (.own a)::O) H'->R H'):C9 G f (.ref a) v H R:=by
 unfold C9;refine ⟨a,n,rfl,hn,.inr (.inr ⟨fr,ho,s.at,λd hd=>h d _ ?_⟩)⟩;exact ((s.new (o:=.own a) hd).pull (.there .here)).set rfl
def cn {n:String}(ht:tyName v H=some t)(hb:G.T.subB.lookup (t,n)=some b)(q:Q (.bl b) H):g7 G (.ty n) v H Q:=by unfold g7;exact .inl ⟨t,b,ht,hb,q⟩
def HC (e:H a=some (.exc (G.R.cad j) dx fs fr))(ho:G.T.xc.contains j=true)(hb:G.T.sub.lookup (j,n)=some b)(q:Q (.bl b) H):g7 G (.own n) (.ref a) H Q:=by unfold g7;exact .inr ⟨a,j,b,rfl,.inr ⟨ho,dx,fs,fr,e⟩,hb,q⟩
def EA {n:String}(e:H a=some (.exc (G.R.cad j) dx fs fr))(ho:G.T.xc.contains j=true)(hb:G.T.subT.lookup (j,n)=some b)(q:Q (.bl b) H):g7 G (.ty n) (.ref a) H Q:=by unfold g7;exact .inr ⟨a,j,b,rfl,.inr ⟨ho,dx,fs,fr,e⟩,hb,q⟩
def Iw {dx:Addr}(e:H a=some (.ins (G.R.cad j) dx fs))(ho:G.T.oc.contains j=true)(hb:G.T.sub.lookup (j,n)=some b)(q:Q (.bl b) H):g7 G (.own n) (.ref a) H Q:=by unfold g7;exact .inr ⟨a,j,b,rfl,.inl ⟨ho,dx,fs,e⟩,hb,q⟩
def gI (e:H a=some (.lst xs))(q:Q (.int xs.length) H):lX G .len [.ref a] H Q:=by unfold lX;exact ⟨_,xs.length,rfl,.inl ⟨xs,aS.of e,rfl⟩,q⟩
def ur (e:H a=some (.tup xs))(q:Q (.int xs.length) H):lX G .len [.ref a] H Q:=by unfold lX;exact ⟨_,xs.length,rfl,.inr ⟨xs,aZ.of e,rfl⟩,q⟩
def GJ {j:Int}(hc:G.cm=true)(q:Q (.int (min i j)) H):lX G .min [.int i,.int j] H Q:=by
 unfold lX;refine ⟨hc,.inl ⟨i,j,rfl,?_⟩⟩;have e:(if j<i then j else i)=min i j:=by split<;>omega
 rw[e];exact q
def F6 {j:Int}(hc:G.cm=true)(q:Q (.int (max i j)) H):lX G .max [.int i,.int j] H Q:=by
 unfold lX;refine ⟨hc,i,j,rfl,?_⟩;have e:(if j>i then j else i)=max i j:=by split<;>omega
 rw[e];exact q
def kF {cs:List Nat}(s:Sep O H)(ho:G.T.xc.contains j=true)(e:H a=some (.exc (G.R.cad j) dx fs fr))(hb:anyS G j cs=some b)(q:∀ p H',Sep (tu p (cs.map λc=>.ref (G.R.cad c))::O) H'->Q (.bl b) H'):∀ p,H p=none->qd G cs (.ref a) (upd H p (.tup (cs.map λc=>.ref (G.R.cad c)))) Q:=λp hp=>by
 unfold qd;refine .inr ⟨a,j,b,rfl,.inr ⟨ho,dx,fs,fr,?_⟩,hb,q p _ (s.g6 hp)⟩;rw[ai]
 ·exact e
 ·intro z;rw[z,hp] at e;cases e
def dJ (h0:0<=i)(h1:i<n):yc n i=some i.toNat:=by
 unfold yc;rw[if_pos h0,if_pos h1]
def vd (s:Sep O H)(e:H a=some (.lst xs))(h:∀ p H',Sep (pt p (.lst xs)::O) H'->Q (.ref p) H'):lX G .list [.ref a] H Q:=by unfold lX;exact ⟨_,xs,rfl,.inl (aS.of e),al s h⟩
def GL (s:Sep O H)(e:H a=some (.lst xs))(h:∀ p H',Sep (tu p xs::O) H'->Q (.ref p) H'):lX G .tuple [.ref a] H Q:=by unfold lX;exact ⟨_,xs,rfl,.inl ⟨aS.of e,LX s h⟩⟩
def nv (s:Sep O H){b:Addr}(e1:H a=some (.lst xs))(e2:H b=some (.lst ys))(hl:xs.length+ys.length<=100000)(h:∀ p H',Sep (pt p (.lst (xs++ys))::O) H'->Q (.ref p) H'):Br K a b H Q:=by unfold Br;exact .inl ⟨xs,ys,e1,e2,hl,al s h⟩
def Hx (s:Sep O H)(e:H a=some (.lst xs))(h1: -1000<=i)(h2:i<=1000)(h3:xs.length<=1000)(h:∀ p H',Sep (pt p (.lst (List.replicate i.toNat xs).flatten)::O) H'->Q (.ref p) H'):Bv K a i H Q:=by unfold Bv;exact .inl ⟨xs,e,h1,h2,h3,al s h⟩
def rD {y:V}(s:Sep O H)(r:aV (pt a (.lst xs)) (pt a (.lst (xs++[y]))) O Γ')(hl:xs.length<=10000)(h:∀ H',Sep Γ' H'->Q .non H'):EO .append a xs [y] H Q:=by unfold EO;exact ⟨_,rfl,hl,h _ (s.put r rfl)⟩
def JY {lo hi:Option Int}(s:Sep O H)(e:aS K H a xs)(h:∀ p H',Sep (pt p (.lst (fg xs lo hi))::O) H'->Q (.ref p) H'):DE K (.ref a) lo hi H Q:=by unfold DE;exact .inl ⟨xs,e,al s h⟩
def GP {R:It->Hp->Prop}(e:H a=some (.lst xs))(h:R (G9 K a) H):sF K a H R:=by unfold sF;exact .inl ⟨⟨xs,aS.of e⟩,h⟩
def CO {R:It->Hp->Prop}(e:H a=some (.lst xs))(h:R (HQ a) H):Be a H R:=by unfold Be;exact ⟨⟨xs,e⟩,h⟩
def GW {lo hi:Option Int}(s:Sep O H)(e:H a=some (.lst xs))(h:∀ p H',Sep (pt p (.lst (fg xs lo hi))::O) H'->Q (.ref p) H'):DE K (.ref a) lo hi H Q:=by unfold DE;exact .inl ⟨xs,aS.of e,al s h⟩
end
variable {x:V}
section
variable {K:W.Frag}{H:Hp}{Q:VK}
def kj (f:aR x=true):d4 x x=true:=by
 cases x<;>simp[aR] at f<;>simp[d4]
def pD {y:V}(fx:aR x=true)(fy:aR y=true)(q:Q (.bl (d4 x y)) H):dZ K false x y H Q:=by unfold dZ;exact ⟨0,_,.flat fx fy,by decide,.inl fx,q⟩
def pF {y:V}(fx:aR x=true)(fy:aR y=true)(q:Q (.bl (!d4 x y)) H):dZ K true x y H Q:=by unfold dZ;exact ⟨0,_,.flat fx fy,by decide,.inl fx,q⟩
def zI {b:Addr}(h:gE K H n (.ref a) (.ref b) c)(hn:n<=100)(ne:a≠b)(q:Q (.bl c) H):dZ K false (.ref a) (.ref b) H Q:=by unfold dZ;exact ⟨n,c,h,hn,.inr (.inl λz=>ne (V.ref.inj z)),q⟩
def yo {b:Addr}(h:gE K H n (.ref a) (.ref b) c)(hn:n<=100)(ne:a≠b)(q:Q (.bl (!c)) H):dZ K true (.ref a) (.ref b) H Q:=by unfold dZ;exact ⟨n,c,h,hn,.inr (.inl λz=>ne (V.ref.inj z)),q⟩
def eq_self (h:tB K H a)(q:Q (.bl true) H):dZ K false (.ref a) (.ref a) H Q:=by unfold dZ;exact ⟨1,true,.same a,by decide,.inr (.inr (.inl ⟨rfl,a,rfl,h⟩)),q⟩
def ku (h:tyName x H=some t):gE K H (n+1) x x true:=by
 have key:aR x=true->gE K H (n+1) x x true:=λf=>by
  have:=gE.flat (K:=K) (H:=H) (n:=n+1) f f
  rwa [kj f] at this
 cases x<;>first|exact key rfl|exact .same _|(cases h)
def all_true (n:Nat):(List.range n).all (λ_=>true)=true:=by simp
def kD {b:Addr}(h1:H a=some (.lst xs))(h2:H b=some (.lst xs))(h:∀ x ∈ xs,∃ t,tyName x H=some t):gE K H (n+2) (.ref a) (.ref b) true:=by
 have:=gE.ll (K:=K) (n:=n) (e:=λ_=>true) (aS.of h1) (aS.of h2) rfl λj x y e1 e2=>by
  rw[e1] at e2;cases e2;obtain ⟨t,ht⟩:=h x (mem_of_getElem? e1);exact ku ht
 rwa [all_true] at this
def zt {b:Addr}{ys:List V}(h1:H a=some (.tup xs))(h2:H b=some (.tup ys))(hl:xs.length=ys.length)(h:∀ (j:Nat) x y,xs[j]? =some x->ys[j]? =some y->gE K H (n+1) x y true):gE K H (n+2) (.ref a) (.ref b) true:=by
 have:=gE.tt (K:=K) (n:=n) (e:=λ_=>true) (aZ.of h1) (aZ.of h2) h;rw[all_true,hl] at this;simpa using this
end
variable {rest:St}{te:TE}
section
variable {D:Ends}{F:(St->Hp->Prop)->V->St->Hp->Prop}{U:St}{H:Hp}
def ig {lo:Int}(I:Nat->St->Hp->Prop)(h0:I 0 U H)(hs:∀ j U H,j<n->I j U H->F (I (j+1)) (.int (lo+j)) U H) (hd:∀ U H,I n U H->D.nx U H):l6 (GO lo n) D F U H:=by
 unfold l6;refine ⟨λi m U H=>m=n-i/\i<=n/\I i U H,⟨n,by simp,Nat.zero_le _,h0⟩,λi m U H ⟨e,hi,h⟩=>?_⟩
 by_cases hlt:i<n
 ·refine .inr ⟨hlt,I (i+1),λσ' H' h'=>⟨n-(i+1),by omega,rfl,hlt,h'⟩,λx H' y=>?_⟩;obtain ⟨rfl,rfl⟩:=y;exact hs i U H' hlt h
 ·have:i=n:=by omega
  subst this;exact .inl ⟨Nat.le_refl _,hd U H h⟩
def cy {K:W.Frag}(I:Nat->St->Hp->Prop)(h0:I 0 U H)(hl:∀ j U H,I j U H->aS K H a xs)
  (hs:∀ j x U H,xs[j]? =some x->I j U H->F (I (j+1)) x U H) (hd:∀ U H,I xs.length U H->D.nx U H):l6 (G9 K a) D F U H:=by
 unfold l6;refine ⟨λi m U H=>m=xs.length-i/\i<=xs.length/\I i U H,⟨xs.length,by simp,Nat.zero_le _,h0⟩,λi m U H ⟨e,hi',h⟩=>?_⟩
 by_cases hlt:i<xs.length
 ·refine .inr ⟨⟨xs,xs[i],hl i U H h,getElem?_eq_getElem hlt⟩,I (i+1),λσ' H' h'=>⟨xs.length-(i+1),by omega,rfl,hlt,h'⟩,λx H' y=>?_⟩;obtain ⟨rfl,hy⟩:=y;exact hs i x U H' (hy xs (hl i U H' h)) h
 ·have:i=xs.length:=by omega
  subst this;exact .inl ⟨⟨xs,hl _ U H h,Nat.le_refl _⟩,hd U H h⟩
def jV (I:Nat->St->Hp->Prop)(h0:I 0 U H)(hl:∀ j U H,I j U H->H a=some (.lst xs)) (hs:∀ j x T U H,xs[j]? =some x->I j U H->H T=none->F (I (j+1)) (.ref T) U (upd H T (.tup [.int j,x])))
  (hd:∀ U H,I xs.length U H->D.nx U H):l6 (HQ a) D F U H:=by
 unfold l6;refine ⟨λi m U H=>m=xs.length-i/\i<=xs.length/\I i U H,⟨xs.length,by simp,Nat.zero_le _,h0⟩,λi m U H ⟨e,hi',h⟩=>?_⟩
 by_cases hlt:i<xs.length
 ·refine .inr ⟨⟨xs,xs[i],hl i U H h,getElem?_eq_getElem hlt⟩,I (i+1),λσ' H' h'=>⟨xs.length-(i+1),by omega,rfl,hlt,h'⟩,λx H' y=>?_⟩;obtain ⟨T,z,hT,rfl,rfl,hy⟩:=y;exact hs i z T U H (hy xs (hl i U H h)) h hT
 ·have:i=xs.length:=by omega
  subst this;exact .inl ⟨⟨xs,hl _ U H h,Nat.le_refl _⟩,hd U H h⟩
@[irreducible] noncomputable def pj (I:Addr->List V->Hp->Prop) (D:Addr) (ys:List V) (rest:St) (x:Option V):VK:=λv H3=>∃ zs,H3 D=some (.lst zs)/\zs.length<sizeLine/\∃ ys2 x2,x::rest=x2::rest/\ys2.length=ys.length+1/\I D ys2 (upd H3 D (.lst (zs++[v])))
def pj.mk {I:Addr->List V->Hp->Prop}{D:Addr}{ys:List V}{x:Option V}{v:V}{H3:Hp}(h1:H3 D=some (.lst ys))(hl:ys.length<=999)(h2:I D (ys++[v]) (upd H3 D (.lst (ys++[v])))):pj I D ys rest x v H3:=
 by unfold pj;exact ⟨ys,h1,dq nofun,ys++[v],x,rfl,by simp,h2⟩
def ph (hn:n<=1000)(I:Addr->List V->Hp->Prop)(h0:∀ D,H D=none->I D [] (upd H D (.lst [])))
  (hs:∀ D ys H',ys.length<n->I D ys H'->te (some (.int (0+(ys.length:Nat)))::rest) H' (pj I D ys rest (some (.int (0+(ys.length:Nat))))))
  (hd:∀ D ys H',ys.length=n->I D ys H'->Q (.ref D) H'):xT te (GO 0 n) (none::rest) H Q:=by
 unfold xT;intro D hD;refine ⟨λi m σ' H'=>m=n-i/\i<=n/\∃ ys x0,σ'=x0::rest/\ys.length=i/\I D ys H',⟨n,by simp,Nat.zero_le _,[],none,rfl,rfl,h0 D hD⟩,λi m σ' H' ⟨e,hi,ys,x0,e1,e2,h⟩=>?_⟩;subst e1 e2
 by_cases hlt:ys.length<n
 ·refine .inr ⟨hlt,λσ2 H2=>∃ ys2 x2,σ2=x2::rest/\ys2.length=ys.length+1/\I D ys2 H2,λσ2 H2 ⟨ys2,x2,f1,f2,f3⟩=>⟨n-(ys.length+1),by omega,rfl,hlt,ys2,x2,f1,f2,f3⟩,λx H'' y=>?_⟩;obtain ⟨e1,e2⟩:=y;subst e1 e2;have z:=hs D ys H'' hlt h;unfold pj at z;exact z
 ·have:ys.length=n:=by omega
  exact .inl ⟨Nat.le_of_eq this.symm,hd D ys H' this h⟩
def lx {K:W.Frag}(hn:xs.length<=1000)(I:Addr->List V->Hp->Prop)(hl:∀ D ys H,I D ys H->aS K H a xs) (h0:∀ D,H D=none->I D [] (upd H D (.lst [])))
  (hs:∀ D ys x H',xs[ys.length]? =some x->I D ys H'->te (some x::rest) H' (pj I D ys rest (some x)))
  (hd:∀ D ys H',ys.length=xs.length->I D ys H'->Q (.ref D) H'):xT te (G9 K a) (none::rest) H Q:=by
 unfold xT;intro D hD;refine ⟨λi m σ' H'=>m=xs.length-i/\i<=xs.length/\∃ ys x0,σ'=x0::rest/\ys.length=i/\I D ys H',⟨xs.length,by simp,Nat.zero_le _,[],none,rfl,rfl,h0 D hD⟩,λi m σ' H' ⟨e,hi,ys,x0,e1,e2,h⟩=>?_⟩;subst e1 e2
 by_cases hlt:ys.length<xs.length
 ·refine .inr ⟨⟨xs,xs[ys.length],hl D ys H' h,getElem?_eq_getElem hlt⟩,λσ2 H2=>∃ ys2 x2,σ2=x2::rest/\ys2.length=ys.length+1/\I D ys2 H2,λσ2 H2 ⟨ys2,x2,f1,f2,f3⟩=>⟨xs.length-(ys.length+1),by omega,rfl,hlt,ys2,x2,f1,f2,f3⟩,λx H'' y=>?_⟩;obtain ⟨e1,hy⟩:=y;subst e1;have z:=hs D ys x H'' (hy xs (hl D ys H'' h)) h;unfold pj at z;exact z
 ·have:ys.length=xs.length:=by omega
  exact .inl ⟨⟨xs,hl D ys H' h,Nat.le_of_eq this.symm⟩,hd D ys H' this h⟩
def zL {K:W.Frag}{G:Gx}{bs:List Bool}(hc:G.cm=true)(e:H a=some (.lst (bs.map V.bl)))(q:Q (.bl (bs.all id)) H):lX G .all [.ref a] H Q:=by unfold lX;exact ⟨hc,_,bs,rfl,aS.of e,q⟩
def iY (q:Q (.bl (decide (x=.non))) H):AJ false x .non H Q:=by unfold AJ;exact q
def bp (q:Q (.bl (!decide (x=.non))) H):AJ true x .non H Q:=by unfold AJ;exact q
def gi {K:W.Frag}(e:aZ K H a xs)(fx:aR x=true)(fs:xs.all aR=true)(q:Q (.bl (G2 x xs)) H):Ih K false x (.ref a) H Q:=by unfold Ih;exact .inl ⟨xs,.inr e,fx,fs,q⟩
end
section
variable {K:W.Frag}{G:Gx}{O Γ':List ay}{H:Hp}{Q:VK}{a b:Addr}{xs ys:List V}{v:V}
def FU {tp1 tp2:Bool}{R:It->Hp->Prop}(h1:Sq K tp1 H a xs)(h2:Sq K tp2 H b ys)(h:R (G4 K tp1 a tp2 b) H):CC K (.ref a) (.ref b) H R:=by unfold CC;exact ⟨tp1,a,tp2,b,rfl,rfl,⟨xs,h1⟩,⟨ys,h2⟩,h⟩
def ui {D:Ends}{F:(St->Hp->Prop)->V->St->Hp->Prop}{U:St}{tp1 tp2:Bool}(I:Nat->St->Hp->Prop)(hn:xs.length=ys.length)(h0:I 0 U H)(hl:∀ j U H,I j U H->Sq K tp1 H a xs/\Sq K tp2 H b ys)
  (hs:∀ j x y T U H,xs[j]? =some x->ys[j]? =some y->I j U H->H T=none->F (I (j+1)) (.ref T) U (upd H T (.tup [x,y]))) (hd:∀ U H,I xs.length U H->D.nx U H):l6 (G4 K tp1 a tp2 b) D F U H:=by
 unfold l6;refine ⟨λi m U H=>m=xs.length-i/\i<=xs.length/\I i U H,⟨xs.length,by simp,Nat.zero_le _,h0⟩,λi m U H ⟨e,hi',h⟩=>?_⟩
 by_cases hlt:i<xs.length
 ·obtain ⟨g1,g2⟩:=hl i U H h;refine .inr ⟨⟨xs,ys,xs[i],ys[i]'(hn▸hlt),g1,g2,getElem?_eq_getElem hlt,getElem?_eq_getElem (hn▸hlt)⟩,I (i+1),λσ' H' h'=>⟨xs.length-(i+1),by omega,rfl,hlt,h'⟩,λx H' y=>?_⟩;obtain ⟨T,z,z',hT,rfl,rfl,hy,hy'⟩:=y;exact hs i z z' T U H (hy xs g1) (hy' ys g2) h hT
 ·have:i=xs.length:=by omega
  subst this;obtain ⟨g1,g2⟩:=hl _ U H h;exact .inl ⟨⟨xs,ys,g1,g2,.inl (Nat.le_refl _)⟩,hd U H h⟩
def IX {tp1 tp2:Bool}{ks:List Key}(s:Sep O H)(h1:Sq K tp1 H a (ks.map kV))(h2:Sq K tp2 H b ys)(hn:ks.Nodup)(hl:ks.length=ys.length)(hz:ks.length<=1000)(h:∀ p H',Sep (pt p (.dK (ks.zip ys))::O) H'->Q (.ref p) H'):II K (.ref a) (.ref b) H Q:=by unfold II;exact ⟨tp1,a,tp2,b,ks,ys,rfl,rfl,h1,h2,hn,hl,hz,al s h⟩
def pR {k:Key}(e:H a=some (.dK kvs))(hv:jH kvs k=some v)(q:Q v H):rK K (.ref a) (kV k) H Q:=by unfold rK;exact .inr ⟨v,.inl ⟨kvs,k,.inl e,rfl,hv.symm⟩,q⟩
def uO {kvs':List (Key×V)}{k:Key}(s:Sep O H)(r:aV (pt a (.dK kvs)) (pt a (.dK kvs')) O Γ')(hl:kvs.length<=10000)(hx:putK kvs k v=kvs')(h:∀ H',Sep Γ' H'->R H'):g9 (.ref a) (kV k) v H R:=by
 obtain ⟨Δ,h1,h2⟩:=r.bL;subst hx;unfold g9;exact .inr ⟨_,.inl ⟨kvs,k,s.get h1,rfl,Nat.lt_of_le_of_lt hl (by decide),rfl⟩,h _ (s.put r rfl)⟩
def vi (s:Sep O H)(e:H a=some (.dK kvs))(h:∀ p H',Sep (pt p (.dK kvs)::O) H'->Q (.ref p) H'):lX G .dict [.ref a] H Q:=by unfold lX;exact ⟨_,kvs,rfl,e,al s h⟩
def GQ (hn:xs.length<=1000)(I:Addr->List V->Hp->Prop)(hl:∀ D ys H,I D ys H->aZ K H a xs) (h0:∀ D,H D=none->I D [] (upd H D (.lst [])))
  (hs:∀ D ys x H',xs[ys.length]? =some x->I D ys H'->te (some x::rest) H' (pj I D ys rest (some x)))
  (hd:∀ D ys H',ys.length=xs.length->I D ys H'->Q (.ref D) H'):xT te (HH K a) (none::rest) H Q:=by
 unfold xT;intro D hD;refine ⟨λi m σ' H'=>m=xs.length-i/\i<=xs.length/\∃ ys x0,σ'=x0::rest/\ys.length=i/\I D ys H',⟨xs.length,by simp,Nat.zero_le _,[],none,rfl,rfl,h0 D hD⟩,λi m σ' H' ⟨e,hi,ys,x0,e1,e2,h⟩=>?_⟩;subst e1 e2
 by_cases hlt:ys.length<xs.length
 ·refine .inr ⟨⟨xs,xs[ys.length],hl D ys H' h,getElem?_eq_getElem hlt⟩,λσ2 H2=>∃ ys2 x2,σ2=x2::rest/\ys2.length=ys.length+1/\I D ys2 H2,λσ2 H2 ⟨ys2,x2,f1,f2,f3⟩=>⟨xs.length-(ys.length+1),by omega,rfl,hlt,ys2,x2,f1,f2,f3⟩,λx H'' y=>?_⟩;obtain ⟨e1,hy⟩:=y;subst e1;have z:=hs D ys x H'' (hy xs (hl D ys H'' h)) h;unfold pj at z;exact z
 ·have:ys.length=xs.length:=by omega
  exact .inl ⟨⟨xs,hl D ys H' h,Nat.le_of_eq this.symm⟩,hd D ys H' this h⟩
def Jr {R:It->Hp->Prop}(e:aZ K H a xs)(h:R (HH K a) H):sF K a H R:=by unfold sF;exact .inr ⟨⟨xs,e⟩,h⟩
def KQ {C:Addr}(s:Sep O H)(h:∀ x dx H',Sep (pt x (.ins C dx [])::pt dx (.own x)::O) H'->Q (.ref x) H'):yf C H Q:=by unfold yf;exact λx dx h1 h2 h3=>h x dx _ (gk s h1 h2 h3)
end
end L3
namespace L3
open PySem PySem.Spec PySem.W L2
variable {ps:List Str}
def zP:∀ {us:List Value}{n:Str},us.length=ps.length->n ∈ ps->((ps.zip us).lookup n).isNone=false:=by
 induction ps with
 |nil=>intro us n _ h;cases h
 |cons p ps ih=>
  intro us n hl h;cases us with
  |nil=>cases hl
  |cons u us=>
   rw[zip_cons_cons,lookup_cons];cases e:n ==p with
   |true=>rfl
   |false=>
    rcases mem_cons.mp h with rfl|h
    ·rw[beq_self_eq_true] at e;cases e
    ·exact ih (Nat.succ.inj hl) h
def sh:∀ {ps:List Str}{us:List Value},ps.Nodup->us.length=ps.length->∀ {L:List (Str×Value)},(∀ n ∈ ps,L.lookup n=(ps.zip us).lookup n)->ps.filterMap (λn=>(L.lookup n).map (n,·))=ps.zip us
 | [],us,_,_,L,_=>rfl
 |p::ps,[],_,hl,L,_=>by cases hl
 |p::ps,u::us,nd,hl,L,hL=>by
  have h0:L.lookup p=some u:=by rw[hL p mem_cons_self,zip_cons_cons,lookup_cons,beq_self_eq_true]
  rw[filterMap_cons,h0,zip_cons_cons];show (p,u)::_=_;rw[sh (nodup_cons.mp nd).2 (Nat.succ.inj hl) (L:=L)];intro n hn;rw[hL n (mem_cons_of_mem _ hn),zip_cons_cons,lookup_cons];have:(n ==p)=false:=by
   cases e:n ==p with
   |false=>rfl
   |true=>
    have:=beq_iff_eq.mp e;subst this;exact absurd hn (nodup_cons.mp nd).1
  rw[this]
variable {fd:FuncData}
def qe (nd:ps.Nodup)(h1:fd.params.posonlyargs=[])(h2:fd.params.args.map (·.arg)=ps)(h3:fd.params.kwonlyargs=[])(h4:fd.params.vararg=none)(h5:fd.params.kwarg=none)(h6:fd.defaults=.none)(us:List Value)(hl:us.length=ps.length):
  bindArgs fd ⟨us,[]⟩=pure (ps.zip us):=by
 obtain ⟨name,qual,⟨po,as,va,ko,kd,ka,df⟩,body,scope,glo,cf,dV,kV,doc,pm,an,cdv,ct,bu⟩:=fd;dsimp only at h1 h2 h3 h4 h5 h6;subst h1 h2 h3 h4 h5 h6;generalize hps:as.map (·.arg)=ps at nd hl⊢;have e1:seqItems? (Value.none)=(pure none:Sem (Option (Array Value))):=rfl;have e2:∀ f:Str->Bool,(∀ n ∈ ps,f n=false)->ps.filter f=[]:=λf h=>List.filter_eq_nil_iff.mpr λa ha=>by rw[h a ha];decide
 have e3:¬ (us.length>ps.length):=by omega
 have e4:=e2 (λn=>((ps.zip us).lookup n).isNone) λn hn=>zP hl hn
 have e5:=sh nd hl (L:=ps.zip us) λ_ _=>rfl
 unfold bindArgs;dsimp only[List.map_nil,nil_append,append_nil];rw[hps];simp[e1,e3,e4,e5]
abbrev gD (S:List (Str×Value))(x:Str×Value):List (Str×Value):=if (S.lookup x.1).isNone=true then S++[x] else S
def Dm:∀ {L:List (Str×Value)}{S:List (Str×Value)},(∀ x ∈ L,(S.lookup x.1).isNone=false)->L.foldl gD S=S
 | [],_,_=>rfl
 |x::L,S,h=>by
  have h0:gD S x=S:=by
   unfold gD;rw[if_neg (by rw[h x mem_cons_self];decide)]
  rw[foldl_cons,h0];exact Dm λy hy=>h y (mem_cons_of_mem _ hy)
def Dt:∀ {L:List (Str×Value)}{S:List (Str×Value)},(L.map (·.1)).Nodup->(∀ x ∈ L,S.lookup x.1=none)->L.foldl gD S=S++L
 | [],S,_,_=>by rw[append_nil];rfl
 |x::L,S,nd,h=>by
  have h0:gD S x=S++[x]:=by
   unfold gD;rw[if_pos (by rw[h x mem_cons_self];rfl)]
  rw[map_cons] at nd;rw[foldl_cons,h0,Dt (nodup_cons.mp nd).2]
  ·rw[append_assoc];rfl
  ·intro y hy;have hne:(y.1 ==x.1)=false:=by
    cases e:y.1 ==x.1 with
    |false=>rfl
    |true=>
     have e:=beq_iff_eq.mp e;exact absurd (List.mem_map_of_mem (f:=(·.1)) hy) (e▸(nodup_cons.mp nd).1)
   obtain ⟨a,b⟩:=x;rw[List.lookup_append,h y (mem_cons_of_mem _ hy),lookup_cons,hne]
   rfl
def DZ {n:Str}:∀ {L:List (Str×Value)},(∀ x ∈ L,x.1≠n)->L.lookup n=none
 | [],_=>rfl
 |(a,b)::L,h=>by
  have:(n ==a)=false:=by
   cases e:n ==a with
   |false=>rfl
   |true=>exact absurd (beq_iff_eq.mp e).symm (h (a,b) mem_cons_self)
  rw[lookup_cons,this];exact DZ λx hx=>h x (mem_cons_of_mem _ hx)
variable {A:List Str}{B:List Value}
def pq {x:Str×Value}(h:x ∈ A.zip B):x.1 ∈ A:=by
 obtain ⟨a,b⟩:=x;exact (of_mem_zip h).1
def zip_map (h:A.length<=B.length):(A.zip B).map (·.1)=A:=List.map_fst_zip h
def oZ {B:List Str}{us:List Value}(h:A.length=us.length):(A++B).zip us=A.zip us:=by
 have:=zip_append (l₁:=A) (l₂:=us) (r₁:=B) (r₂:=[]) h;rw[append_nil,List.zip_nil_right,append_nil] at this;exact this
def Bt {B:List Str}{us D1 D2:List Value}(nd:(A++B).Nodup)(h1:A.length=us.length)(h2:B.length=D2.length)(h3:D1.length<=A.length):
  (((A++B).drop (A.length-D1.length)).zip (D1++D2)).foldl gD ((A++B).zip us)=(A++B).zip (us++D2):=by
 have a:=Dm (L:=(A.drop (A.length-D1.length)).zip D1) (S:=(A++B).zip us) λx hx=>by
  rw[oZ h1];exact zP h1.symm (List.mem_of_mem_drop (pq hx))
 have b:=Dt (L:=B.zip D2) (S:=(A++B).zip us) (by rw[zip_map nofun];exact (List.nodup_append.mp nd).2.1) λx hx=>by
  refine DZ λy hy e=>?_
  rw[oZ h1] at hy;exact (List.nodup_append.mp nd).2.2 y.1 (pq hy) x.1 (pq hx) e
 rw[List.drop_append_of_le_length nofun,zip_append (by rw[length_drop];omega),List.foldl_append,a,b,oZ h1,zip_append h1]
def Al {us ds:List Value}(nd:ps.Nodup)(h1:us.length<=ps.length)(h2:ds.length<=ps.length)(h3:ps.length<=us.length+ds.length):
  ((ps.drop (ps.length-ds.length)).zip ds).foldl gD (ps.zip us)=ps.zip (us++ds.drop (us.length+ds.length-ps.length)):=by
 have nd2:(ps.take us.length++ps.drop us.length).Nodup:=by rw[take_append_drop];exact nd
 have:=Bt (A:=ps.take us.length) (B:=ps.drop us.length) (us:=us) (D1:=ds.take (us.length+ds.length-ps.length)) (D2:=ds.drop (us.length+ds.length-ps.length)) nd2 (by rw[length_take];omega) (by rw[length_drop,length_drop];omega) (by rw[length_take,length_take];omega);rw[take_append_drop,take_append_drop,length_take,length_take] at this;rw[show min us.length ps.length-min (us.length+ds.length-ps.length) ds.length=ps.length-ds.length by omega] at this;exact this
def qZ:∀ {L:List (Str×Value)}{S:List (Str×Value)},(forIn L S λx r=>(match x with|(name,d)=>if (r.lookup name).isNone=true then pure (ForInStep.yield (r++[(name,d)])) else pure (ForInStep.yield r):Sem (ForInStep (List (Str×Value)))))=pure (L.foldl gD S)
 | [],S=>by simp
 |(a,b)::L,S=>by
  rw[forIn_cons,foldl_cons,<-qZ];unfold gD
  by_cases e:(S.lookup a).isNone=true
  ·simp only[e,if_true,pure_bind]
  ·simp only[e,if_false,pure_bind,Bool.false_eq_true]
def yN {T:Addr}{items:Array Value}(nd:ps.Nodup)(h1:fd.params.posonlyargs=[])(h2:fd.params.args.map (·.arg)=ps)(h3:fd.params.kwonlyargs=[])(h4:fd.params.vararg=none)(h5:fd.params.kwarg=none)(h6:fd.defaults=.ref T)(us:List Value)(l1:us.length<=ps.length)(l2:items.toList.length<=ps.length)(l3:ps.length<=us.length+items.toList.length):
  ∃ k:Option (Array Value)->Sem (List (Str×Value)),bindArgs fd ⟨us,[]⟩=seqItems? fd.defaults >>= k/\k (some items)=pure (ps.zip (us++items.toList.drop (us.length+items.toList.length-ps.length))):=by
 obtain ⟨name,qual,⟨po,as,va,ko,kd,ka,df⟩,body,scope,glo,cf,dV,kV,doc,pm,an,cdv,ct,bu⟩:=fd;dsimp only at h1 h2 h3 h4 h5 h6;subst h1 h2 h3 h4 h5 h6;generalize hps:as.map (·.arg)=ps at nd l1 l2 l3⊢;have e2:∀ f:Str->Bool,(∀ n ∈ ps.take (ps.length-items.toList.length),f n=false)->(ps.take (ps.length-items.toList.length)).filter f=[]:=λf h=>List.filter_eq_nil_iff.mpr λa ha=>by rw[h a ha];decide
 have e3:¬ (us.length>ps.length):=by omega
 have ez:ps.zip us=(ps.take us.length).zip us:=by
  have:=oZ (A:=ps.take us.length) (B:=ps.drop us.length) (us:=us) (by rw[length_take];omega);rw[take_append_drop] at this;exact this
 have e4:=e2 (λn=>((ps.zip us).lookup n).isNone) λn hn=>by
  rw[ez];refine zP (by rw[length_take];omega) ?_;have:ps.take (ps.length-items.toList.length)=(ps.take us.length).take (ps.length-items.toList.length):=by rw[List.take_take,Nat.min_eq_left nofun]
  rw[this] at hn;exact mem_of_mem_take hn
 have e6:=Al (us:=us) (ds:=items.toList) nd l1 l2 l3;have e5:=sh (us:=us++items.toList.drop (us.length+items.toList.length-ps.length)) nd (by rw[length_append,length_drop];omega) λ_ _=>rfl
 have e7:items.toList.length-ps.length=0:=by omega
 unfold bindArgs;dsimp only[List.map_nil,nil_append,append_nil];rw[hps];refine ⟨_,rfl,?_⟩;simp only[Option.getD_some,List.map_nil,nil_append,e7,drop_zero,e4,e3,List.isEmpty_nil,Bool.not_true,decide_false,Bool.false_and,Bool.false_eq_true,if_false,forIn_nil,append_nil];rw[qZ,e6,pure_bind,pure_bind];simp only[e5,List.isEmpty_nil,Bool.not_true,Bool.false_eq_true,if_false]
abbrev Ec (x:Option (Option Value))(a:Addr):Bool:=match x with
 |some (some (.ref b))=>b ==a
 |_=>false
variable {x:Option (Option Value)}
def f9 {a:Addr}(h:Ec x a=true):x=some (some (.ref a)):=by
 unfold Ec at h
 split at h
 ·rw[beq_iff_eq.mp h]
 ·cases h
abbrev rV (x:Option (Option Value))(a:String):Bool:=match x with
 |some (some (.builtin b))=>b ==a
 |_=>false
variable {a:String}
def cK (h:rV x a=true):x=some (some (.builtin a)):=by
 unfold rV at h
 split at h
 ·rw[beq_iff_eq.mp h]
 ·cases h
abbrev Kp (x:Option Value)(a:String):Bool:=match x with
 |some (.type b)=>b ==a
 |_=>false
def F0 {x:Option Value}(h:Kp x a=true):x=some (.type a):=by
 unfold Kp at h
 split at h
 ·rw[beq_iff_eq.mp h]
 ·cases h
abbrev xS (x:Option (Option Value)):Bool:=match x with
 |some none=>true
 |_=>false
def nM (h:xS x=true):x=some none:=by
 unfold xS at h
 split at h
 ·rfl
 ·cases h
abbrev BG (x:Option Bool)(b:Bool):Bool:=match x with
 |some c=>c ==b
 |none=>false
def fe {x:Option Bool}{b:Bool}(h:BG x b=true):x=some b:=by
 unfold BG at h
 split at h
 ·rw[beq_iff_eq.mp h]
 ·cases h
abbrev Lf (v:V)(x:Option (Option Value)):Bool:=match v,x with
 | .int i,some (some (.int j _))=>i ==j
 | .str s,some (some (.str s' _))=>s ==s'
 | .ref a,y=>Ec y a
 |_,_=>false
def FP {v:V}(h:Lf v x=true):∃ u,x=some (some u)/\RelV v u:=by
 unfold Lf at h
 split at h
 ·rw[<-beq_iff_eq.mp h];exact ⟨_,rfl,_,rfl⟩
 ·rw[<-beq_iff_eq.mp h];exact ⟨_,rfl,_,rfl⟩
 ·rw[f9 h];exact ⟨_,rfl,rfl⟩
 ·cases h
section
variable (K:Frag) (C:Addr)
abbrev CK:Bool:=plainGet K C Str.empty&&(hasDictIn K C&&(plainOver K C&&rV (findIn K (.ref C) "__setattr__") "object.__setattr__"))
def ub {K:Frag}{C:Addr}(h:CK K C=true):A9 K C:=by
 unfold CK at h;simp only[Bool.and_eq_true] at h;exact ⟨h.1,h.2.1,h.2.2.1,cK h.2.2.2⟩
abbrev CU:Bool:=rV (findIn K (.ref C) "__class__") "object.__class__"&&(rV (specialIn K (.builtin "object.__class__") "__get__") "getset_descriptor.__get__"&&BG (takesIn K (.builtin "object.__class__")) true)
abbrev qr:Bool:=Kp (typeIn K (.ref C)) "type"&&((clsIn K C).any (λcd=>dM cd.mro)&&(hasDictIn K C&&(rV (findIn K (.ref C) "__getattribute__") "BaseException.__getattribute__"&&(xS (findIn K (.ref C) "__getattr__")&&rV (findIn K (.ref C) "__setattr__") "object.__setattr__"))))
def k9 {K:Frag}{C:Addr}(h:qr K C=true):cU K C:=by
 unfold qr at h;simp only[Bool.and_eq_true] at h;exact ⟨F0 h.1,h.2.1,h.2.2.1,cK h.2.2.2.1,nM h.2.2.2.2.1,cK h.2.2.2.2.2⟩
end
abbrev all2 {α:Type}(l:List α)(p:α->Bool):Bool:=match l with
 | []=>true
 |a::r=>p a&&all2 r p
def aC {α:Type}{p:α->Bool}:∀ {l:List α},all2 l p=true->∀ a ∈ l,p a=true
 | [],_,_,h=>by cases h
 |a::r,h,b,hb=>by
  unfold all2 at h;rw[Bool.and_eq_true] at h;rcases mem_cons.mp hb with rfl|hb
  ·exact h.1
  ·exact aC h.2 b hb
abbrev Ff (K:Frag)(fs cs:List Addr)(gs:List (Str×V)):Rt:=⟨K,λi=>fs.getD i 0,λi=>cs.getD i 0,λx=>gs.lookup x⟩
section
variable (K:Frag) (T:Tab) (fs cs:List Addr) (gs:List (Str×V))
abbrev GA:Bool:=
 (all2 T.gfn (λp=>Ec (nsIn K mainGlobals p.1) (fs.getD p.2 0)&&(keepIn K (.ref (fs.getD p.2 0))&&(T.fns[p.2]?).isSome))&&
 (all2 T.gcl (λp=>Ec (nsIn K mainGlobals p.1) (cs.getD p.2 0))&&
 (all2 T.gbl (λx=>xS (nsIn K mainGlobals x)&& !(x ==("__name__":Str)))&&
 (all2 T.gbi (λx=>match nsIn K mainGlobals x with
  |some (some (.ref B))=>rV (specialIn K (.ref B) "__getattribute__") "type.__getattribute__"&&(readsIn K B (.type "type")&&(match findCls K (.ref B) (.type "type") "__init__" with|some (.val (.builtin n))=>n =="ValueError.__init__"|_=>false))
  |_=>false)&&
 (all2 gs (λp=>Lf p.2 (nsIn K mainGlobals p.1))&&
 (all2 T.na (λp=>xS (findIn K (.ref (cs.getD p.1 0)) p.2))&&
 (all2 T.me (λp=>CK K (cs.getD p.1.1 0)&&(Ec (findIn K (.ref (cs.getD p.1.1 0)) p.1.2) (fs.getD p.2 0)&&(isFn K (.ref (fs.getD p.2 0))&&(keepIn K (.ref (fs.getD p.2 0))&&(T.fns[p.2]?).isSome)))))))))))&&
 (all2 T.ini0 (λc=>bZ K (cs.getD c 0)&&(rV (findIn K (.ref (cs.getD c 0)) "__init__") "ValueError.__init__"&&(keepIn K (.ref (cs.getD c 0))&&qr K (cs.getD c 0))))&&
 (all2 T.inip (λc=>makesIn K (cs.getD c 0)&&(rV (findIn K (.ref (cs.getD c 0)) "__init__") "object.__init__"&&keepIn K (.ref (cs.getD c 0))))&&
 (all2 T.ini (λp=>(T.fns[p.2]?).isSome&&((if T.xc.contains p.1=true then bZ K (cs.getD p.1 0) else makesIn K (cs.getD p.1 0))&&(Ec (findIn K (.ref (cs.getD p.1 0)) "__init__") (fs.getD p.2 0)&&(isFn K (.ref (fs.getD p.2 0))&&keepIn K (.ref (cs.getD p.1 0))))))&&
 (all2 T.oc (λc=>CK K (cs.getD c 0)&&(CU K (cs.getD c 0)&&BG (mroIn K (cs.getD c 0) (.type "object")) true))&&
 (all2 T.xc (λc=>qr K (cs.getD c 0)&&CU K (cs.getD c 0))&&
 (all2 T.sub (λp=>BG (kitOne K (.ref (cs.getD p.1.1 0)) (.ref (cs.getD p.1.2 0))) p.2&&(!T.xc.contains p.1.1||(BG (mroIn K (cs.getD p.1.1 0) (.ref (cs.getD p.1.2 0))) p.2&&qr K (cs.getD p.1.2 0))))&&
 (all2 T.subT (λp=>BG (kitOne K (.ref (cs.getD p.1.1 0)) (.type p.1.2)) p.2)&&
 (all2 T.subB (λp=>BG (kitOne K (.type p.1.1) (.type p.1.2)) p.2)&&
 (all2 T.subO (λp=>BG (kitOne K (.type p.1.1) (.ref (cs.getD p.1.2 0))) p.2)&&
  all2 T.cin (λp=>rV (specialIn K (.ref (cs.getD p.1 0)) "__getattribute__") "type.__getattribute__"&&(readsIn K (cs.getD p.1 0) (.type "type")&&((match findCls K (.ref (cs.getD p.1 0)) (.type "type") "__init__" with|some (.val (.ref f))=>f ==fs.getD p.2 0|_=>false)&&(keepIn K (.ref (fs.getD p.2 0))&&(T.fns[p.2]?).isSome)))))))))))))
end
def j6 {α:Type}{x:Option α}(h:x.isSome=true):∃ d,x=some d:=Option.isSome_iff_exists.mp h
variable {K:Frag}{T:Tab}{fs:List Addr}{gs:List (Str×V)}{mg:ME}
def A0 {cs:List Addr}{h:Heap}(X:K.In h)(G:h.Ns mainGlobals mg)(z:GA K T fs cs gs=true):CW K mg T (Ff K fs cs gs):=by
 unfold GA at z;simp only[Bool.and_eq_true] at z;obtain ⟨⟨z1,z2,z3,z4,z5,z6,z7⟩,z8,z9,z10,z11,z12,z13,z14,z15,z16,z17⟩:=z;exact {
  gfn:=kP λp hp=>by
   have:=aC z1 p hp;simp only[Bool.and_eq_true] at this;exact ⟨mg_of X G (f9 this.1),this.2.1,j6 this.2.2⟩
  gcl:=kP λp hp=>mg_of X G (f9 (aC z2 p hp))
  gbl:=iX λx hx=>by
   have:=aC z3 x hx;simp only[Bool.and_eq_true] at this;exact ⟨mg_none_of X G (nM this.1),by simpa using this.2⟩
  gbi:=iX λx hx=>by
   have:=aC z4 x hx
   split at this
   ·rename_i B e;simp only[Bool.and_eq_true] at this;refine ⟨B,mg_of X G e,cK this.1,this.2.1,?_⟩;have t:=this.2.2
    split at t
    ·rename_i n e2;rw[e2,beq_iff_eq.mp t]
    ·cases t
   ·cases this
  gl:=kP λp hp=>by
   obtain ⟨u,e,r⟩:=FP (aC z5 p hp);exact ⟨u,mg_of X G e,r⟩
  na:=C6 λp hp=>nM (aC z6 p hp)
  me:=gZ λp hp=>by
   have:=aC z7 p hp;simp only[Bool.and_eq_true] at this;exact ⟨ub this.1,⟨f9 this.2.1,this.2.2.1,this.2.2.2.1⟩,j6 this.2.2.2.2⟩
  ini0:=iX λc hc=>by
   have:=aC z8 c hc;simp only[Bool.and_eq_true] at this;exact ⟨this.1,cK this.2.1,this.2.2.1,k9 this.2.2.2⟩
  inip:=iX λc hc=>by
   have:=aC z9 c hc;simp only[Bool.and_eq_true] at this;exact ⟨this.1,cK this.2.1,this.2.2⟩
  ini:=kP λp hp=>by
   have:=aC z10 p hp;simp only[Bool.and_eq_true] at this;refine ⟨j6 this.1,?_⟩;have t:=this.2
   by_cases e:T.xc.contains p.1=true
   ·rw[if_pos e] at t⊢;exact ⟨t.1,f9 t.2.1,t.2.2.1,t.2.2.2⟩
   ·rw[if_neg e] at t⊢;exact ⟨t.1,f9 t.2.1,t.2.2.1,t.2.2.2⟩
  oc:=iX λc hc=>by
   have:=aC z11 c hc;simp only[CU,Bool.and_eq_true] at this;exact ⟨ub this.1,cK this.2.1.1,cK this.2.1.2.1,fe this.2.1.2.2,fe this.2.2⟩
  xc:=iX λc hc=>by
   have:=aC z12 c hc;simp only[CU,Bool.and_eq_true] at this;exact ⟨k9 this.1,cK this.2.1,cK this.2.2.1,fe this.2.2.2⟩
  sub:=gZ λp hp=>by
   have:=aC z13 p hp;simp only[Bool.and_eq_true] at this;refine ⟨fe this.1,λe=>?_⟩;have t:=this.2;rw[e,Bool.not_true,Bool.false_or,Bool.and_eq_true] at t;exact ⟨fe t.1,k9 t.2⟩
  subT:=gZ λp hp=>fe (aC z14 p hp)
  subB:=gZ λp hp=>fe (aC z15 p hp)
  subO:=gZ λp hp=>fe (aC z16 p hp)
  cin:=kP λp hp=>by
   have:=aC z17 p hp;simp only[Bool.and_eq_true] at this;refine ⟨⟨cK this.1,this.2.1,?_,this.2.2.2.1⟩,j6 this.2.2.2.2⟩;have t:=this.2.2.1
   split at t
   ·rename_i f e2;rw[beq_iff_eq.mp t] at e2;exact e2
   ·cases t }
abbrev JP:List Str->Bool
 | []=>true
 |a::r=>!r.contains a&&JP r
def xx:∀ {l:List Str},JP l=true->l.Nodup
 | [],_=>List.nodup_nil
 |a::r,h=>by
  unfold JP at h;rw[Bool.and_eq_true] at h;exact nodup_cons.mpr ⟨by simpa using h.1,xx h.2⟩
abbrev Le (N P:List Str)(sc:Scope):Bool:=decide (sc.kind=.function)&&(!sc.isCoroutine&&(!sc.isGenerator&&(JP N&&(N.take P.length ==P&&(all2 P (λx=>match sc.names.lookup x with|some .local=>true|some .cell=>true|_=>false)&&all2 sc.names (λy=>match y.2 with| .free=>false|_=>true))))))
def tR {N P:List Str}{sc:Scope}(h:Le N P sc=true):jZ N P sc:=by
 unfold Le at h;simp only[Bool.and_eq_true,decide_eq_true_eq] at h;refine ⟨h.1,by simpa using h.2.1,by simpa using h.2.2.1,xx h.2.2.2.1,beq_iff_eq.mp h.2.2.2.2.1,λx hx=>?_,λy hy e=>?_⟩
 ·have:=aC h.2.2.2.2.2.1 x hx
  split at this
  ·rename_i e;exact .inl e
  ·rename_i e;exact .inr e
  ·cases this
 ·have:=aC h.2.2.2.2.2.2 y hy;rw[e] at this;cases this
abbrev Ks:V->Value->Bool
 | .non,.none=>true
 | .bl b,.bool c=>b ==c
 | .int i,.int j _=>i ==j
 | .str s,.str s' _=>s ==s'
 |_,_=>false
def Fs {v:V}{u:Value}(h:Ks v u=true):RelV v u:=by
 unfold Ks at h
 split at h
 ·rfl
 ·rw[beq_iff_eq.mp h];rfl
 ·rw[beq_iff_eq.mp h];exact ⟨_,rfl⟩
 ·rw[beq_iff_eq.mp h];exact ⟨_,rfl⟩
 ·cases h
abbrev yI:List V->List Value->Bool
 | [],[]=>true
 |v::vs,u::us=>Ks v u&&yI vs us
 |_,_=>false
def pk:∀ {vs:List V}{us:List Value},yI vs us=true->Vals vs us
 | [],[],_=>.nil
 |v::vs,u::us,h=>by
  unfold yI at h;rw[Bool.and_eq_true] at h;exact .cons (Fs h.1) (pk h.2)
 | [],_::_,h=>by cases h
 |_::_,[],h=>by cases h
abbrev K9 (K:Frag)(fd:FuncData)(d:aq):Bool:=match fd.defaults with
 | .none=>d.dfl.isEmpty
 | .ref T=>!d.dfl.isEmpty&&(match K.lookup T with
  |some o=>(match o.data with| .seq items _=>yI d.dfl items.toList&&decide (items.toList.length<=d.ps.length)|_=>false)
  |none=>false)
 |_=>false
abbrev Dw (K:Frag)(T:Tab)(f:Addr)(d:aq):Bool:=match K.lookup f with
 |some ⟨_,_,.func fd,_⟩=>(match fd.body with
  | .stmts body=>decide (fd.globals=mainGlobals)&&(fd.closure.isEmpty&&(decide (fd.builtins=builtinsNs)&&(codeIn K fd.code fd.qualname&&(Le d.N d.ps fd.scope&&(mB ⟨T,fd.scope,d.N⟩ d.body body&&
   (fd.params.posonlyargs.isEmpty&&(fd.params.args.map (·.arg) ==d.ps&&(fd.params.kwonlyargs.isEmpty&&(fd.params.vararg.isNone&&(fd.params.kwarg.isNone&&K9 K fd d))))))))))
  |_=>false)
 |_=>false
variable {d:aq}
def EU {f:Addr}(h:Dw K T f d=true):wX K T f d:=by
 unfold Dw at h
 split at h
 ·rename_i oc od fd sl e;obtain ⟨name,qual,params,body,scope,glo,cf,dV,kV,doc,pm,an,cdv,ct,bu⟩:=fd;dsimp only at h
  split at h
  ·rename_i body;simp only[Bool.and_eq_true,decide_eq_true_eq,isEmpty_iff,Option.isNone_iff_eq_none] at h;obtain ⟨h1,h2,h3,h4,h5,h6,h7,h8,h9,h10,h11,h12⟩:=h;subst h1 h2 h3;have S:=tR h5;have nd:d.ps.Nodup:=by
    rw[<-S.pre];exact S.nd.sublist (take_sublist _ _)
   refine ⟨⟨name,qual,params,body,scope,dV,kV,doc,pm,cdv,ct,oc,od,an,sl,e,h4,S,h6,?_⟩⟩;unfold K9 at h12;dsimp only at h12
   split at h12
   ·rw[isEmpty_iff.mp h12];exact F8 (.all λus hl=>qe nd h7 (beq_iff_eq.mp h8) h9 h10 h11 rfl us hl)
   ·rename_i T0;rw[Bool.and_eq_true] at h12;have h12:=h12.2
    split at h12
    ·rename_i o ho
     split at h12
     ·rename_i items c hs;rw[Bool.and_eq_true,decide_eq_true_eq] at h12;intro j;refine ⟨items.toList.drop j,?_,mx j (pk h12.1)⟩;refine CV (n:=d.ps.length-(items.toList.drop j).length) rfl ho hs (by rw[length_drop];omega) λus hl=>?_
      rw[length_drop] at hl;obtain ⟨k,k1,k2⟩:=yN (fd:=fnOf name qual params body scope (.ref T0) kV doc pm an cdv ct) (items:=items) nd h7 (beq_iff_eq.mp h8) h9 h10 h11 rfl us nofun h12.2 nofun;refine ⟨k,k1,?_⟩;rw[k2]
      by_cases e:j<=items.toList.length
      ·rw[show us.length+items.toList.length-d.ps.length=j by omega]
      ·rw[show us.length+items.toList.length-d.ps.length=items.toList.length by omega,List.drop_length,List.drop_eq_nil_of_le (by omega:items.toList.length<=j)]
     ·cases h12
    ·cases h12
   ·cases h12
  ·cases h
 ·cases h
abbrev nG (K:Frag)(T:Tab)(fs:List Addr):Nat->List aq->Bool
 |_,[]=>true
 |n,d::r=>Dw K T (fs.getD n 0) d&&nG K T fs (n+1) r
def ue {K:Frag}{T:Tab}{fs:List Addr}:∀ {l:List aq}{n:Nat},nG K T fs n l=true->uI (λf d=>wX K T (fs.getD f 0) d) n l
 | [],_,_=>True.intro
 |d::r,n,h=>by
  unfold nG at h;rw[Bool.and_eq_true] at h;exact ⟨EU h.1,ue h.2⟩
def B3 (h:nG K T fs 0 T.fns=true):∀ f d,T.fns[f]? =some d->wX K T (fs.getD f 0) d:=tY (P:=λf d=>wX K T (fs.getD f 0) d) (ue h)
def uk {K:Frag}{T:Tab}{fs:List Addr}:∀ {l:List aq}{n f:Nat}{d:aq},nG K T fs n l=true->l[f]? =some d->Dw K T (fs.getD (n+f) 0) d=true
 | [],_,_,_,_,e=>by simp at e
 |a::r,n,0,d,h,e=>by
  unfold nG at h;rw[Bool.and_eq_true] at h;have:a=d:=by simpa using e
  subst this;exact h.1
 |a::r,n,f+1,d,h,e=>by
  unfold nG at h;rw[Bool.and_eq_true] at h;have:=uk h.2 (f:=f) (d:=d) (by simpa using e)
  rwa [Nat.add_assoc,Nat.add_comm 1 f] at this
def Bo {fl:Nat}(z:nG K T fs 0 T.fns=true)(hd:T.fns[fl]? =some d)(hp:d.ps=[("_law_script":Str)]) (hf:d.dfl=[]):
  ∃ oc od fd sl,K.lookup (fs.getD fl 0)=some ⟨oc,od,.func fd,sl⟩/\∀ (s:Shared) (v:Value),BindsTo s fd ⟨[v],[]⟩ [("_law_script",v)]:=by
 have h:=uk z hd;rw[Nat.zero_add] at h;unfold Dw at h
 split at h
 ·rename_i oc od fd sl e;refine ⟨oc,od,fd,sl,e,λs v=>?_⟩
  split at h
  ·rename_i body hb;simp only[Bool.and_eq_true,decide_eq_true_eq,isEmpty_iff,Option.isNone_iff_eq_none] at h;obtain ⟨h1,h2,h3,h4,h5,h6,h7,h8,h9,h10,h11,h12⟩:=h;have nd:d.ps.Nodup:=by
    rw[<-(tR h5).pre];exact (tR h5).nd.sublist (take_sublist _ _)
   unfold K9 at h12;rw[hf] at h12;have e6:fd.defaults=.none:=by
    split at h12
    ·rename_i e;exact e
    ·rw[Bool.and_eq_true] at h12;cases h12.1
    ·cases h12
   have:=qe nd h7 (beq_iff_eq.mp h8) h9 h10 h11 e6 [v] (by rw[hp];rfl);rw[hp] at this;exact .of_eq this
  ·cases h
 ·cases h
def Cc {P:Program}{w:World}{h:Heap}{fa:Addr}{cs:List Addr}{fl k:Nat}(X:K.In h)(G:h.Ns mainGlobals mg)(hfa:mg "law"=some (.ref fa))
  (z1:GA K T fs cs gs=true) (z2:nG K T fs 0 T.fns=true) (z3:Ec (nsIn K mainGlobals "law") (fs.getD fl 0)=true) (hd:T.fns[fl]? =some d) (hp:d.ps=[("_law_script":Str)]) (hf:d.dfl=[])
  (ht:∀ vs H Q E,jm K 63 vs H Q E->ab T (Ff K fs cs gs) k fl vs H Q E):
  ∃ fd:FuncData,(∀ (s:Shared) (v:Value),BindsTo s fd ⟨[v],[]⟩ [("_law_script",v)])/\∀ base:Heap,K.In base->base.Ns mainGlobals mg->dh P w K mg base (y9 P w) (2*k) fa fd ["_law_script"] (jm K 63):=by
 have e0:fs.getD fl 0=fa:=by
  have e:=hfa.symm.trans (mg_of X G (f9 z3))
  injection e with e
  injection e with e
  exact e.symm
 have fn:=B3 z2;have tk:=A0 X G z1;have N:=fn fl d hd;have hN:=Bo z2 hd;obtain ⟨oc,od,fd,sl,e,hb⟩:=hN hp hf;refine ⟨fd,hb,λbase hb hg=>?_⟩;have F:=EZ (P:=P) (w:=w) (base:=base) (R:=Ff K fs cs gs) tk rfl fn k fl d hd (fd:=fd) (lk:=e) (rm▸ht);rw[hp] at F;rw[<-e0];exact F
abbrev LG (K:Frag)(a:Addr)(vs:List V):Bool:=match K.lookup a with
 |some ⟨.type t,_,.seq items _,_⟩=>t =="tuple"&&(decide (items.size<=1000)&&yI vs items.toList)
 |_=>false
def GF {a:Addr}{vs:List V}(h:LG K a vs=true)(H:Hp):aZ K H a vs:=by
 unfold LG at h
 split at h
 ·rename_i t od items n sl e;simp only[Bool.and_eq_true,decide_eq_true_eq] at h;refine .inr ⟨_,items,n,e,?_,rfl,?_,pk h.2.2⟩
  ·show Value.type t=_;rw[beq_iff_eq.mp h.1]
  ·exact Nat.le_of_lt (dq h.2.1)
 ·cases h
end L3
namespace L3
open PySem L2
noncomputable abbrev f7.c (e:Ex)(r:f7):f7:=.cons e r
noncomputable abbrev f7.n:f7:=.nil
noncomputable abbrev lQ.c (e:Sx)(r:lQ):lQ:=.cons e r
noncomputable abbrev lQ.n:lQ:=.nil
noncomputable abbrev AG.c (a b:Nat)(e:lQ)(r:AG):AG:=.cons a b e r
noncomputable abbrev AG.n:AG:=.nil
noncomputable abbrev Ex.i (x:Int):Ex:=.int x
noncomputable abbrev Ex.s (x:Str):Ex:=.str x
noncomputable abbrev Ex.k (x:Nat)(e:f7):Ex:=.call x e
noncomputable abbrev Ex.m (a:Ex)(x:Str)(e:f7):Ex:=.meth a x e
noncomputable abbrev Ex.f (c:Tx)(a b:Ex):Ex:=.ife c a b
noncomputable abbrev Ex.q (o:CmpOp)(a b:Ex):Ex:=.cmp o a b
noncomputable abbrev Tx.q (o:CmpOp)(a b:Ex):Tx:=.cmp o a b
noncomputable abbrev Sx.a (x:Nat)(e:Ex):Sx:=.asg x e
noncomputable abbrev Sx.r (e:Ex):Sx:=.ret e
noncomputable abbrev Sx.f (c:Tx)(a b:lQ):Sx:=.ife c a b
noncomputable abbrev Sx.e (e:Ex):Sx:=.expr e
end L3
set_option Elab.async false
set_option maxHeartbeats 8000000
open PySem PySem.Spec L2 L3
namespace My
open PySem L2 L3
set_option hygiene false
local macro_rules|`(#[])=>`(.n)|`(#[$x:term])=>`(.c $x .n)|`(#[$x:term,$xs:term,*])=>`(.c $x #[$xs,*])
set_option hygiene true
abbrev cQ:aq:=⟨["self","at"],["self","at"],[],#[.e (.bini #[.v 0,.s "no list of 1 to 60 contents"]),.fld (.v 0) "at" (.v 1)]⟩
abbrev dS:aq:=⟨["self","deed","cell"],["self","deed","cell"],[],#[.e (.bini #[.v 0,.s "a cell that is not there, or may not be looked at or put"]),.fld (.v 0) "deed" (.v 1),.fld (.v 0) "cell" (.v 2)]⟩
abbrev dv:aq:=⟨["self","box","number"],["self","box","number"],[],#[.e (.bini #[.v 0,.s "a box can't hold this"]),.fld (.v 0) "box" (.v 1),.fld (.v 0) "number" (.v 2)]⟩
abbrev iA:aq:=⟨["self","box"],["self","box"],[],#[.e (.bini #[.v 0,.s "no box of that name"]),.fld (.v 0) "box" (.v 1)]⟩
abbrev hU:aq:=⟨["self","word"],["self","word"],[],#[.e (.bini #[.v 0,.s "a deed can't be made of this"]),.fld (.v 0) "word" (.v 1)]⟩
abbrev ik:aq:=⟨["self","at"],["self","at"],[],#[.e (.bini #[.v 0,.s "no list of 1 to 24 deeds"]),.fld (.v 0) "at" (.v 1)]⟩
abbrev fX:aq:=⟨["self","at"],["self","at"],[],#[.e (.bini #[.v 0,.s "no place to stand at"]),.fld (.v 0) "at" (.v 1)]⟩
abbrev hX:aq:=⟨["self","at"],["self","at"],[],#[.e (.bini #[.v 0,.s "no part of the floor for this member"]),.fld (.v 0) "at" (.v 1)]⟩
abbrev ck:aq:=⟨["self","k"],["self","k"],[],#[.e (.bini #[.v 0,.s "no member of that number"]),.fld (.v 0) "k" (.v 1)]⟩
abbrev kq:aq:=⟨["thing"],["thing"],[],#[.r (.and (.isi (.v 0) (.ty "int")) (.not (.isi (.v 0) (.ty "bool"))))]⟩
abbrev iq:aq:=⟨["thing"],["thing"],[],#[.r (.and (.k 9 #[.v 0]) (.cmp2 .LtE .LtE (.i 0) (.v 0) (.gl "BOUND")))]⟩
abbrev lH:aq:=⟨["thing"],["thing"],[],#[.r (.and (.isi (.v 0) (.ty "str")) (.q .In (.v 0) (.gl "NAMES")))]⟩
abbrev jA:aq:=⟨["thing"],["thing"],[],#[.r (.and (.k 9 #[.v 0]) (.cmp2 .LtE .LtE (.neg (.gl "BOUND")) (.v 0) (.gl "BOUND")))]⟩
abbrev zU:aq:=⟨["box","thing"],["box","thing"],[],#[.f (.or (.q .Eq (.v 0) (.s "here")) (.q .Eq (.v 0) (.s "there"))) #[.r (.k 12 #[.v 1])] .n,.f (.q .Eq (.v 0) (.s "way")) #[.r (.and (.k 9 #[.v 1]) (.or (.q .Eq (.v 1) (.i 1)) (.q .Eq (.v 1) (.neg (.i 1)))))] .n,.f (.q .Eq (.v 0) (.s "met")) #[.r (.and (.k 9 #[.v 1]) (.or (.q .Eq (.v 1) (.i 0)) (.q .Eq (.v 1) (.i 1))))] .n,.r (.k 10 #[.v 1])]⟩
abbrev dg:aq:=⟨["self","here","there","left","way","sign","met"],["self","here","there","left","way","sign","met","handed","box","number"],[.int 0,.int 0,.int 0,.int 1,.int 0,.int 0],#[.a 7 (.tup #[.v 1,.v 2,.v 3,.v 4,.v 5,.v 6]),.for (.tp [8,9]) (.zip (.gl "NAMES") (.v 7)) #[.f (.not (.val (.k 13 #[.v 8,.v 9]))) #[.rais (.make 3 #[.v 8,.v 9])] .n],.fld (.v 0) "numbers" (.dzip (.gl "NAMES") (.v 7))]⟩
abbrev fU:aq:=⟨["self","box"],["self","box"],[],#[.f (.not (.val (.k 11 #[.v 1]))) #[.rais (.make 4 #[.v 1])] .n,.r (.ix (.fld (.v 0) "numbers") (.v 1))]⟩
abbrev dG:aq:=⟨["self","box","number"],["self","box","number"],[],#[.f (.not (.val (.k 11 #[.v 1]))) #[.rais (.make 4 #[.v 1])] .n,.f (.not (.val (.k 13 #[.v 1,.v 2]))) #[.rais (.make 3 #[.v 1,.v 2])] .n,.sub (.fld (.v 0) "numbers") (.v 1) (.v 2)]⟩
abbrev ir:aq:=⟨["self"],["self"],[],#[.r (.bf .tuple #[.lc (.ix (.fld (.v 1) "numbers") (.v 0)) [0] (.seq (.gl "NAMES"))])]⟩
abbrev eY:aq:=⟨["self"],["self","other"],[],#[.a 1 (.make 10 .n),.fld (.v 1) "numbers" (.bf .dict #[.fld (.v 0) "numbers"]),.r (.v 1)]⟩
abbrev jl:aq:=⟨["word","box"],["word","box"],[],#[.f (.not (.val (.k 11 #[.v 1]))) #[.rais (.make 5 #[.v 0])] .n]⟩
abbrev ft:aq:=⟨["word","number"],["word","number"],[],#[.f (.not (.val (.k 12 #[.v 1]))) #[.rais (.make 5 #[.v 0])] .n]⟩
abbrev eK:aq:=⟨["self","box","number"],["self","box","number"],[],#[.e (.k 19 #[.s "set",.v 1]),.e (.k 20 #[.s "set",.v 2]),.fld (.v 0) "box" (.v 1),.fld (.v 0) "number" (.v 2)]⟩
abbrev k3:aq:=⟨["self","boxes","store"],["self","boxes","store"],[],#[.e (.m (.v 1) "give" #[.fld (.v 0) "box",.fld (.v 0) "number"]),.r (.i 1)]⟩
abbrev rR:aq:=⟨["self"],["self"],[],#[.r (.lst #[.s "set",.fld (.v 0) "box",.bf .str #[.fld (.v 0) "number"]])]⟩
abbrev fq:aq:=⟨["self","box","number"],["self","box","number"],[],#[.e (.k 19 #[.s "add",.v 1]),.e (.k 20 #[.s "add",.v 2]),.fld (.v 0) "box" (.v 1),.fld (.v 0) "number" (.v 2)]⟩
abbrev kG:aq:=⟨["self","boxes","store"],["self","boxes","store"],[],#[.e (.m (.v 1) "give" #[.fld (.v 0) "box",.bin .Add (.m (.v 1) "holds" #[.fld (.v 0) "box"]) (.fld (.v 0) "number")]),.r (.i 1)]⟩
abbrev qN:aq:=⟨["self"],["self"],[],#[.r (.lst #[.s "add",.fld (.v 0) "box",.bf .str #[.fld (.v 0) "number"]])]⟩
abbrev dP:aq:=⟨["self","box","other"],["self","box","other"],[],#[.e (.k 19 #[.s "take",.v 1]),.e (.k 19 #[.s "take",.v 2]),.fld (.v 0) "box" (.v 1),.fld (.v 0) "other" (.v 2)]⟩
abbrev jb:aq:=⟨["self","boxes","store"],["self","boxes","store"],[],#[.e (.m (.v 1) "give" #[.fld (.v 0) "box",.m (.v 1) "holds" #[.fld (.v 0) "other"]]),.r (.i 1)]⟩
abbrev nH:aq:=⟨["self"],["self"],[],#[.r (.lst #[.s "take",.fld (.v 0) "box",.fld (.v 0) "other"])]⟩
abbrev dR:aq:=⟨["self","box"],["self","box"],[],#[.e (.k 19 #[.s "read",.v 1]),.fld (.v 0) "box" (.v 1)]⟩
abbrev jB:aq:=⟨["self","boxes","store"],["self","boxes","store"],[],#[.e (.m (.v 1) "give" #[.fld (.v 0) "box",.m (.v 2) "look" #[.m (.v 1) "holds" #[.s "here"]]]),.r (.i 1)]⟩
abbrev pH:aq:=⟨["self"],["self"],[],#[.r (.lst #[.s "read",.fld (.v 0) "box"])]⟩
abbrev dw:aq:=⟨["self","box"],["self","box"],[],#[.e (.k 19 #[.s "write",.v 1]),.fld (.v 0) "box" (.v 1)]⟩
abbrev gF:aq:=⟨["self","boxes","store"],["self","boxes","store","number"],[],#[.a 3 (.m (.v 1) "holds" #[.fld (.v 0) "box"]),.f (.not (.val (.k 10 #[.v 3]))) #[.rais (.make 3 #[.fld (.v 0) "box",.v 3])] .n,.e (.m (.v 2) "put" #[.m (.v 1) "holds" #[.s "there"],.v 3]),.r (.i 1)]⟩
abbrev l9:aq:=⟨["self"],["self"],[],#[.r (.lst #[.s "write",.fld (.v 0) "box"])]⟩
abbrev gu:aq:=⟨["rows"],["rows","at","thing"],[],#[.f (.or (.not (.val (.isi (.v 0) (.ty "list")))) (.not (.cmp2 .LtE .LtE (.i 1) (.bf .len #[.v 0]) (.gl "MOST_ROWS")))) #[.rais (.make 6 #[.neg (.i 1)])] .n,.for (.tp [1,2]) (.enm (.v 0)) #[.f (.not (.val (.isi (.v 2) (.own 11)))) #[.rais (.make 6 #[.v 1])] .n]]⟩
abbrev fT:aq:=⟨["at","many"],["at","many"],[],#[.f (.or (.not (.val (.k 9 #[.v 0]))) (.not (.cmp2 .LtE .LtE (.i 0) (.v 0) (.v 1)))) #[.rais (.make 7 #[.v 0])] .n]⟩
abbrev uF:aq:=⟨["deed","boxes","store"],["deed","boxes","store","stop","refusal"],[],#[.tryx #[.r (.tup #[.m (.v 0) "step" #[.v 1,.v 2],.non])] (.c 2 3 #[.r (.tup #[.non,.tup #[.fld (.v 3) "deed",.fld (.v 3) "cell"]])] (.c 3 4 #[.r (.tup #[.non,.tup #[.s "fit",.fld (.v 4) "box"]])] .n))]⟩
abbrev cN:aq:=⟨["self","rows","store","boxes","at"],["self","rows","store","boxes","at"],[.int 0],#[.e (.k 36 #[.v 1]),.e (.k 37 #[.v 4,.bf .len #[.v 1]]),.fld (.v 0) "deeds" (.bf .list #[.v 1]),.fld (.v 0) "store" (.m (.v 2) "copied" .n),.fld (.v 0) "boxes" (.m (.v 3) "copied" .n),.fld (.v 0) "at" (.v 4)]⟩
abbrev dW:aq:=⟨["self"],["self"],[],#[.r (.q .Eq (.fld (.v 0) "at") (.bf .len #[.fld (.v 0) "deeds"]))]⟩
abbrev c5:aq:=⟨["self","store"],["self","store","by"],[],#[.f (.val (.m (.v 0) "ended" .n)) #[.r (.s "end")] .n,.a 2 (.ix (.k 38 #[.ix (.fld (.v 0) "deeds") (.fld (.v 0) "at"),.fld (.v 0) "boxes",.v 1]) (.i 0)),.f (.q .Is (.v 2) .non) #[.r (.s "stop")] .n,.fld (.v 0) "at" (.bf .min #[.bin .Add (.fld (.v 0) "at") (.v 2),.bf .len #[.fld (.v 0) "deeds"]]),.r (.s "on")]⟩
abbrev fj:aq:=⟨["self"],["self"],[],#[.r (.m (.v 0) "step_on" #[.fld (.v 0) "store"])]⟩
abbrev lS:aq:=⟨["self","most"],["self","most","steps"],[],#[.a 2 (.i 0),.whl (.and (.q .Lt (.v 2) (.v 1)) (.q .Eq (.m (.v 0) "step" .n) (.s "on"))) #[.aug 2 .Add (.i 1)],.f (.val (.m (.v 0) "ended" .n)) #[.r (.tup #[.s "end",.v 2])] .n,.f (.q .GtE (.v 2) (.v 1)) #[.r (.tup #[.s "bell",.v 2])] .n,.r (.tup #[.s "stop",.v 2])]⟩
abbrev mi:aq:=⟨["self"],["self","cause"],[],#[.f (.val (.m (.v 0) "ended" .n)) #[.r .non] .n,.a 1 (.ix (.k 38 #[.ix (.fld (.v 0) "deeds") (.fld (.v 0) "at"),.m (.fld (.v 0) "boxes") "copied" .n,.m (.fld (.v 0) "store") "copied" .n]) (.i 1)),.f (.q .Is (.v 1) .non) #[.r .non] .n,.r (.tup #[.fld (.v 0) "at",.ix (.v 1) (.i 0),.ix (.v 1) (.i 1)])]⟩
abbrev dY:aq:=⟨["self"],["self"],[],#[.r (.tup #[.fld (.v 0) "at",.m (.fld (.v 0) "boxes") "told" .n,.m (.fld (.v 0) "store") "told" .n])]⟩
abbrev lq:aq:=⟨["self"],["self"],[],#[.r (.lc (.m (.v 0) "words" .n) [] (.seq (.fld (.v 0) "deeds")))]⟩
abbrev iJ:aq:=⟨["self"],["self"],[],#[.r (.make 17 #[.fld (.v 0) "deeds",.fld (.v 0) "store",.fld (.v 0) "boxes",.fld (.v 0) "at"])]⟩
abbrev fM:aq:=⟨["cells"],["cells","at","thing"],[],#[.f (.or (.not (.val (.isi (.v 0) (.ty "list")))) (.not (.cmp2 .LtE .LtE (.i 1) (.bf .len #[.v 0]) (.gl "MOST_CELLS")))) #[.rais (.make 1 #[.neg (.i 1)])] .n,.for (.tp [1,2]) (.enm (.v 0)) #[.f (.not (.val (.k 10 #[.v 2]))) #[.rais (.make 1 #[.v 1])] .n]]⟩
abbrev ja:aq:=⟨["low","behind","size"],["low","behind","size"],[],#[.r (.and (.k 9 #[.v 0]) (.and (.k 9 #[.v 1]) (.cmp3 .LtE .LtE .LtE (.i 0) (.v 0) (.v 1) (.v 2))))]⟩
abbrev dm:aq:=⟨["self","cells"],["self","cells"],[],#[.e (.k 48 #[.v 1]),.fld (.v 0) "contents" (.bf .list #[.v 1]),.fld (.v 0) "permits" (.bin .Mult (.lst #[.s "open"]) (.bf .len #[.v 1]))]⟩
abbrev iu:aq:=⟨["self"],["self"],[],#[.r (.bf .len #[.fld (.v 0) "contents"])]⟩
abbrev gO:aq:=⟨["self"],["self"],[],#[.r (.bf .list #[.fld (.v 0) "contents"])]⟩
abbrev i3:aq:=⟨["self","deed","cell"],["self","deed","cell"],[],#[.f (.not (.cmp2 .LtE .Lt (.i 0) (.v 2) (.m (.v 0) "size" .n))) #[.r (.bl false)] .n,.f (.q .Eq (.ix (.fld (.v 0) "permits") (.v 2)) (.s "look")) #[.r (.q .Eq (.v 1) (.s "look"))] .n,.r (.q .Eq (.ix (.fld (.v 0) "permits") (.v 2)) (.s "open"))]⟩
abbrev gH:aq:=⟨["self","cell"],["self","cell"],[],#[.f (.not (.val (.m (.v 0) "may" #[.s "look",.v 1]))) #[.rais (.make 2 #[.s "look",.v 1])] .n,.r (.ix (.fld (.v 0) "contents") (.v 1))]⟩
abbrev ju:aq:=⟨["self","cell","content"],["self","cell","content"],[],#[.f (.not (.val (.m (.v 0) "may" #[.s "put",.v 1]))) #[.rais (.make 2 #[.s "put",.v 1])] .n,.sub (.fld (.v 0) "contents") (.v 1) (.v 2)]⟩
abbrev eU:aq:=⟨["self"],["self","other"],[],#[.a 1 (.make 18 #[.lst #[.i 0]]),.fld (.v 1) "contents" (.bf .list #[.fld (.v 0) "contents"]),.fld (.v 1) "permits" (.bf .list #[.fld (.v 0) "permits"]),.r (.v 1)]⟩
abbrev rG:aq:=⟨["one","other"],["one","other","low","behind"],[],#[.a 2 (.bf .max #[.ix (.v 0) (.i 0),.ix (.v 1) (.i 0)]),.a 3 (.bf .min #[.ix (.v 0) (.i 1),.ix (.v 1) (.i 1)]),.f (.q .Lt (.v 2) (.v 3)) #[.r (.tup #[.v 2,.v 3])] .n,.r .non]⟩
abbrev uH:aq:=⟨["stretches"],["stretches","place","stretch","earlier"],[],#[.for (.tp [1,2]) (.enm (.v 0)) #[.for (.nm 3) (.seq (.sl (.v 0) .no (.yes (.v 1)))) #[.f (.q .IsNot (.k 57 #[.v 3,.v 2]) .non) #[.r (.bl false)] .n]],.r (.bl true)]⟩
abbrev je:aq:=⟨["thing"],["thing"],[],#[.r (.and (.isi (.v 0) (.ty "tuple")) (.q .Eq (.bf .len #[.v 0]) (.gl "THINGS_OF_A_MEMBER")))]⟩
abbrev fQ:aq:=⟨["thing"],["thing"],[],#[.f (.or (.not (.val (.isi (.v 0) (.ty "list")))) (.not (.cmp2 .LtE .LtE (.i 1) (.bf .len #[.v 0]) (.gl "MOST_MEMBERS")))) #[.r (.bl false)] .n,.r (.bf .all #[.lc (.k 59 #[.v 0]) [] (.seq (.v 0))])]⟩
abbrev mX:aq:=⟨["part","size"],["part","size"],[],#[.r (.and (.k 49 #[.ix (.v 0) (.i 0),.ix (.v 0) (.i 1),.v 1]) (.q .Lt (.ix (.v 0) (.i 0)) (.ix (.v 0) (.i 1))))]⟩
abbrev lj:aq:=⟨["members","size"],["members","size","parts","at","member","part"],[],#[.f (.not (.val (.k 60 #[.v 0]))) #[.rais (.make 8 #[.neg (.i 1)])] .n,.a 2 (.lst .n),.for (.tp [3,4]) (.enm (.v 0)) #[.a 5 (.tup #[.ix (.v 4) (.i 0),.ix (.v 4) (.i 1)]),.f (.or (.not (.val (.k 61 #[.v 5,.v 1]))) (.not (.val (.k 58 #[.bin .Add (.v 2) (.lst #[.v 5])])))) #[.rais (.make 8 #[.v 3])] .n,.e (.lm .append (.v 2) #[.v 5])],.r (.v 2)]⟩
abbrev gX:aq:=⟨["cells","part","member"],["cells","part","member"],[],#[.r (.make 17 #[.ix (.v 2) (.i 2),.make 18 #[.sl (.v 0) (.yes (.ix (.v 1) (.i 0))) (.yes (.ix (.v 1) (.i 1)))],.ix (.v 2) (.i 3)])]⟩
abbrev dO:aq:=⟨["self","cells","members"],["self","cells","members"],[],#[.fld (.v 0) "ground" (.make 18 #[.v 1]),.fld (.v 0) "parts" (.k 62 #[.v 2,.m (.fld (.v 0) "ground") "size" .n]),.fld (.v 0) "machines" (.lct (.k 63 #[.v 2,.v 0,.v 1]) 2 [1] (.zip (.fld (.v 0) "parts") (.v 2)))]⟩
abbrev bb:aq:=⟨["self","k"],["self","k"],[],#[.f (.or (.not (.val (.k 9 #[.v 1]))) (.not (.cmp2 .LtE .Lt (.i 0) (.v 1) (.bf .len #[.fld (.v 0) "machines"])))) #[.rais (.make 9 #[.v 1])] .n]⟩
abbrev bC:aq:=⟨["self","k"],["self","k"],[],#[.e (.m (.v 0) "check_member" #[.v 1]),.r (.ix (.fld (.v 0) "machines") (.v 1))]⟩
abbrev d8:aq:=⟨["self","k"],["self","k"],[],#[.r (.m (.m (.v 0) "machine_of" #[.v 1]) "step" .n)]⟩
abbrev ky:aq:=⟨["self","k","most"],["self","k","most"],[],#[.r (.m (.m (.v 0) "machine_of" #[.v 1]) "run" #[.v 2])]⟩
abbrev kX:aq:=⟨["self","k"],["self","k"],[],#[.r (.m (.m (.v 0) "machine_of" #[.v 1]) "why" .n)]⟩
abbrev dI:aq:=⟨["self","k"],["self","k"],[],#[.r (.m (.m (.v 0) "machine_of" #[.v 1]) "state" .n)]⟩
abbrev iI:aq:=⟨["self","order"],["self","order","k"],[],#[.for (.nm 2) (.seq (.v 1)) #[.e (.m (.v 0) "check_member" #[.v 2])],.r (.lc (.m (.v 1) "step" #[.v 0]) [0] (.seq (.v 1)))]⟩
abbrev ic:aq:=⟨["self"],["self","cells","part","machine"],[],#[.a 1 (.m (.fld (.v 0) "ground") "told" .n),.for (.tp [2,3]) (.zip (.fld (.v 0) "parts") (.fld (.v 0) "machines")) #[.a 1 (.bin .Add (.bin .Add (.sl (.v 1) .no (.yes (.ix (.v 2) (.i 0)))) (.ix (.m (.v 3) "state" .n) (.i 2))) (.sl (.v 1) (.yes (.ix (.v 2) (.i 1))) .no))],.r (.v 1)]⟩
abbrev ng:aq:=⟨["thing"],["thing"],[],#[.r (.and (.k 9 #[.v 0]) (.cmp2 .LtE .LtE (.i 0) (.v 0) (.gl "MOST_HOPPED")))]⟩
abbrev uR:aq:=⟨["thing"],["thing"],[],#[.r (.or (.q .Is (.v 0) .non) (.and (.k 9 #[.v 0]) (.or (.q .Eq (.v 0) (.i 0)) (.q .Eq (.v 0) (.i 1)))))]⟩
abbrev eD:aq:=⟨["self","many","on"],["self","many","on"],[.non],#[.f (.or (.not (.val (.k 73 #[.v 1]))) (.not (.val (.k 74 #[.v 2])))) #[.rais (.make 5 #[.s "hop"])] .n,.fld (.v 0) "many" (.v 1),.fld (.v 0) "on" (.v 2)]⟩
abbrev ke:aq:=⟨["self","boxes","store"],["self","boxes","store"],[],#[.f (.or (.q .Is (.fld (.v 0) "on") .non) (.q .Eq (.fld (.v 0) "on") (.m (.v 1) "holds" #[.s "met"]))) #[.r (.bin .Add (.i 1) (.fld (.v 0) "many"))] .n,.r (.i 1)]⟩
abbrev qc:aq:=⟨["self"],["self","told"],[],#[.a 1 (.lst #[.s "hop",.bf .str #[.fld (.v 0) "many"]]),.f (.q .IsNot (.fld (.v 0) "on") .non) #[.e (.lm .extend (.v 1) #[.lst #[.s "if",.bf .str #[.fld (.v 0) "on"]]])] .n,.r (.v 1)]⟩
abbrev nK:aq:=⟨["boxes","box","by"],["boxes","box","by"],[],#[.e (.m (.v 0) "give" #[.v 1,.bin .Add (.m (.v 0) "holds" #[.v 1]) (.v 2)])]⟩
abbrev eh:aq:=⟨["boxes","box"],["boxes","box"],[],#[.e (.k 78 #[.v 0,.v 1,.m (.v 0) "holds" #[.s "way"]])]⟩
abbrev i7:aq:=⟨["boxes","by"],["boxes","by"],[],#[.e (.k 78 #[.v 0,.s "left",.neg (.v 1)]),.r (.f (.q .Eq (.m (.v 0) "holds" #[.s "left"]) (.i 0)) (.i 1) (.i 0))]⟩
abbrev mM:aq:=⟨["store","cell"],["store","cell"],[],#[.f (.not (.val (.m (.v 0) "may" #[.s "put",.v 1]))) #[.rais (.make 2 #[.s "put",.v 1])] .n]⟩
abbrev yk:aq:=⟨["store","source","target"],["store","source","target","content"],[],#[.a 3 (.m (.v 0) "look" #[.v 1]),.e (.m (.v 0) "put" #[.v 2,.v 3])]⟩
abbrev lA:aq:=⟨["store","one","other"],["store","one","other","first","second"],[],#[.a 3 (.m (.v 0) "look" #[.v 1]),.a 4 (.m (.v 0) "look" #[.v 2]),.e (.k 81 #[.v 0,.v 1]),.e (.k 81 #[.v 0,.v 2]),.e (.m (.v 0) "put" #[.v 1,.v 4]),.e (.m (.v 0) "put" #[.v 2,.v 3])]⟩
abbrev jz:aq:=⟨["self","boxes","store"],["self","boxes","store"],[],#[.f (.q .Eq (.m (.v 1) "holds" #[.s "left"]) (.i 0)) #[.r (.i 1)] .n,.e (.k 82 #[.v 2,.m (.v 1) "holds" #[.s "here"],.m (.v 1) "holds" #[.s "there"]]),.e (.k 79 #[.v 1,.s "here"]),.e (.k 79 #[.v 1,.s "there"]),.r (.k 80 #[.v 1,.i 1])]⟩
abbrev pE:aq:=⟨["self"],["self"],[],#[.r (.lst #[.s "copy"])]⟩
abbrev jx:aq:=⟨["self","boxes","store"],["self","boxes","store"],[],#[.f (.q .Eq (.m (.v 1) "holds" #[.s "left"]) (.i 0)) #[.r (.i 1)] .n,.e (.m (.v 2) "put" #[.m (.v 1) "holds" #[.s "there"],.m (.v 1) "holds" #[.s "sign"]]),.e (.k 79 #[.v 1,.s "there"]),.r (.k 80 #[.v 1,.i 1])]⟩
abbrev oA:aq:=⟨["self"],["self"],[],#[.r (.lst #[.s "fill"])]⟩
abbrev jh:aq:=⟨["self","boxes","store"],["self","boxes","store"],[],#[.f (.q .Eq (.m (.v 1) "holds" #[.s "left"]) (.i 0)) #[.e (.m (.v 1) "give" #[.s "met",.i 0]),.r (.i 1)] .n,.f (.q .Eq (.m (.v 2) "look" #[.m (.v 1) "holds" #[.s "here"]]) (.m (.v 1) "holds" #[.s "sign"])) #[.e (.m (.v 1) "give" #[.s "met",.i 1]),.r (.i 1)] .n,.e (.m (.v 1) "give" #[.s "met",.i 0]),.e (.k 79 #[.v 1,.s "here"]),.r (.k 80 #[.v 1,.i 1])]⟩
abbrev pP:aq:=⟨["self"],["self"],[],#[.r (.lst #[.s "seek"])]⟩
abbrev gK:aq:=⟨["self","boxes","store"],["self","boxes","store","content"],[],#[.f (.q .Eq (.m (.v 1) "holds" #[.s "left"]) (.i 0)) #[.e (.m (.v 1) "give" #[.s "met",.i 1]),.r (.i 1)] .n,.a 3 (.m (.v 2) "look" #[.m (.v 1) "holds" #[.s "here"]]),.f (.q .NotEq (.v 3) (.m (.v 2) "look" #[.m (.v 1) "holds" #[.s "there"]])) #[.e (.m (.v 1) "give" #[.s "met",.i 0]),.r (.i 1)] .n,.e (.m (.v 1) "give" #[.s "met",.i 1]),.e (.k 79 #[.v 1,.s "here"]),.e (.k 79 #[.v 1,.s "there"]),.r (.k 80 #[.v 1,.i 1])]⟩
abbrev md:aq:=⟨["self"],["self"],[],#[.r (.lst #[.s "match"])]⟩
abbrev gx:aq:=⟨["self","boxes","store"],["self","boxes","store","left","here","there"],[],#[.a 3 (.m (.v 1) "holds" #[.s "left"]),.f (.q .Eq (.v 3) (.i 0)) #[.r (.i 1)] .n,.a 4 (.m (.v 1) "holds" #[.s "here"]),.a 5 (.m (.v 1) "holds" #[.s "there"]),.f (.q .LtE (.v 5) (.v 4)) #[.e (.k 82 #[.v 2,.v 4,.v 5]),.e (.k 78 #[.v 1,.s "here",.i 1]),.e (.k 78 #[.v 1,.s "there",.i 1])] #[.e (.k 82 #[.v 2,.bin .Sub (.bin .Add (.v 4) (.v 3)) (.i 1),.bin .Sub (.bin .Add (.v 5) (.v 3)) (.i 1)])],.r (.k 80 #[.v 1,.i 1])]⟩
abbrev lZ:aq:=⟨["self"],["self"],[],#[.r (.lst #[.s "shift"])]⟩
abbrev jC:aq:=⟨["self","boxes","store"],["self","boxes","store","left","here"],[],#[.a 3 (.m (.v 1) "holds" #[.s "left"]),.f (.q .Eq (.v 3) (.i 0)) #[.r (.i 1)] .n,.f (.q .Eq (.v 3) (.i 1)) #[.r (.k 80 #[.v 1,.i 1])] .n,.a 4 (.m (.v 1) "holds" #[.s "here"]),.e (.k 83 #[.v 2,.v 4,.bin .Sub (.bin .Add (.v 4) (.v 3)) (.i 1)]),.e (.k 78 #[.v 1,.s "here",.i 1]),.r (.k 80 #[.v 1,.i 2])]⟩
abbrev pG:aq:=⟨["self"],["self"],[],#[.r (.lst #[.s "turn"])]⟩
abbrev jn:aq:=⟨["_law_script"],["_law_script","_law_cells","_law_fold","_law_cell"],[],#[.a 1 (.bf .list #[.sl (.v 0) .no (.yes (.i 63))]),.a 2 (.bf .len #[.v 1]),.for (.nm 3) (.seq (.v 1)) #[.a 2 (.bin .Mod (.bin .Add (.bin .Add (.bin .Mult (.v 2) (.i 48271)) (.bin .Mod (.v 3) (.i 2147483647))) (.i 1)) (.i 2147483629))],.r (.lst #[.v 1,.v 2,.i 0,.i 0,.i 0])]⟩
abbrev jo:aq:=⟨["_law_hand_here","_law_many"],["_law_hand_here","_law_many","_law_rest","_law_cell","_law_one","_law_two"],[],#[.augS (.v 0) (.i 4) .Add (.i 1),.a 2 (.ix (.v 0) (.i 3)),.a 3 (.ix (.v 0) (.i 1)),.f (.q .Gt (.v 2) (.i 0)) #[.sub (.v 0) (.i 3) (.bin .FloorDiv (.v 2) (.v 1)),.r (.bin .Mod (.v 2) (.v 1))] .n,.f (.q .Lt (.ix (.v 0) (.i 2)) (.bf .len #[.ix (.v 0) (.i 0)])) #[.a 3 (.ix (.ix (.v 0) (.i 0)) (.ix (.v 0) (.i 2))),.augS (.v 0) (.i 2) .Add (.i 1),.f (.q .GtE (.v 3) (.bin .Pow (.i 10) (.i 18))) #[.sub (.v 0) (.i 3) (.bin .FloorDiv (.v 3) (.v 1)),.r (.bin .Mod (.v 3) (.v 1))] .n] .n,.a 4 (.bin .Mod (.bin .Pow (.bin .Add (.bin .Mod (.v 3) (.i 998244353)) (.bin .Mult (.i 7919) (.ix (.v 0) (.i 4)))) (.i 5)) (.i 2147483647)),.a 5 (.bin .Mod (.bin .Pow (.bin .Add (.bin .Add (.v 4) (.bin .Mult (.i 104729) (.ix (.v 0) (.i 4)))) (.ix (.v 0) (.i 1))) (.i 3)) (.i 2147483629)),.r (.bin .Mod (.bin .FloorDiv (.v 5) (.i 7)) (.v 1))]⟩
abbrev gq:aq:=⟨["_law_thing"],["_law_thing"],[],#[.r (.and (.isi (.v 0) (.ty "int")) (.not (.isi (.v 0) (.ty "bool"))))]⟩
abbrev lD:aq:=⟨["_law_hand_here","_law_low","_law_high"],["_law_hand_here","_law_low","_law_high","_law_way"],[],#[.a 3 (.k 97 #[.v 0,.i 12]),.f (.q .Lt (.v 3) (.i 2)) #[.r (.bin .Sub (.bin .Sub (.v 1) (.i 1)) (.ix (.lst #[.i 0,.k 97 #[.v 0,.bin .Pow (.i 10) (.i 6)]]) (.v 3)))] .n,.f (.q .Lt (.v 3) (.i 4)) #[.r (.bin .Add (.bin .Add (.v 2) (.i 1)) (.ix (.lst #[.i 0,.k 97 #[.v 0,.bin .Pow (.i 10) (.i 6)]]) (.bin .Sub (.v 3) (.i 2))))] .n,.f (.q .Eq (.v 3) (.i 4)) #[.r (.bin .Add (.bin .Pow (.i 10) (.i 59)) (.k 97 #[.v 0,.bin .Pow (.i 10) (.i 6)]))] .n,.f (.q .Eq (.v 3) (.i 5)) #[.r (.bin .Sub (.neg (.bin .Pow (.i 10) (.i 59))) (.k 97 #[.v 0,.bin .Pow (.i 10) (.i 6)]))] .n,.r (.ix (.lst #[.non,.bl true,.bl false,.s "1",.lst #[.i 1],.tup #[.i 0],.dnew,.s "here",.s ""]) (.k 97 #[.v 0,.i 9]))]⟩
abbrev jr:aq:=⟨["_law_hand_here","_law_size"],["_law_hand_here","_law_size","_law_way","_law_names","_law_box","_law_pick"],[],#[.a 2 (.k 97 #[.v 0,.i 14]),.a 3 (.lst #[.s "here",.s "there",.s "left",.s "way",.s "sign",.s "met"]),.a 4 (.ix (.v 3) (.k 97 #[.v 0,.i 6])),.f (.q .Lt (.v 2) (.i 6)) #[.r (.tup #[.ix (.lst #[.s "copy",.s "fill",.s "seek",.s "match",.s "shift",.s "turn"]) (.v 2)])] .n,.f (.q .Lt (.v 2) (.i 9)) #[.a 4 (.ix (.lst #[.s "here",.s "there",.s "left",.v 4]) (.k 97 #[.v 0,.i 4])),.a 5 (.bin .FloorDiv (.k 97 #[.v 0,.i 8]) (.i 3)),.r (.tup #[.s "set",.v 4,.ix (.lst #[.k 97 #[.v 0,.bin .Add (.v 1) (.i 1)],.bin .Sub (.k 97 #[.v 0,.i 5]) (.i 2),.bin .Sub (.bin .Pow (.i 10) (.i 9)) (.k 97 #[.v 0,.i 2])]) (.v 5)])] .n,.f (.q .Eq (.v 2) (.i 9)) #[.a 5 (.bin .FloorDiv (.k 97 #[.v 0,.i 7]) (.i 3)),.r (.tup #[.s "add",.v 4,.ix (.lst #[.bin .Sub (.k 97 #[.v 0,.i 7]) (.i 3),.k 97 #[.v 0,.bin .Add (.v 1) (.i 1)],.neg (.bin .Pow (.i 10) (.i 9))]) (.v 5)])] .n,.f (.q .Eq (.v 2) (.i 10)) #[.r (.tup #[.s "take",.v 4,.ix (.v 3) (.k 97 #[.v 0,.i 6])])] .n,.f (.q .Lt (.v 2) (.i 13)) #[.r (.tup #[.ix (.lst #[.s "read",.s "write"]) (.bin .Sub (.v 2) (.i 11)),.v 4])] .n,.r (.tup #[.s "hop",.k 97 #[.v 0,.i 4],.ix (.lst #[.non,.i 0,.i 1]) (.k 97 #[.v 0,.i 3])])]⟩
abbrev jd:aq:=⟨["_law_spec_here"],["_law_spec_here","_law_word"],[],#[.a 1 (.ix (.v 0) (.i 0)),.f (.q .Eq (.v 1) (.s "set")) #[.r (.make 12 #[.ix (.v 0) (.i 1),.ix (.v 0) (.i 2)])] .n,.f (.q .Eq (.v 1) (.s "add")) #[.r (.make 13 #[.ix (.v 0) (.i 1),.ix (.v 0) (.i 2)])] .n,.f (.q .Eq (.v 1) (.s "take")) #[.r (.make 14 #[.ix (.v 0) (.i 1),.ix (.v 0) (.i 2)])] .n,.f (.q .Eq (.v 1) (.s "read")) #[.r (.make 15 #[.ix (.v 0) (.i 1)])] .n,.f (.q .Eq (.v 1) (.s "write")) #[.r (.make 16 #[.ix (.v 0) (.i 1)])] .n,.f (.q .Eq (.v 1) (.s "hop")) #[.r (.make 20 #[.ix (.v 0) (.i 1),.ix (.v 0) (.i 2)])] .n,.r (.k 102 #[.v 1])]⟩
abbrev jt:aq:=⟨["_law_word"],["_law_word"],[],#[.f (.q .Eq (.v 0) (.s "copy")) #[.r (.uz 21)] .n,.f (.q .Eq (.v 0) (.s "fill")) #[.r (.uz 22)] .n,.f (.q .Eq (.v 0) (.s "seek")) #[.r (.uz 23)] .n,.f (.q .Eq (.v 0) (.s "match")) #[.r (.uz 24)] .n,.f (.q .Eq (.v 0) (.s "shift")) #[.r (.uz 25)] .n,.r (.uz 26)]⟩
abbrev kA:aq:=⟨["_law_leaves","_law_deed_here","_law_cell"],["_law_leaves","_law_deed_here","_law_cell"],[],#[.f (.or (.q .Lt (.v 2) (.i 0)) (.q .GtE (.v 2) (.bf .len #[.v 0]))) #[.r (.bl false)] .n,.r (.or (.q .Eq (.ix (.v 0) (.v 2)) (.s "open")) (.and (.q .Eq (.ix (.v 0) (.v 2)) (.s "look")) (.q .Eq (.v 1) (.s "look"))))]⟩
abbrev hZ:aq:=⟨["_law_spec_here","_law_boxes"],["_law_spec_here","_law_boxes","_law_here","_law_there","_law_left","_law_word","_law_far"],[],#[.par [2,3,4] #[.ix (.v 1) (.s "here"),.ix (.v 1) (.s "there"),.ix (.v 1) (.s "left")],.a 5 (.ix (.v 0) (.i 0)),.f (.q .Eq (.v 5) (.s "read")) #[.r (.tup #[.lst #[.v 2],.lst .n])] .n,.f (.q .Eq (.v 5) (.s "write")) #[.r (.tup #[.lst .n,.lst #[.v 3]])] .n,.f (.or (.q .Eq (.v 4) (.i 0)) (.and (.q .Eq (.v 5) (.s "turn")) (.q .Eq (.v 4) (.i 1)))) #[.r (.tup #[.lst .n,.lst .n])] .n,.f (.q .Eq (.v 5) (.s "copy")) #[.r (.tup #[.lst #[.v 2],.lst #[.v 3]])] .n,.f (.q .Eq (.v 5) (.s "fill")) #[.r (.tup #[.lst .n,.lst #[.v 3]])] .n,.f (.q .Eq (.v 5) (.s "seek")) #[.r (.tup #[.lst #[.v 2],.lst .n])] .n,.f (.q .Eq (.v 5) (.s "match")) #[.r (.tup #[.lst #[.v 2,.v 3],.lst .n])] .n,.f (.q .Eq (.v 5) (.s "shift")) #[.a 6 (.ix (.lst #[.bin .Sub (.v 4) (.i 1),.i 0]) (.bf .int #[.q .LtE (.v 3) (.v 2)])),.r (.tup #[.lst #[.bin .Add (.v 2) (.v 6)],.lst #[.bin .Add (.v 3) (.v 6)]])] .n,.f (.q .Eq (.v 5) (.s "turn")) #[.r (.tup #[.lst #[.v 2,.bin .Sub (.bin .Add (.v 2) (.v 4)) (.i 1)],.lst #[.v 2,.bin .Sub (.bin .Add (.v 2) (.v 4)) (.i 1)]])] .n,.r (.tup #[.lst .n,.lst .n])]⟩
abbrev jD:aq:=⟨["_law_box","_law_number"],["_law_box","_law_number"],[],#[.f (.or (.q .Eq (.v 0) (.s "here")) (.q .Eq (.v 0) (.s "there"))) #[.r (.cmp2 .LtE .LtE (.neg (.bin .Pow (.i 10) (.i 9))) (.v 1) (.bin .Pow (.i 10) (.i 9)))] .n,.f (.or (.q .Eq (.v 0) (.s "left")) (.q .Eq (.v 0) (.s "sign"))) #[.r (.cmp2 .LtE .LtE (.i 0) (.v 1) (.bin .Pow (.i 10) (.i 9)))] .n,.f (.q .Eq (.v 0) (.s "way")) #[.r (.or (.q .Eq (.v 1) (.i 1)) (.q .Eq (.v 1) (.neg (.i 1))))] .n,.r (.or (.q .Eq (.v 1) (.i 0)) (.q .Eq (.v 1) (.i 1)))]⟩
abbrev bV:aq:=⟨["_law_spec_here","_law_boxes","_law_leaves"],["_law_spec_here","_law_boxes","_law_leaves","_law_looks","_law_puts","_law_cell"],[],#[.f (.and (.q .Eq (.ix (.v 0) (.i 0)) (.s "write")) (.not (.cmp2 .LtE .LtE (.i 0) (.ix (.v 1) (.ix (.v 0) (.i 1))) (.bin .Pow (.i 10) (.i 9))))) #[.r (.tup #[.s "fit",.ix (.v 0) (.i 1),.ix (.v 1) (.ix (.v 0) (.i 1))])] .n,.asgT [3,4] (.k 104 #[.v 0,.v 1]),.for (.nm 5) (.seq (.v 3)) #[.f (.not (.val (.k 103 #[.v 2,.s "look",.v 5]))) #[.r (.tup #[.s "look",.v 5,.i 0])] .n],.for (.nm 5) (.seq (.v 4)) #[.f (.not (.val (.k 103 #[.v 2,.s "put",.v 5]))) #[.r (.tup #[.s "put",.v 5,.i 0])] .n],.r .non]⟩
abbrev jF:aq:=⟨["_law_spec_here","_law_boxes","_law_cells","_law_leaves"],["_law_spec_here","_law_boxes","_law_cells","_law_leaves","_law_barred_here","_law_word","_law_number"],[],#[.a 4 (.k 106 #[.v 0,.v 1,.v 3]),.f (.q .IsNot (.v 4) .non) #[.r (.v 4)] .n,.a 5 (.ix (.v 0) (.i 0)),.f (.q .In (.v 5) (.tup #[.s "set",.s "add",.s "take",.s "read"])) #[.a 6 (.ix (.v 0) (.neg (.i 1))),.f (.q .Eq (.v 5) (.s "add")) #[.a 6 (.bin .Add (.ix (.v 1) (.ix (.v 0) (.i 1))) (.v 6))] .n,.f (.q .Eq (.v 5) (.s "take")) #[.a 6 (.ix (.v 1) (.ix (.v 0) (.i 2)))] .n,.f (.q .Eq (.v 5) (.s "read")) #[.a 6 (.ix (.v 2) (.ix (.v 1) (.s "here")))] .n,.f (.not (.val (.k 105 #[.ix (.v 0) (.i 1),.v 6]))) #[.r (.tup #[.s "fit",.ix (.v 0) (.i 1),.v 6])] .n,.sub (.v 1) (.ix (.v 0) (.i 1)) (.v 6),.r (.tup #[.s "on",.i 1,.i 0])] .n,.f (.q .Eq (.v 5) (.s "write")) #[.sub (.v 2) (.ix (.v 1) (.s "there")) (.ix (.v 1) (.ix (.v 0) (.i 1))),.r (.tup #[.s "on",.i 1,.i 0])] .n,.f (.q .Eq (.v 5) (.s "hop")) #[.r (.tup #[.s "on",.bin .Add (.i 1) (.bin .Mult (.ix (.v 0) (.i 1)) (.bf .int #[.or (.q .Is (.ix (.v 0) (.i 2)) .non) (.q .Eq (.ix (.v 0) (.i 2)) (.ix (.v 1) (.s "met")))])),.i 0])] .n,.r (.tup #[.s "on",.k 108 #[.v 5,.v 1,.v 2],.i 0])]⟩
abbrev il:aq:=⟨["_law_word","_law_boxes","_law_cells"],["_law_word","_law_boxes","_law_cells","_law_here","_law_there","_law_left","_law_way","_law_size","_law_content"],[],#[.par [3,4,5] #[.ix (.v 1) (.s "here"),.ix (.v 1) (.s "there"),.ix (.v 1) (.s "left")],.a 6 (.ix (.v 1) (.s "way")),.f (.q .In (.v 0) (.tup #[.s "seek",.s "match"])) #[.r (.k 109 #[.v 0,.v 1,.v 2])] .n,.f (.q .Eq (.v 5) (.i 0)) #[.r (.i 1)] .n,.a 7 (.i 1),.f (.q .Eq (.v 0) (.s "copy")) #[.sub (.v 2) (.v 4) (.ix (.v 2) (.v 3)),.sub (.v 1) (.s "here") (.bin .Add (.v 3) (.v 6)),.sub (.v 1) (.s "there") (.bin .Add (.v 4) (.v 6))] .n,.f (.q .Eq (.v 0) (.s "fill")) #[.sub (.v 2) (.v 4) (.ix (.v 1) (.s "sign")),.sub (.v 1) (.s "there") (.bin .Add (.v 4) (.v 6))] .n,.f (.and (.q .Eq (.v 0) (.s "shift")) (.q .LtE (.v 4) (.v 3))) #[.sub (.v 2) (.v 4) (.ix (.v 2) (.v 3)),.sub (.v 1) (.s "here") (.bin .Add (.v 3) (.i 1)),.sub (.v 1) (.s "there") (.bin .Add (.v 4) (.i 1))] #[.f (.q .Eq (.v 0) (.s "shift")) #[.sub (.v 2) (.bin .Sub (.bin .Add (.v 4) (.v 5)) (.i 1)) (.ix (.v 2) (.bin .Sub (.bin .Add (.v 3) (.v 5)) (.i 1)))] .n],.f (.and (.q .Eq (.v 0) (.s "turn")) (.q .Gt (.v 5) (.i 1))) #[.a 7 (.i 2),.a 8 (.ix (.v 2) (.v 3)),.sub (.v 2) (.v 3) (.ix (.v 2) (.bin .Sub (.bin .Add (.v 3) (.v 5)) (.i 1))),.sub (.v 2) (.bin .Sub (.bin .Add (.v 3) (.v 5)) (.i 1)) (.v 8),.sub (.v 1) (.s "here") (.bin .Add (.v 3) (.i 1))] .n,.sub (.v 1) (.s "left") (.bin .Sub (.v 5) (.v 7)),.r (.bf .int #[.q .Eq (.ix (.v 1) (.s "left")) (.i 0)])]⟩
abbrev fN:aq:=⟨["_law_word","_law_boxes","_law_cells"],["_law_word","_law_boxes","_law_cells","_law_here","_law_there","_law_left","_law_way","_law_other"],[],#[.par [3,4,5] #[.ix (.v 1) (.s "here"),.ix (.v 1) (.s "there"),.ix (.v 1) (.s "left")],.a 6 (.ix (.v 1) (.s "way")),.f (.q .Eq (.v 5) (.i 0)) #[.sub (.v 1) (.s "met") (.bf .int #[.q .Eq (.v 0) (.s "match")]),.r (.i 1)] .n,.a 7 (.ix (.v 1) (.s "sign")),.f (.q .Eq (.v 0) (.s "match")) #[.a 7 (.ix (.v 2) (.v 4))] .n,.f (.q .Eq (.q .Eq (.ix (.v 2) (.v 3)) (.v 7)) (.q .Eq (.v 0) (.s "seek"))) #[.sub (.v 1) (.s "met") (.bf .int #[.q .Eq (.v 0) (.s "seek")]),.r (.i 1)] .n,.sub (.v 1) (.s "met") (.bf .int #[.q .Eq (.v 0) (.s "match")]),.sub (.v 1) (.s "here") (.bin .Add (.v 3) (.v 6)),.f (.q .Eq (.v 0) (.s "match")) #[.sub (.v 1) (.s "there") (.bin .Add (.v 4) (.v 6))] .n,.sub (.v 1) (.s "left") (.bin .Sub (.v 5) (.i 1)),.r (.bf .int #[.q .Eq (.v 5) (.i 1)])]⟩
abbrev gU:aq:=⟨["_law_hand_here","_law_most"],["_law_hand_here","_law_most"],[],#[.r (.lc (.k 97 #[.v 1,.ix (.lst #[.i 3,.i 1000,.bin .Mult (.i 3) (.bin .Pow (.i 10) (.i 8))]) (.k 97 #[.v 1,.i 3])]) [0] (.rng1 (.bin .Add (.i 1) (.k 97 #[.v 0,.v 1]))))]⟩
abbrev lz:aq:=⟨["_law_hand_here","_law_many"],["_law_hand_here","_law_many","_law_spots","_law_left","_law_six_here"],[],#[.a 2 (.lc (.ix (.lst #[.k 97 #[.v 1,.v 2],.i 0,.bin .Sub (.v 2) (.i 1),.v 2,.neg (.i 1),.bin .Pow (.i 10) (.i 9)]) (.k 97 #[.v 1,.i 6])) [0,1] (.rng1 (.i 2))),.a 3 (.ix (.lst #[.k 97 #[.v 0,.bin .Add (.v 1) (.i 1)],.v 1,.bin .Add (.v 1) (.i 1),.bin .Pow (.i 10) (.i 9),.i 0]) (.k 97 #[.v 0,.i 5])),.a 4 (.disp ["here","there","left","way"] #[.ix (.v 2) (.i 0),.ix (.v 2) (.i 1),.v 3,.bin .Sub (.i 1) (.bin .Mult (.i 2) (.k 97 #[.v 0,.i 2]))]),.sub (.v 4) (.s "sign") (.k 97 #[.v 0,.ix (.lst #[.i 3,.bin .Mult (.i 3) (.bin .Pow (.i 10) (.i 8))]) (.k 97 #[.v 0,.i 2])]),.sub (.v 4) (.s "met") (.k 97 #[.v 0,.i 2]),.r (.v 4)]⟩
abbrev gm:aq:=⟨["_law_hand_here","_law_size"],["_law_hand_here","_law_size","_law_parts_here","_law_low","_law_k","_law_behind"],[],#[.a 2 (.lst .n),.a 3 (.ix (.lst #[.i 0,.k 97 #[.v 0,.v 1]]) (.k 97 #[.v 0,.i 2])),.for (.nm 4) (.rng1 (.bin .Add (.i 1) (.k 97 #[.v 0,.i 4]))) #[.f (.q .Lt (.v 3) (.v 1)) #[.a 5 (.bin .Add (.bin .Add (.v 3) (.i 1)) (.k 97 #[.v 0,.ix (.lst #[.bin .Sub (.v 1) (.v 3),.bf .min #[.i 9,.bin .Sub (.v 1) (.v 3)]]) (.k 97 #[.v 0,.i 2])])),.e (.lm .insert (.v 2) #[.k 97 #[.v 0,.bin .Add (.bf .len #[.v 2]) (.i 1)],.tup #[.v 3,.v 5]]),.a 3 (.bin .Add (.v 5) (.ix (.lst #[.i 0,.i 0,.i 1,.i 3]) (.k 97 #[.v 0,.i 4])))] .n],.r (.v 2)]⟩
abbrev eZ:aq:=⟨["_law_hand_here","_law_cells","_law_most"],["_law_hand_here","_law_cells","_law_most","_law_members_here","_law_low","_law_behind","_law_specs"],[],#[.a 3 (.lst .n),.for (.tp [4,5]) (.seq (.k 112 #[.v 0,.bf .len #[.v 1]])) #[.a 6 (.lc (.k 100 #[.v 1,.bin .Sub (.v 2) (.v 3)]) [0,5,4] (.rng1 (.bin .Add (.i 1) (.k 97 #[.v 0,.v 2])))),.e (.lm .append (.v 3) #[.tup #[.v 4,.v 5,.v 6,.k 111 #[.v 0,.bin .Sub (.v 5) (.v 4)]]])],.r (.v 3)]⟩
abbrev jj:aq:=⟨["_law_cells","_law_members_here"],["_law_cells","_law_members_here","_law_some","_law_low","_law_behind","_law_specs","_law_six_here","_law_boxes"],[],#[.a 2 (.lst .n),.for (.tp [3,4,5,6]) (.seq (.v 1)) #[.a 7 (.make 10 #[.ix (.v 6) (.s "here"),.ix (.v 6) (.s "there"),.ix (.v 6) (.s "left"),.ix (.v 6) (.s "way"),.ix (.v 6) (.s "sign"),.ix (.v 6) (.s "met")]),.e (.lm .append (.v 2) #[.tup #[.v 3,.v 4,.lc (.k 101 #[.v 0]) [] (.seq (.v 5)),.v 7]])],.r (.make 19 #[.bf .list #[.v 0],.v 2])]⟩
abbrev fO:aq:=⟨["_law_cells","_law_members_here"],["_law_cells","_law_members_here","_law_worlds_here","_law_low","_law_behind","_law_specs","_law_six_here"],[],#[.a 2 (.lst .n),.for (.tp [3,4,5,6]) (.seq (.v 1)) #[.e (.lm .append (.v 2) #[.lst #[.i 0,.bf .dict #[.v 6],.sl (.v 0) (.yes (.v 3)) (.yes (.v 4)),.bin .Mult (.lst #[.s "open"]) (.bin .Sub (.v 4) (.v 3))]])],.r (.v 2)]⟩
abbrev i6:aq:=⟨["_law_specs","_law_world"],["_law_specs","_law_world","_law_told_here"],[],#[.f (.q .Eq (.ix (.v 1) (.i 0)) (.bf .len #[.v 0])) #[.r (.s "end")] .n,.a 2 (.k 107 #[.ix (.v 0) (.ix (.v 1) (.i 0)),.ix (.v 1) (.i 1),.ix (.v 1) (.i 2),.ix (.v 1) (.i 3)]),.f (.q .NotEq (.ix (.v 2) (.i 0)) (.s "on")) #[.r (.s "stop")] .n,.sub (.v 1) (.i 0) (.bf .min #[.bf .len #[.v 0],.bin .Add (.ix (.v 1) (.i 0)) (.ix (.v 2) (.i 1))]),.r (.s "on")]⟩
abbrev b9:aq:=⟨["_law_found","_law_world"],["_law_found","_law_world"],[],#[.f (.or (.not (.val (.isi (.v 0) (.ty "tuple")))) (.or (.q .NotEq (.bf .len #[.v 0]) (.i 3)) (.not (.val (.isi (.ix (.v 0) (.i 2)) (.ty "list")))))) #[.r (.bl false)] .n,.r (.and (.q .Eq (.v 0) (.tup #[.ix (.v 1) (.i 0),.vals true (.ix (.v 1) (.i 1)),.ix (.v 1) (.i 2)])) (.k 98 #[.ix (.v 0) (.i 0)]))]⟩
abbrev fS:aq:=⟨["_law_crew_here","_law_cells","_law_members_here","_law_worlds_here"],["_law_crew_here","_law_cells","_law_members_here","_law_worlds_here","_law_floor_here","_law_k","_law_place","_law_found"],[],#[.a 4 (.bf .list #[.v 1]),.for (.nm 5) (.rng1 (.bf .len #[.v 2])) #[.f (.not (.val (.k 117 #[.m (.v 0) "state" #[.v 5],.ix (.v 3) (.v 5)]))) #[.r (.bl false)] .n,.for (.nm 6) (.rng1 (.bf .len #[.ix (.ix (.v 3) (.v 5)) (.i 2)])) #[.sub (.v 4) (.bin .Add (.ix (.ix (.v 2) (.v 5)) (.i 0)) (.v 6)) (.ix (.ix (.ix (.v 3) (.v 5)) (.i 2)) (.v 6))]],.a 7 (.m (.v 0) "floor" .n),.r (.and (.isi (.v 7) (.ty "list")) (.and (.q .Eq (.v 7) (.v 4)) (.bf .all #[.lc (.k 98 #[.v 0]) [] (.seq (.v 7))])))]⟩
abbrev d9:aq:=⟨["_law_crew_here","_law_door","_law_k"],["_law_crew_here","_law_door","_law_k","e","_law_others"],[],#[.tryx #[.f (.q .Eq (.v 1) (.i 0)) #[.e (.m (.v 0) "step" #[.v 2])] #[.f (.q .Eq (.v 1) (.i 1)) #[.e (.m (.v 0) "run" #[.v 2,.i 3])] #[.f (.q .Eq (.v 1) (.i 2)) #[.e (.m (.v 0) "why" #[.v 2])] #[.f (.q .Eq (.v 1) (.i 3)) #[.e (.m (.v 0) "state" #[.v 2])] #[.e (.m (.v 0) "go" #[.v 2])]]]]] (.c 0 3 #[.a 4 (.isiT (.v 3) [3,8,7,6]),.f (.or (.not (.val (.isi (.v 3) (.own 9)))) (.or (.val (.v 4)) (.not (.val (.isi (.v 3) (.ty "ValueError")))))) #[.r (.tup #[.s "another",.i 0])] .n,.r (.tup #[.s "none",.fld (.v 3) "k"])] .n),.r (.tup #[.s "told",.i 0])]⟩
abbrev gY:aq:=⟨["_law_found","_law_thing"],["_law_found","_law_thing"],[],#[.f (.or (.q .NotEq (.ix (.v 0) (.i 0)) (.s "none")) (.q .NotEq (.isi (.ix (.v 0) (.i 1)) (.ty "bool")) (.isi (.v 1) (.ty "bool")))) #[.r (.bl false)] .n,.r (.q .Eq (.ix (.v 0) (.i 1)) (.v 1))]⟩
abbrev kr:aq:=⟨["_law_script"],["_law_script","_law_hand_here","_law_cells","_law_members_here","_law_crew_here","_law_worlds_here","_law_turn","_law_wrong","_law_door","_law_order","_law_other","_law_place","_law_spoilt","_law_kept"],[],#[.a 1 (.k 96 #[.v 0]),.a 2 (.k 110 #[.v 1,.ix (.lst #[.i 8,.i 60]) (.k 97 #[.v 1,.i 2])]),.a 3 (.k 113 #[.v 1,.v 2,.i 4]),.a 4 (.k 114 #[.v 2,.v 3]),.a 5 (.k 115 #[.v 2,.v 3]),.for (.nm 6) (.rng1 (.i 16)) #[.a 7 (.k 99 #[.v 1,.i 0,.bin .Sub (.bf .len #[.v 3]) (.i 1)]),.for (.nm 8) (.rng1 (.i 4)) #[.f (.not (.val (.k 120 #[.k 119 #[.v 4,.v 8,.v 7],.v 7]))) #[.r (.bl false)] .n],.a 9 (.lc (.k 97 #[.v 1,.bf .len #[.v 2]]) [1,3] (.rng1 (.k 97 #[.v 1,.i 9]))),.a 10 (.k 99 #[.v 1,.i 0,.bin .Sub (.bf .len #[.v 3]) (.i 1)]),.a 11 (.k 97 #[.v 1,.bin .Add (.bf .len #[.v 9]) (.i 1)]),.a 12 (.bin .Add (.bin .Add (.sl (.v 9) .no (.yes (.v 11))) (.lst #[.v 7])) (.sl (.v 9) (.yes (.v 11)) .no)),.f (.q .Eq (.k 97 #[.v 1,.i 2]) (.i 0)) #[.e (.lm .append (.v 12) #[.v 10])] .n,.a 13 (.bf .list #[.v 12]),.f (.or (.not (.val (.k 120 #[.k 119 #[.v 4,.i 4,.v 12],.v 7]))) (.q .NotEq (.v 12) (.v 13))) #[.r (.bl false)] .n,.f (.not (.val (.k 118 #[.v 4,.v 2,.v 3,.v 5]))) #[.r (.bl false)] .n,.f (.q .NotEq (.m (.v 4) "go" #[.v 9]) (.lc (.k 116 #[.ix (.ix (.v 1) (.v 0)) (.i 2),.ix (.v 2) (.v 0)]) [3,5] (.seq (.v 9)))) #[.r (.bl false)] .n],.r (.k 118 #[.v 4,.v 2,.v 3,.v 5])]⟩
@[reducible]def cJ:Nat:=0
@[reducible]def jL:Nat:=1
@[reducible]def iH:Nat:=2
@[reducible]def xa:Nat:=3
@[reducible]def uc:Nat:=4
@[reducible]def uh:Nat:=5
@[reducible]def tm:Nat:=6
@[reducible]def vc:Nat:=7
@[reducible]def cp:Nat:=8
@[reducible]def sj:Nat:=9
@[reducible]def ow:Nat:=10
@[reducible]def qk:Nat:=11
@[reducible]def qJ:Nat:=12
@[reducible]def EI:Nat:=13
@[reducible]def bS:Nat:=14
@[reducible]def aJ:Nat:=15
@[reducible]def aH:Nat:=16
@[reducible]def gp:Nat:=17
@[reducible]def eE:Nat:=18
@[reducible]def qz:Nat:=19
@[reducible]def k6:Nat:=20
@[reducible]def k7:Nat:=21
@[reducible]def sr:Nat:=22
@[reducible]def DY:Nat:=23
@[reducible]def ly:Nat:=24
@[reducible]def tI:Nat:=25
@[reducible]def DN:Nat:=26
@[reducible]def jN:Nat:=27
@[reducible]def qD:Nat:=28
@[reducible]def CH:Nat:=29
@[reducible]def jG:Nat:=30
@[reducible]def qH:Nat:=31
@[reducible]def CL:Nat:=32
@[reducible]def iU:Nat:=33
@[reducible]def pO:Nat:=34
@[reducible]def AF:Nat:=35
@[reducible]def ou:Nat:=36
@[reducible]def lO:Nat:=37
@[reducible]def C5:Nat:=38
@[reducible]def gh:Nat:=39
@[reducible]def jM:Nat:=40
@[reducible]def gN:Nat:=41
@[reducible]def lK:Nat:=42
@[reducible]def Ay:Nat:=43
@[reducible]def AH:Nat:=44
@[reducible]def dX:Nat:=45
@[reducible]def An:Nat:=46
@[reducible]def vZ:Nat:=47
@[reducible]def lU:Nat:=48
@[reducible]def rA:Nat:=49
@[reducible]def dy:Nat:=50
@[reducible]def gB:Nat:=51
@[reducible]def gz:Nat:=52
@[reducible]def i9:Nat:=53
@[reducible]def ie:Nat:=54
@[reducible]def ji:Nat:=55
@[reducible]def lE:Nat:=56
@[reducible]def zG:Nat:=57
@[reducible]def Bg:Nat:=58
@[reducible]def rg:Nat:=59
@[reducible]def lN:Nat:=60
@[reducible]def wj:Nat:=61
@[reducible]def su:Nat:=62
@[reducible]def iw:Nat:=63
@[reducible]def jT:Nat:=64
@[reducible]def cu:Nat:=65
@[reducible]def cW:Nat:=66
@[reducible]def rL:Nat:=67
@[reducible]def GI:Nat:=68
@[reducible]def FQ:Nat:=69
@[reducible]def nX:Nat:=70
@[reducible]def nh:Nat:=71
@[reducible]def oB:Nat:=72
@[reducible]def xf:Nat:=73
@[reducible]def BY:Nat:=74
@[reducible]def kB:Nat:=75
@[reducible]def kN:Nat:=76
@[reducible]def DJ:Nat:=77
@[reducible]def so:Nat:=78
@[reducible]def jE:Nat:=79
@[reducible]def qI:Nat:=80
@[reducible]def wz:Nat:=81
@[reducible]def Fb:Nat:=82
@[reducible]def sJ:Nat:=83
@[reducible]def jk:Nat:=84
@[reducible]def CP:Nat:=85
@[reducible]def jq:Nat:=86
@[reducible]def Cv:Nat:=87
@[reducible]def jc:Nat:=88
@[reducible]def Dh:Nat:=89
@[reducible]def hW:Nat:=90
@[reducible]def Az:Nat:=91
@[reducible]def gy:Nat:=92
@[reducible]def Ax:Nat:=93
@[reducible]def jv:Nat:=94
@[reducible]def AK:Nat:=95
@[reducible]def rz:Nat:=96
@[reducible]def qi:Nat:=97
@[reducible]def nQ:Nat:=98
@[reducible]def sQ:Nat:=99
@[reducible]def rE:Nat:=100
@[reducible]def qv:Nat:=101
@[reducible]def qE:Nat:=102
@[reducible]def tT:Nat:=103
@[reducible]def pw:Nat:=104
@[reducible]def qF:Nat:=105
@[reducible]def fL:Nat:=106
@[reducible]def qS:Nat:=107
@[reducible]def oH:Nat:=108
@[reducible]def lV:Nat:=109
@[reducible]def pI:Nat:=110
@[reducible]def sG:Nat:=111
@[reducible]def nE:Nat:=112
@[reducible]def lp:Nat:=113
@[reducible]def qt:Nat:=114
@[reducible]def lR:Nat:=115
@[reducible]def i4:Nat:=116
@[reducible]def eJ:Nat:=117
@[reducible]def fP:Nat:=118
@[reducible]def i5:Nat:=119
@[reducible]def pN:Nat:=120
@[reducible]def Eb:Nat:=121
@[reducible]def Dn:Nat:=0
@[reducible]def cC:Nat:=1
@[reducible]def aX:Nat:=2
@[reducible]def cz:Nat:=3
@[reducible]def JV:Nat:=4
@[reducible]def Jc:Nat:=5
@[reducible]def Js:Nat:=6
@[reducible]def Hb:Nat:=7
@[reducible]def IL:Nat:=8
@[reducible]def aE:Nat:=9
@[reducible]def bX:Nat:=10
@[reducible]def Fj:Nat:=11
@[reducible]def DF:Nat:=12
@[reducible]def D7:Nat:=13
@[reducible]def yg:Nat:=14
@[reducible]def Ag:Nat:=15
@[reducible]def uP:Nat:=16
@[reducible]def aU:Nat:=17
@[reducible]def au:Nat:=18
@[reducible]def bR:Nat:=19
@[reducible]def mP:Nat:=20
@[reducible]def Gf:Nat:=21
@[reducible]def Gu:Nat:=22
@[reducible]def FN:Nat:=23
@[reducible]def BE:Nat:=24
@[reducible]def Ci:Nat:=25
@[reducible]def Fv:Nat:=26
abbrev tab:Tab where
  fns:=(cQ::dS::dv::iA::hU::ik::fX::hX::ck::kq::iq::lH::jA::zU::dg::fU::dG::ir::eY::jl::ft::eK::k3::rR::fq::kG::qN::dP::jb::nH::dR::jB::pH::dw::gF::l9::gu::fT::uF::cN::dW::c5::fj::lS::mi::dY::lq::iJ::fM::ja::dm::iu::gO::i3::gH::ju::eU::rG::uH::je::fQ::mX::lj::gX::dO::bb::bC::d8::ky::kX::dI::iI::ic::ng::uR::eD::ke::qc::nK::eh::i7::mM::yk::lA::jz::pE::jx::oA::jh::pP::gK::md::gx::lZ::jC::pG::jn::jo::gq::lD::jr::jd::jt::kA::hZ::jD::bV::jF::il::fN::gU::lz::gm::eZ::jj::fO::i6::b9::fS::d9::gY::kr::[])
  gfn:=(("is_whole",9)::("is_content",10)::("is_box",11)::("is_number",12)::("fits",13)::("check_box",19)::("check_number",20)::("check_rows",36)::("check_place",37)::("tried",38)::("check_cells",48)::("is_within",49)::("shared",57)::("apart",58)::("is_member",59)::("are_members",60)::("is_part",61)::("parts_of",62)::("machine_on",63)::("is_many",73)::("is_on",74)::("more",78)::("go_by_way",79)::("less_left",80)::("ask_put",81)::("haul",82)::("exchange",83)::("_law_hand",96)::("_law_draw",97)::("_law_whole",98)::("_law_odd",99)::("_law_spec",100)::("_law_deed",101)::("_law_long",102)::("_law_let",103)::("_law_reach",104)::("_law_fits",105)::("_law_barred",106)::("_law_step",107)::("_law_moved",108)::("_law_looked",109)::("_law_floor",110)::("_law_six",111)::("_law_parts",112)::("_law_members",113)::("_law_crew",114)::("_law_worlds",115)::("_law_goes",116)::("_law_member_stands",117)::("_law_stands",118)::("_law_told",119)::("_law_alike",120)::("law",121)::[])
  gcl:=[("HaulError",0),("NoStore",1),("Stop",2),("NoFit",3),("NoBox",4),("NoDeed",5),("NoRows",6),("NoPlace",7),("NoPart",8),("NoMember",9),("Boxes",10),("Deed",11),("Set",12),("Add",13),("Take",14),("Read",15),("Write",16),("Machine",17),("Store",18),("Crew",19),("Hop",20),("Copy",21),("Fill",22),("Seek",23),("Match",24),("Shift",25),("Turn",26)]
  gbl:=["ValueError","all","bool","dict","enumerate","int","isinstance","len","list","max","min","range","str","tuple","zip"]
  gbi:=["HaulError"]
  na:=((1,"at")::(2,"cell")::(2,"deed")::(3,"box")::(3,"number")::(4,"box")::(5,"word")::(6,"at")::(7,"at")::(8,"at")::(9,"k")::(10,"numbers")::(12,"box")::(12,"number")::(13,"box")::(13,"number")::(14,"box")::(14,"other")::(15,"box")::(16,"box")::(17,"at")::(17,"boxes")::(17,"deeds")::(17,"store")::(18,"contents")::(18,"permits")::(19,"ground")::(19,"machines")::(19,"parts")::(20,"many")::(20,"on")::[])
  me:=(((10,"copied"),18)::((10,"give"),16)::((10,"holds"),15)::((10,"told"),17)::((12,"step"),22)::((12,"words"),23)::((13,"step"),25)::((13,"words"),26)::((14,"step"),28)::((14,"words"),29)::((15,"step"),31)::((15,"words"),32)::((16,"step"),34)::((16,"words"),35)::((17,"copied"),47)::((17,"ended"),40)::((17,"rows"),46)::((17,"run"),43)::((17,"state"),45)::((17,"step"),42)::((17,"step_on"),41)::((17,"why"),44)::((18,"copied"),56)::((18,"look"),54)::((18,"may"),53)::((18,"put"),55)::((18,"size"),51)::((18,"told"),52)::((19,"check_member"),65)::((19,"floor"),72)::((19,"go"),71)::((19,"machine_of"),66)::((19,"run"),68)::((19,"state"),70)::((19,"step"),67)::((19,"why"),69)::((20,"step"),76)::((20,"words"),77)::((21,"step"),84)::((21,"words"),85)::((22,"step"),86)::((22,"words"),87)::((23,"step"),88)::((23,"words"),89)::((24,"step"),90)::((24,"words"),91)::((25,"step"),92)::((25,"words"),93)::((26,"step"),94)::((26,"words"),95)::[])
  ini:=[(1,0),(2,1),(3,2),(4,3),(5,4),(6,5),(7,6),(8,7),(9,8),(10,14),(12,21),(13,24),(14,27),(15,30),(16,33),(17,39),(18,50),(19,64),(20,75)]
  ini0:=[]
  inip:=[21,22,23,24,25,26]
  oc:=[10,11,12,13,14,15,16,17,18,19,20,21,22,23,24,25,26]
  xc:=[0,1,2,3,4,5,6,7,8,9]
  sub:=(((0,0),true)::((0,3),false)::((0,9),false)::((0,8),false)::((0,7),false)::((0,6),false)::((0,2),false)::((1,0),true)::((1,3),false)::((1,9),false)::((1,8),false)::((1,7),false)::((1,6),false)::((1,2),false)::((2,0),true)::((2,3),false)::((2,9),false)::((2,8),false)::((2,7),false)::((2,6),false)::((2,2),true)::((3,0),true)::((3,3),true)::((3,9),false)::((3,8),false)::((3,7),false)::((3,6),false)::((3,2),false)::((4,0),true)::((4,3),false)::((4,9),false)::((4,8),false)::((4,7),false)::((4,6),false)::((4,2),false)::((5,0),true)::((5,3),false)::((5,9),false)::((5,8),false)::((5,7),false)::((5,6),false)::((5,2),false)::((6,0),true)::((6,3),false)::((6,9),false)::((6,8),false)::((6,7),false)::((6,6),true)::((6,2),false)::((7,0),true)::((7,3),false)::((7,9),false)::((7,8),false)::((7,7),true)::((7,6),false)::((7,2),false)::((8,0),true)::((8,3),false)::((8,9),false)::((8,8),true)::((8,7),false)::((8,6),false)::((8,2),false)::((9,0),true)::((9,3),false)::((9,9),true)::((9,8),false)::((9,7),false)::((9,6),false)::((9,2),false)::((10,11),false)::((11,11),true)::((12,11),true)::((13,11),true)::((14,11),true)::((15,11),true)::((16,11),true)::((17,11),false)::((18,11),false)::((19,11),false)::((20,11),true)::((21,11),true)::((22,11),true)::((23,11),true)::((24,11),true)::((25,11),true)::((26,11),true)::[])
  subT:=[((0,"ValueError"),true),((1,"ValueError"),true),((2,"ValueError"),true),((3,"ValueError"),true),((4,"ValueError"),true),((5,"ValueError"),true),((6,"ValueError"),true),((7,"ValueError"),true),((8,"ValueError"),true),((9,"ValueError"),true)]
  subB:=((("NoneType","bool"),false)::(("NoneType","int"),false)::(("NoneType","list"),false)::(("NoneType","str"),false)::(("NoneType","tuple"),false)::(("bool","bool"),true)::(("bool","int"),true)::(("bool","list"),false)::(("bool","str"),false)::(("bool","tuple"),false)::(("int","bool"),false)::(("int","int"),true)::(("int","list"),false)::(("int","str"),false)::(("int","tuple"),false)::(("str","bool"),false)::(("str","int"),false)::(("str","list"),false)::(("str","str"),true)::(("str","tuple"),false)::(("list","bool"),false)::(("list","int"),false)::(("list","list"),true)::(("list","str"),false)::(("list","tuple"),false)::(("tuple","bool"),false)::(("tuple","int"),false)::(("tuple","list"),false)::(("tuple","str"),false)::(("tuple","tuple"),true)::(("dict","bool"),false)::(("dict","int"),false)::(("dict","list"),false)::(("dict","str"),false)::(("dict","tuple"),false)::[])
  subO:=[]
/-- what the proofs ask of the addresses -/
structure Ro (K:W.Frag) (R:Rt):Prop where
  hK:R.K=K
  g_BOUND:R.gl "BOUND"=some (.int 1000000000)
  g_MOST_ROWS:R.gl "MOST_ROWS"=some (.int 24)
  g_MOST_CELLS:R.gl "MOST_CELLS"=some (.int 60)
  g_MOST_MEMBERS:R.gl "MOST_MEMBERS"=some (.int 4)
  g_THINGS_OF_A_MEMBER:R.gl "THINGS_OF_A_MEMBER"=some (.int 4)
  g_MOST_HOPPED:R.gl "MOST_HOPPED"=some (.int 24)
  g_NAMES:∃ a,R.gl "NAMES"=some (.ref a)/\∀ H,aZ K H a [.str "here",.str "there",.str "left",.str "way",.str "sign",.str "met"]
end My
set_option Elab.async false
set_option maxHeartbeats 8000000
namespace My
open PySem L2 L3
variable {h a C d dx l lv Ol:Addr}{m i r c at_:Int}{ns cs':List Int}{n:Nat}{v:V}{t:String}{xs ds ss rest:List V}{α:Type}{ws:List Str}{A:ay}{P:V->Prop}{sp:Sp}{o:Option Int}{Δ2:List ay}{is:List Nat}
section
variable {K:W.Frag}{R:Rt}{k:Nat}{H:Hp}{Q:VK}{E:XK}{O Γ' Δ:List ay}
local macro_rules| `(tactic|walk_at "w")=>`(tactic|conv=>whnf)
local macro_rules| `(tactic|left)=>`(tactic|walk_at "w")
local macro_rules| `(tactic|symm)=>`(tactic|((with_reducible (repeat (first|exact af.here|apply af.there)));done))
local macro_rules| `(tactic|ac_rfl)=>`(tactic|((with_reducible (repeat (first|exact aV.here|apply aV.there)));done))
local macro_rules| `(tactic|ac_nf)=>`(tactic|first|(with_reducible exact Sub.refl)|(refine' Sub.cons ?h ?r;(case h=>symm);(case r=>ac_nf))|(with_reducible exact Sub.nil)|(with_reducible apply Sub.drop;(ac_nf)))
local macro_rules| `(tactic|walk_at "sp")=>`(tactic|(refine Sep.sub ?_ (by with_reducible assumption);(ac_nf)))
local macro_rules| `(tactic|grind)=>`(tactic|first|exact Sep.get (by with_reducible assumption) (by symm)|exact Sep.fK (by with_reducible assumption) (by symm))
local macro_rules| `(tactic|walk_at "ar")=>`(tactic|first|lia|omega|decide|exact Nat.le_of_ble_eq_true rfl|(unfold rf;omega)|(unfold AS;omega)|(unfold AS;decide)|(unfold rf;decide)|(simp only[length_map,length_set,List.length_replicate];omega))
local macro_rules| `(tactic|walk_at "ls")=>`(tactic|first|(conv=>lhs;simp only[List.set_cons_succ,List.set_cons_zero,Int.reduceToNat])|rfl)
local macro_rules| `(tactic|walk_at "pf")=>`(tactic|first|(conv=>lhs;simp (decide:=true) only [cT,if_true,if_false])|rfl)
local macro_rules| `(tactic|walk_at "st")=>`(tactic|first
  |(with_reducible refine And.intro rfl ?_)
  |(with_reducible refine aN rfl ?_)
  |(with_reducible refine ar rfl ?_)
  |(with_reducible refine FH ?_)
  |((with_reducible refine' aL ?e ?v ?_);(case e=>grind);(case v=>exact rfl))
  |((with_reducible refine' cS ?e ?v ?_);(case e=>grind);(case v=>exact rfl))
  |((with_reducible refine' HD ?e ?i ?v ?_);(case e=>grind);(case i=>omega);(case v=>exact rfl))
  |(with_reducible refine GJ rfl ?_)
  |(with_reducible refine F6 rfl ?_)
  |((with_reducible refine' gI ?e ?_);(case e=>grind))
  |((with_reducible refine' ur ?e ?_);(case e=>grind))
  |((with_reducible refine' fW ?s ?r ?j ?x (λH hs=>?_));(case s=>with_reducible assumption);(case r=>ac_rfl);(case j=>exact rfl);(case x=>walk_at "ls"))
  |((with_reducible refine' FF ?s ?l (λp H hs=>?_));(case s=>with_reducible assumption);(case l=>exact Nat.le_of_ble_eq_true rfl))
  |((with_reducible refine' Gh ?s ?l (λp H hs=>?_));(case s=>with_reducible assumption);(case l=>exact Nat.le_of_ble_eq_true rfl))
  |((with_reducible refine' FO ?s (λp H hs=>?_));(case s=>with_reducible assumption))
  |((with_reducible refine' GP ?e ?_);(case e=>grind))
  |((with_reducible refine' CO ?e ?_);(case e=>grind))
  |((with_reducible refine' nv ?s ?e ?f ?l (λp H hs=>?_));(case s=>with_reducible assumption);(case e=>grind);(case f=>grind);(case l=>walk_at "ar"))
  |((with_reducible refine' Hx ?s ?e ?f ?g ?l (λp H hs=>?_));(case s=>with_reducible assumption);(case e=>grind);(case f=>walk_at "ar");(case g=>walk_at "ar");(case l=>walk_at "ar"))
  |((with_reducible refine' Ka ?s ?r ?o ?n ?l ?x (λH hs=>?_));(case s=>with_reducible assumption);(case r=>ac_rfl);(case o=>exact rfl);(case n=>exact rfl);(case l=>walk_at "ar");(case x=>walk_at "pf"))
  |((with_reducible refine' cD ?e ?o ?n ?l ?_);(case e=>grind);(case o=>exact rfl);(case n=>exact rfl);(case l=>exact rfl))
  |((with_reducible refine' Hu ?e ?o ?n ?l ?_);(case e=>grind);(case o=>exact rfl);(case n=>exact rfl);(case l=>exact rfl))
  |((with_reducible refine' HC ?e ?o ?b ?_);(case e=>grind);(case o=>exact rfl);(case b=>exact rfl))
  |((with_reducible refine' EA ?e ?o ?b ?_);(case e=>grind);(case o=>exact rfl);(case b=>exact rfl))
  |((with_reducible refine' cn ?t ?b ?_);(case t=>exact rfl);(case b=>exact rfl))
  |((with_reducible refine' pD ?a ?b ?_);(case a=>exact rfl);(case b=>exact rfl))
  |((with_reducible refine' pF ?a ?b ?_);(case a=>exact rfl);(case b=>exact rfl))
  |((with_reducible refine' vd ?s ?e (λp H hs=>?_));(case s=>with_reducible assumption);(case e=>grind))
  |((with_reducible refine' GW ?s ?e (λp H hs=>?_));(case s=>with_reducible assumption);(case e=>grind))
  |(refine And.intro (by walk_at "ar") ?_))
local macro_rules| `(tactic|walk_at "go")=>`(tactic|(walk_at "w";repeat (walk_at "st";walk_at "w")))
local macro_rules| `(tactic|right)=>`(tactic|walk_at "go")
abbrev hand (h:Addr)(m:Int):ay:=ex λx:Addr×List Int×Int×Int×Int×Int=>pU (pt h (.lst [.ref x.1,.int x.2.2.1,.int x.2.2.2.1,.int x.2.2.2.2.1,.int x.2.2.2.2.2])) (pU (pt x.1 (.lst (x.2.1.map V.int)))
 (pu (x.2.1.length<=63/\0<=x.2.2.1/\x.2.2.1<2147483629/\0<=x.2.2.2.1/\0<=x.2.2.2.2.1/\0<=x.2.2.2.2.2/\x.2.2.2.2.2<=m)))
def yU (s:Sep (hand h m::O) H):∃ (c:Addr) (ns:List Int) (fo i r n:Int),Sep (pt h (.lst [.ref c,.int fo,.int i,.int r,.int n])::pt c (.lst (ns.map V.int))::O) H/\ns.length<=63/\0<=fo/\fo<2147483629/\0<=i/\0<=r/\0<=n/\n<=m:=by
 obtain ⟨⟨c,ns,fo,i,r,n⟩,s⟩:=Sep.G6.mp s;have s2:=Sep.star.mp ((Sep.star.mp s).pull (.there .here));have p:=(s2.pull (.there .here)).pure;exact ⟨c,ns,fo,i,r,n,((s2.pull (.there .here)).drop).pull (.there .here),p⟩
def iL {c:Addr}{fo n:Int}(s:Sep (pt h (.lst [.ref c,.int fo,.int i,.int r,.int n])::pt c (.lst (ns.map V.int))::O) H)(p:ns.length<=63/\0<=fo/\fo<2147483629/\0<=i/\0<=r/\0<=n/\n<=m):Sep (hand h m::O) H:=by
 refine Sep.G6.mpr ⟨⟨c,ns,fo,i,r,n⟩,Sep.star.mpr ?_⟩;exact (Sep.star.mpr (((s.pull (.there .here)).pull .here |> λs=>(Sep.tS p s).pull (.there .here)))).pull (.there .here)
def Jh:(10:Int) ^ Int.toNat 18=1000000000000000000:=by decide
def n8 {n:Int}(hk:1<=k)(s:Sep (hand h m::O) H)(hm:m<=1099511627776)(hn0:0<n)(hn1:n<1073741824)
  (q:∀ (r:Int) (H':Hp),0<=r->r<n->Sep (hand h (m+1)::O) H'->Q (.int r) H'):ab tab R k qi [.ref h,.int n] H Q E:=by
 obtain ⟨c,ns,fo,i,r,j,hs,h63,f0,f1,i0,r0,k0,k1⟩:=yU s;clear s;have nn:n≠0:=by omega
 refine wc (d:=jo) nofun rfl rfl ?_;right;refine ax (λhr=>?_) (λhr=>?_)
 ·right;rename_i H1 hs1 H2 hs2;exact q _ _ (Int.emod_nonneg _ nn) (Int.emod_lt_of_pos _ hn0) (iL hs2 ⟨h63,f0,f1,i0,Int.ediv_nonneg r0 nofun,by omega,by omega⟩)
 right;refine ax (λhc=>?_) (λhc=>?_)
 ·right;obtain ⟨z,hz⟩:∃ z,lL (ns.map V.int) i=some (.int z):=Aa i0 (by rw[length_map] at hc;exact hc);refine aL (by grind) hz ?_;right;refine ax (λhz18=>?_) (λhz18=>?_)
  ·rw[Jh] at hz18;right;rename_i H1 hs1 H2 hs2 H3 hs3;exact q _ _ (Int.emod_nonneg _ nn) (Int.emod_lt_of_pos _ hn0) (iL hs3 ⟨h63,f0,f1,by omega,Int.ediv_nonneg nofun nofun,by omega,by omega⟩)
  ·right;rename_i H1 hs1 H2 hs2;exact q _ _ (Int.emod_nonneg _ nn) (Int.emod_lt_of_pos _ hn0) (iL hs2 ⟨h63,f0,f1,by omega,r0,by omega,by omega⟩)
 ·right;rename_i H1 hs1;exact q _ _ (Int.emod_nonneg _ nn) (Int.emod_lt_of_pos _ hn0) (iL hs1 ⟨h63,f0,f1,by omega,r0,by omega,by omega⟩)
def Ew (hk:1<=k)(s:Sep O H)(hS:aS R.K H a (ns.map V.int))(h63:ns.length<=63)(q:∀ h H',Sep (hand h 0::O) H'->Q (.ref h) H'):ab tab R k rz [.ref a] H Q E:=by
 refine wc (d:=jn) nofun rfl rfl ?_;right;refine JY s hS (λp H1 hs1=>?_);rw[HR ns h63] at hs1;right;rename_i c H2 hs2;refine cy (xs:=ns.map V.int) (λj U H=>∃ (fo:Int) (v:Option V),U=[some (.ref a),some (.ref c),some (.int fo),v]/\0<=fo/\fo<2147483629/\Sep (pt c (.lst (ns.map V.int))::pt p (.lst (ns.map V.int))::O) H) ?_ ?_ ?_ ?_
 ·exact ⟨_,none,rfl,by rw[length_map];omega,by rw[length_map];omega,hs2⟩
 ·rintro j U H ⟨fo,v,rfl,h0,h2,hs⟩;exact aS.of hs.at
 ·rintro j x U H hx ⟨fo,v,rfl,h0,h2,hs⟩;obtain ⟨z,rfl⟩:=tZ hx;right;exact ⟨_,_,rfl,by omega,by omega,hs⟩
 ·rintro U H ⟨fo,v,rfl,h0,h2,hs⟩;right;rename_i l H3 hs3;exact q l _ (iL ((hs3.pull (.there (.there .here))).drop) ⟨h63,h0,h2,by omega,by omega,by omega,by omega⟩)
def aj {n:Int}(s:Sep (hand h m::O) H)(e:m<=n):Sep (hand h n::O) H:=by
 obtain ⟨c,ns,fo,i,r,j,hs,h63,f0,f1,i0,r0,k0,k1⟩:=yU s;exact iL hs ⟨h63,f0,f1,i0,r0,k0,by omega⟩
inductive Kd (H:Hp):V->String->Prop where
 |non:Kd H .non "NoneType"
 |bl (b:Bool):Kd H (.bl b) "bool"
 |int (i:Int):Kd H (.int i) "int"
 |str (x:Str):Kd H (.str x) "str"
 |lst {a:Addr}{xs:List V}(e:H a=some (.lst xs)):Kd H (.ref a) "list"
 |tup {a:Addr}{xs:List V}(e:H a=some (.tup xs)):Kd H (.ref a) "tuple"
 |dct {a:Addr}{kvs:List (Key×V)}(e:H a=some (.dK kvs)):Kd H (.ref a) "dict"
def dC (h:tyName v H=some t):Kd H v t:=by
 unfold tyName at h
 split at h
 ·cases h;exact .non
 ·cases h;exact .bl _
 ·cases h;exact .int _
 ·cases h;exact .str _
 ·split at h
  ·rename_i e;cases h;exact .lst e
  ·rename_i e;cases h;exact .tup e
  ·rename_i e;cases h;exact .dct e
  ·cases h
 ·cases h
abbrev pB:V->Bool
 | .int _=>true
 |_=>false
abbrev fH:V->Bool
 | .int i=>decide (0<=i)&&decide (i<=1000000000)
 |_=>false
def aF (hk:1<=k)(ht:tyName v H=some t)(q:Q (.bl (pB v)) H):ab tab R k sj [v] H Q E:=by
 refine wc (d:=kq) nofun rfl rfl ?_;right;cases dC ht
 all_goals
  refine cn ht rfl ?_;right
  first
   |exact q
   |(refine cn ht rfl ?_;right;exact q)
def cw (ro:Ro K R)(hk:2<=k)(ht:tyName v H=some t)(q:Q (.bl (fH v)) H):ab tab R k ow [v] H Q E:=by
 refine wc (d:=iq) nofun rfl rfl ?_;right;refine aF nofun ht ?_;cases dC ht
 case int i=>
  right;refine ax (λh0=>?_) (λh0=>?_)
  ·left;simp only[ro.g_BOUND];right;have e:fH (.int i)=decide (i<=1000000000):=by simp[fH,h0]
   rw[e] at q;exact q
  ·right;have e:fH (.int i)=false:=by simp[fH,h0]
   rw[e] at q;exact q
 all_goals
  right;exact q
abbrev bad (xs:List V):Option Int:=if xs.length<1\/60<xs.length then some (-1) else (xs.findIdx? λx=>!fH x).map λn=>(n:Int)
def Gq (h:¬ (1<=xs.length/\xs.length<=60)):bad xs=some (-1):=by
 unfold bad;rw[if_pos nofun]
def Gj {j:Nat}{x:V}(h:1<=xs.length/\xs.length<=60)(hx:xs[j]? =some x)(hc:fH x=false)(hb:∀ i y,i<j->xs[i]? =some y->fH y=true):bad xs=some j:=by
 unfold bad;rw[if_neg nofun];have:xs.findIdx? (λx=>!fH x)=some j:=by
  rw[List.findIdx?_eq_some_iff_getElem];obtain ⟨hj,e⟩:=List.getElem?_eq_some_iff.mp hx;refine ⟨hj,by rw[e,hc];rfl,λi hi=>?_⟩;rw[hb i xs[i] hi (getElem?_eq_getElem _)]
  decide
 rw[this]
 rfl
def qW (h:1<=xs.length/\xs.length<=60)(hb:∀ (i:Nat) y,xs[i]? =some y->fH y=true):bad xs=none:=by
 unfold bad;rw[if_neg nofun];have:xs.findIdx? (λx=>!fH x)=none:=by
  rw[List.findIdx?_eq_none_iff];intro x hx;obtain ⟨i,hi⟩:=List.mem_iff_getElem?.mp hx;rw[hb i x hi]
  rfl
 rw[this]
 rfl
def Cj (h:bad xs=none):1<=xs.length/\xs.length<=60:=by
 unfold bad at h
 split at h
 ·cases h
 ·omega
def vf {x:V}:(List.replicate (Int.toNat (n:Int)) [x]).flatten=List.replicate n x:=by
 rw[Int.toNat_natCast]
 induction n with
 |zero=>rfl
 |succ n ih=>rw[replicate_succ,flatten_cons,ih];rfl
abbrev j4 (C:Addr)(fs:List (Str×V))(x:Addr)(fr:Bool):ay:=ex λd:Addr=>pU (pt x (.exc C (some d) fs fr)) (pt d (.own x))
def jw {x:Addr}{fs:List (Str×V)}{fr:Bool}(s:Sep (pt x (.exc C (some d) fs fr)::pt d (.own x)::O) H):Sep (j4 C fs x fr::O) H:=Sep.G6.mpr ⟨d,Sep.star.mpr s⟩
def kS {x:Addr}{fs:List (Str×V)}{fr:Bool}(s:Sep (j4 C fs x fr::O) H):∃ d,Sep (pt x (.exc C (some d) fs fr)::pt d (.own x)::O) H:=let ⟨d,s⟩:=Sep.G6.mp s;⟨d,Sep.star.mp s⟩
def fc {x:Addr}(hk:1<=k)(s:Sep (pt x (.exc (R.cad cC) none [] true)::O) H)(q:∀ d H',Sep (pt x (.exc (R.cad cC) (some d) [("at",v)] true)::pt d (.own x)::O) H'->Q .non H'):ab tab R k cJ [.ref x,v] H Q E:=by
 refine wc (d:=cQ) nofun rfl rfl ?_;right;refine ⟨_,cC,_,_,_,_,rfl,by grind,rfl,?_⟩;right;refine ve s rfl rfl (λd H hs=>?_);right;exact q d H hs
def BL (ro:Ro K R)(hk:3<=k)(s:Sep (pt a (.lst xs)::tys xs::O) H)(q0:bad xs=none->∀ H',Sep (pt a (.lst xs)::tys xs::O) H'->Q .non H')
  (q1:∀ at',bad xs=some at'->∀ x H',Sep (j4 (R.cad cC) [("at",.int at')] x false::pt a (.lst xs)::tys xs::O) H'->E x H'):ab tab R k lU [.ref a] H Q E:=by
 refine wc (d:=fM) nofun rfl rfl ?_;right;refine cn (t:="list") (vY s.at) rfl ?_;right
 by_cases hl:1<=xs.length/\xs.length<=60
 ·refine aN (decide_eq_true nofun) ?_;left;simp only[ro.g_MOST_CELLS];right;refine aN (c:=decide ((xs.length:Int)<=60)) (decide_eq_true nofun) ?_;right;refine jV (xs:=xs) (λj U H=>∃ y z,U=[some (.ref a),y,z]/\(∀ i w,i<j->xs[i]? =some w->fH w=true)/\Sep (pt a (.lst xs)::tys xs::O) H) ?_ ?_ ?_ ?_
  ·exact ⟨none,none,rfl,λi w h=>absurd h nofun,s⟩
  ·rintro j U H ⟨y,z,rfl,_,hs⟩;exact hs.at
  ·rintro j x T U H hx ⟨y,z,rfl,hb,hs⟩ hT;have hs1:=hs.g6 (xs:=[.int j,x]) hT;left;refine ⟨T,_,rfl,.inl (aZ.of hs1.atT),rfl,?_⟩;right;obtain ⟨t,ht⟩:=(hs1.pull (.there (.there .here))).DW x (mem_of_getElem? hx);refine cw ro nofun ht ?_;right;refine cG (λhc=>?_) (λhc=>?_)
   ·right;refine ⟨_,_,rfl,λi w hi hw=>?_,hs1.drop⟩
    by_cases e:i=j
    ·subst e;rw[hx] at hw;cases hw;exact hc
    ·exact hb i w nofun hw
   ·right;intro p hp;refine fc nofun (hs1.drop.new hp) (λd H hs=>?_);right;refine eG hs (by ac_rfl) rfl (λH hs=>?_);exact q1 _ (Gj hl hx hc hb) p H (jw hs)
  ·rintro U H ⟨y,z,rfl,hb,hs⟩;right;exact q0 (qW hl λi w hi=>hb i w (List.getElem?_eq_some_iff.mp hi).1 hi) _ hs
 ·have fin:∀ p,H p=none->ab tab R (k-1) cJ [.ref p,.int (-1)] (upd H p (.exc (R.cad cC) none [] true)) (λv H2=>v=.non/\∃ b i dx fs,V.ref p=.ref b/\H2 b=some (.exc (R.cad i) dx fs true)/\tab.xc.contains i=true/\E b (upd H2 b (.exc (R.cad i) dx fs false))) E:=by
   intro p hp;refine fc nofun (s.new hp) (λd H hs=>?_);refine ⟨rfl,?_⟩;refine eG (G:=⟨tab,R,ab tab R 0,true⟩) hs (by ac_rfl) rfl (λH hs=>?_);exact q1 _ (Gq hl) p H (jw hs)
  by_cases h1:1<=xs.length
  ·refine aN (decide_eq_true nofun) ?_;left;simp only[ro.g_MOST_CELLS];right;refine ar (c:=decide ((xs.length:Int)<=60)) (decide_eq_false nofun) ?_;right;exact fin
  ·refine ar (decide_eq_false nofun) ?_;right;exact fin
abbrev a8 (C p:Addr)(cs ws:List V):ay:=ex λx:Addr×Addr×Addr=>pU (pt p (.ins C x.1 [("contents",.ref x.2.1),("permits",.ref x.2.2)])) (pU (pt x.1 (.own p)) (pU (pt x.2.1 (.lst cs)) (pt x.2.2 (.lst ws))))
def bY {p:Addr}{cs ws:List V}(s:Sep (a8 C p cs ws::O) H):∃ dx a b,Sep (pt p (.ins C dx [("contents",.ref a),("permits",.ref b)])::pt dx (.own p)::pt a (.lst cs)::pt b (.lst ws)::O) H:=by
 obtain ⟨⟨dx,a,b⟩,s⟩:=Sep.G6.mp s;refine ⟨dx,a,b,?_⟩;have s1:=Sep.star.mp s;have s2:=Sep.star.mp (s1.pull (.there .here));have s3:=Sep.star.mp (s2.pull (.there .here));exact ((s3.pull (.there (.there .here))).pull (.there (.there (.there .here))))
def eA {p b:Addr}{cs ws:List V}(s:Sep (pt p (.ins C dx [("contents",.ref a),("permits",.ref b)])::pt dx (.own p)::pt a (.lst cs)::pt b (.lst ws)::O) H):Sep (a8 C p cs ws::O) H:=by
 refine Sep.G6.mpr ⟨(dx,a,b),Sep.star.mpr ?_⟩;have s3:=Sep.star.mpr ((s.pull (.there (.there (.there .here)))).pull (.there (.there (.there .here))));have s2:=Sep.star.mpr (s3.pull (.there (.there .here)));exact s2.pull (.there .here)
def nF {p:Addr}(ro:Ro K R)(hk:4<=k)(s:Sep (pt p (.ins (R.cad au) dx [])::pt dx (.own p)::pt a (.lst xs)::tys xs::O) H)
  (q0:bad xs=none->∀ H',Sep (a8 (R.cad au) p xs (List.replicate xs.length (.str "open"))::pt a (.lst xs)::tys xs::O) H'->Q .non H')
  (q1:∀ at',bad xs=some at'->∀ x H',Sep (j4 (R.cad cC) [("at",.int at')] x false::pt a (.lst xs)::tys xs::O) H'->E x H'):ab tab R k dy [.ref p,.ref a] H Q E:=by
 refine wc (d:=dm) nofun rfl rfl ?_;right;refine BL (O:=pt p (.ins (R.cad au) dx [])::pt dx (.own p)::O) ro nofun (s.sub (by ac_nf)) (λhb H hs=>?_) (λat' hb x H hs=>?_)
 ·have hl:=Cj hb;right;rename_i l H1 hs1 H2 hs2 m H3 hs3 w H4 hs4 H5 hs5;rw[vf] at hs5;exact q0 hb _ (eA (hs5.sub (by ac_nf)))
 ·exact q1 at' hb x H (hs.sub (by ac_nf))
def iB {p:Addr}{cs ws:List V}(s:Sep O H)(h:af (a8 C p cs ws) O Δ):∃ dx a b,H p=some (.ins C dx [("contents",.ref a),("permits",.ref b)]):=by
 obtain ⟨dx,a,b,hs⟩:=bY (s.pull h);exact ⟨dx,a,b,hs.at⟩
def ya {p:Addr}{cs ws:List V}(hk:1<=k)(s:Sep (a8 (R.cad au) p cs ws::O) H)(q:Q (.int cs.length) H):ab tab R k gB [.ref p] H Q E:=by
 obtain ⟨dx,a,b,hs⟩:=bY s;refine wc (d:=iu) nofun rfl rfl ?_;right;exact q
def FZ {p:Addr}{cs ws:List V}(hk:1<=k)(s:Sep (a8 (R.cad au) p cs ws::O) H)(q:∀ l H',Sep (pt l (.lst cs)::a8 (R.cad au) p cs ws::O) H'->Q (.ref l) H'):ab tab R k gz [.ref p] H Q E:=by
 obtain ⟨dx,a,b,hs⟩:=bY s;refine wc (d:=gO) nofun rfl rfl ?_;right;rename_i l H1 hs1;exact q l H1 ((eA (hs1.sub (by ac_nf))).pull (.there .here))
def aI {xs:List α}{x:α}(h0:0<=i)(hx:xs[i.toNat]? =some x):lL xs i=some x:=by
 have h:=L2.pd hx
 rwa [Int.toNat_of_nonneg h0] at h
abbrev ah (ws:List Str)(d:Str)(i:Int):Bool:=decide (0<=i)&&(decide (i<ws.length)&&(match ws[i.toNat]? with
 |some w=>if w="look" then d =="look" else w =="open"
 |none=>false))
def ak {d:Str}(h:ah ws d i=true):0<=i/\i<ws.length:=by
 unfold ah at h;rw[Bool.and_eq_true,Bool.and_eq_true,decide_eq_true_eq,decide_eq_true_eq] at h;exact ⟨h.1,h.2.1⟩
def yW {p:Addr}{cs:List V}{d:Str}(hk:2<=k)(s:Sep (a8 (R.cad au) p cs (ws.map V.str)::O) H)(hl:cs.length=ws.length)(q:Q (.bl (ah ws d i)) H):ab tab R k i9 [.ref p,.str d,.int i] H Q E:=by
 refine wc (d:=i3) nofun rfl rfl ?_;right;refine ax (λh0=>?_) (λh0=>?_)
 ·obtain ⟨dx,a,b,e⟩:=iB s .here;right;refine ⟨_,au,_,_,_,rfl,e,rfl,rfl,?_⟩;left;refine ya nofun s ?_;right;refine ax (λh1=>?_) (λh1=>?_)
  ·obtain ⟨dx,a,b,hs⟩:=bY s;have h2:i.toNat<ws.length:=by omega
   have e1:ws[i.toNat]? =some ws[i.toNat]:=getElem?_eq_getElem h2;generalize ws[i.toNat]=w at e1;have e2:(ws.map V.str)[i.toNat]? =some (.str w):=by rw[getElem?_map,e1];rfl
   have e3:ah ws d i=(if w="look" then d =="look" else w =="open"):=by
    unfold ah;rw[e1,decide_eq_true h0,decide_eq_true (by omega:i<ws.length)]
    rfl
   rw[e3] at q;right;refine aL (by grind) (aI h0 e2) ?_;right;refine cG (λhw=>?_) (λhw=>?_)
   ·have hw:w="look":=by simpa [d4] using hw
    rw[if_pos hw] at q;right;exact q
   ·have hw:¬ w="look":=by simpa [d4] using hw
    rw[if_neg hw] at q;right;refine aL (by grind) (aI h0 e2) ?_;right;exact q
  ·have e3:ah ws d i=false:=by
    unfold ah;rw[decide_eq_false (by omega:¬ i<ws.length),Bool.false_and,Bool.and_false]
   rw[e3] at q;right;exact q
 ·have e3:ah ws d i=false:=by
   unfold ah;rw[decide_eq_false h0,Bool.false_and]
  rw[e3] at q;right;exact q
def fh {x:Addr}{w:V}(hk:1<=k)(s:Sep (pt x (.exc (R.cad aX) none [] true)::O) H)(q:∀ d H',Sep (pt x (.exc (R.cad aX) (some d) [("deed",v),("cell",w)] true)::pt d (.own x)::O) H'->Q .non H'):ab tab R k jL [.ref x,v,w] H Q E:=by
 refine wc (d:=dS) nofun rfl rfl ?_;right;refine ⟨_,aX,_,_,_,_,rfl,by grind,rfl,?_⟩;right;refine ve s rfl rfl (λd H hs=>?_);right;refine ID hs (by ac_rfl) rfl rfl (Nat.le_of_ble_eq_true rfl) rfl (λH hs=>?_);right;exact q d H hs
def E5 {p:Addr}{cs:List V}(hk:3<=k)(s:Sep (a8 (R.cad au) p cs (ws.map V.str)::O) H)(hl:cs.length=ws.length)(q0:ah ws "look" i=true->∀ x,cs[i.toNat]? =some x->Q x H)
  (q1:ah ws "look" i=false->∀ x H',Sep (j4 (R.cad aX) [("deed",.str "look"),("cell",.int i)] x false::a8 (R.cad au) p cs (ws.map V.str)::O) H'->E x H'):ab tab R k ie [.ref p,.int i] H Q E:=by
 refine wc (d:=gH) nofun rfl rfl ?_;obtain ⟨dx,a,b,e⟩:=iB s .here;right;refine ⟨_,au,_,_,_,rfl,e,rfl,rfl,?_⟩;left;refine yW nofun s hl ?_;right;refine cG (λhm=>?_) (λhm=>?_)
 ·obtain ⟨h0,h1⟩:=ak hm;obtain ⟨dx,a,b,hs⟩:=bY s;have h2:i.toNat<cs.length:=by omega
  have e1:cs[i.toNat]? =some cs[i.toNat]:=getElem?_eq_getElem h2;right;refine aL (by grind) (aI h0 e1) ?_;exact q0 hm _ e1
 ·right;intro x hx;refine fh nofun (s.new hx) (λd H hs=>?_);right;refine eG hs (by ac_rfl) rfl (λH hs=>?_);exact q1 hm x H (jw hs)
def Ij {p:Addr}{cs:List V}(hk:3<=k)(s:Sep (a8 (R.cad au) p cs (ws.map V.str)::O) H)(hl:cs.length=ws.length)(q0:ah ws "put" i=true->∀ H',Sep (a8 (R.cad au) p (cs.set i.toNat v) (ws.map V.str)::O) H'->Q .non H')
  (q1:ah ws "put" i=false->∀ x H',Sep (j4 (R.cad aX) [("deed",.str "put"),("cell",.int i)] x false::a8 (R.cad au) p cs (ws.map V.str)::O) H'->E x H'):ab tab R k ji [.ref p,.int i,v] H Q E:=by
 refine wc (d:=ju) nofun rfl rfl ?_;obtain ⟨dx,a,b,e⟩:=iB s .here;right;refine ⟨_,au,_,_,_,rfl,e,rfl,rfl,?_⟩;left;refine yW nofun s hl ?_;right;refine cG (λhm=>?_) (λhm=>?_)
 ·obtain ⟨h0,h1⟩:=ak hm;obtain ⟨dx,a,b,hs⟩:=bY s;right;refine fW hs (by ac_rfl) (dJ h0 nofun) rfl (λH hs=>?_);right;exact q0 hm H (eA hs)
 ·right;intro x hx;refine fh nofun (s.new hx) (λd H hs=>?_);right;refine eG hs (by ac_rfl) rfl (λH hs=>?_);exact q1 hm x H (jw hs)
abbrev cX (n:Nat):V->V->Bool
 | .int a,.int b=>decide (0<=a)&&(decide (a<=b)&&decide (b<=n))
 |_,_=>false
def rO {w:V}{u:String}(hk:2<=k)(ht:tyName v H=some t)(hu:tyName w H=some u)(q:Q (.bl (cX n v w)) H):ab tab R k rA [v,w,.int n] H Q E:=by
 refine wc (d:=ja) nofun rfl rfl ?_;right;refine aF nofun ht ?_;cases dC ht
 case int i=>
  right;refine aF nofun hu ?_;cases dC hu
  case int j=>
   right;refine ax (λh0=>?_) (λh0=>?_)
   ·right;refine ax (λh1=>?_) (λh1=>?_)
    ·right;have e:cX n (.int i) (.int j)=decide (j<=n):=by simp[cX,h0,h1]
     rw[e] at q;exact q
    ·right;have e:cX n (.int i) (.int j)=false:=by simp[cX,h1]
     rw[e] at q;exact q
   ·right;have e:cX n (.int i) (.int j)=false:=by simp[cX,h0]
    rw[e] at q;exact q
  all_goals
   right;exact q
 all_goals
  right;exact q
def gG:(10:Int) ^ Int.toNat 9=1000000000:=by decide
local macro_rules| `(tactic|walk_at "dr")=>`(tactic|(refine' n8 ?k ?s ?m ?a ?b (λr H hr0 hr1 hs=>?_);(case s=>walk_at "sp");(case k=>exact nofun);(case m=>omega);(case a=>walk_at "ar");(case b=>walk_at "ar")))
local macro_rules| `(tactic|walk_at "gd")=>`(tactic|(walk_at "w";repeat (first|(walk_at "st";walk_at "w")|(walk_at "dr";walk_at "w"))))
abbrev c7 (ns:List Int):Prop:=∀ i ∈ ns,0<=i/\i<=1000000000
def tD (h:c7 ns)(h0:0<=i)(h1:i<=1000000000):c7 (ns++[i]):=λj hj=>by
 rcases mem_append.mp hj with hj|hj
 ·exact h j hj
 ·rw[mem_singleton.mp hj];exact ⟨h0,h1⟩
def vQ (h:c7 ns)(h0:0<=i)(h1:i<=1000000000):c7 (ns.set n i):=λj hj=>by
 rcases mem_or_eq_of_mem_set hj with hj|rfl
 ·exact h j hj
 ·exact ⟨h0,h1⟩
abbrev bx (f:α->List ay):ay:=⟨λH D=>∃ x,bw (f x) H D,λH H' D ⟨x,h⟩ k t=>⟨x,bw.st h k t⟩,λH D D' ⟨x,h⟩ k=>⟨x,bw.up h k⟩⟩
def g8:∀ {O Δ:List ay}{D:Addr->Prop},bw (O++Δ) H D ↔ ∃ D1 D2:Addr->Prop,(∀ a,D1 a->D a)/\(∀ a,D2 a->D a)/\(∀ a,D1 a->D2 a->False)/\bw O H D1/\bw Δ H D2
 | [],Δ,D=>⟨λh=>⟨λ_=>False,D,λ_ z=>z.elim,λ_ z=>z,λ_ z _=>z,True.intro,h⟩,λ⟨_,_,_,s2,_,_,h⟩=>bw.up h s2⟩
 |A::O,Δ,D=>by
  constructor
  ·rintro ⟨E1,E2,s1,s2,dj,hA,h⟩;obtain ⟨F1,F2,t1,t2,dk,h1,h2⟩:=g8.mp h;refine ⟨λa=>E1 a\/F1 a,F2,λa z=>z.elim (s1 a) λz=>s2 a (t1 a z),λa z=>s2 a (t2 a z),λa z w=>z.elim (λz=>dj a z (t2 a w)) λz=>dk a z w,?_,h2⟩;exact ⟨E1,F1,λa z=>.inl z,λa z=>.inr z,λa z w=>dj a z (t1 a w),hA,h1⟩
  ·rintro ⟨D1,D2,s1,s2,dj,⟨E1,E2,t1,t2,dk,hA,h1⟩,h2⟩;refine ⟨E1,λa=>E2 a\/D2 a,λa z=>s1 a (t1 a z),λa z=>z.elim (λz=>s1 a (t2 a z)) (s2 a),λa z w=>w.elim (dk a z) λw=>dj a (t1 a z) w,hA,?_⟩;exact g8.mpr ⟨E2,D2,λa z=>.inl z,λa z=>.inr z,λa z w=>dj a (t2 a z) w,h1,h2⟩
def iT {f:α->List ay}(s:Sep (bx f::O) H):∃ x,Sep (f x++O) H:=by
 obtain ⟨D,k,D1,D2,s1,s2,dj,⟨x,h1⟩,h2⟩:=s;exact ⟨x,D,k,g8.mpr ⟨D1,D2,s1,s2,dj,h1,h2⟩⟩
def hJ {f:α->List ay}(x:α)(s:Sep (f x++O) H):Sep (bx f::O) H:=by
 obtain ⟨D,k,h⟩:=s;obtain ⟨D1,D2,s1,s2,dj,h1,h2⟩:=g8.mp h;exact ⟨D,k,D1,D2,s1,s2,dj,⟨x,h1⟩,h2⟩
abbrev pS:List Str:=["here","there","left","way","sign","met"]
abbrev wb:List Key:=[.inr "here",.inr "there",.inr "left",.inr "way",.inr "sign",.inr "met"]
abbrev fm:V->Bool
 | .int i=>decide (-1000000000<=i)&&decide (i<=1000000000)
 |_=>false
abbrev mh (a b:Int):V->Bool
 | .int i=>i ==a||i ==b
 |_=>false
abbrev bz:Nat->V->Bool
 |0,v=>fm v
 |1,v=>fm v
 |3,v=>mh 1 (-1) v
 |5,v=>mh 0 1 v
 |_,v=>fH v
def eC (ro:Ro K R)(hk:2<=k)(ht:tyName v H=some t)(q:Q (.bl (fm v)) H):ab tab R k qJ [v] H Q E:=by
 refine wc (d:=jA) nofun rfl rfl ?_;right;refine aF nofun ht ?_;cases dC ht
 case int i=>
  left;refine aN rfl ?_;left;simp only[ro.g_BOUND];right;refine ax (λh0=>?_) (λh0=>?_)
  ·left;simp only[ro.g_BOUND];right;have e:fm (.int i)=decide (i<=1000000000):=by simp[fm,h0]
   rw[e] at q;exact q
  ·right;have e:fm (.int i)=false:=by simp[fm,h0]
   rw[e] at q;exact q
 all_goals
  right;exact q
def kh {j:Nat}{x:Str}(h:pS[j]? =some x):(j=0/\x="here")\/(j=1/\x="there")\/(j=2/\x="left")\/(j=3/\x="way")\/(j=4/\x="sign")\/(j=5/\x="met"):=by
 rcases j with _|_|_|_|_|_|j
 ·cases h;exact .inl ⟨rfl,rfl⟩
 ·cases h;exact .inr (.inl ⟨rfl,rfl⟩)
 ·cases h;exact .inr (.inr (.inl ⟨rfl,rfl⟩))
 ·cases h;exact .inr (.inr (.inr (.inl ⟨rfl,rfl⟩)))
 ·cases h;exact .inr (.inr (.inr (.inr (.inl ⟨rfl,rfl⟩))))
 ·cases h;exact .inr (.inr (.inr (.inr (.inr ⟨rfl,rfl⟩))))
 ·exact absurd h (by simp[pS])
local macro_rules| `(tactic|walk_at "sc")=>`(tactic|first|(refine aN (by decide+kernel) ?_;walk_at "go")|(refine ar (by decide+kernel) ?_;walk_at "go"))
def sU {j:Nat}{x:Str}(ro:Ro K R)(hk:3<=k)(hj:pS[j]? =some x)(ht:tyName v H=some t)(q:Q (.bl (bz j v)) H):ab tab R k EI [.str x,v] H Q E:=by
 refine wc (d:=zU) nofun rfl rfl ?_;rcases kh hj with ⟨rfl,rfl⟩|⟨rfl,rfl⟩|⟨rfl,rfl⟩|⟨rfl,rfl⟩|⟨rfl,rfl⟩|⟨rfl,rfl⟩
 all_goals right
 all_goals repeat walk_at "sc"
 ·exact eC ro nofun ht q
 ·exact eC ro nofun ht q
 ·exact cw ro nofun ht q
 ·refine aF nofun ht ?_;cases dC ht
  case int i=>
   right;refine aB (λh0=>?_) (λh0=>?_)
   ·right;have e:bz 3 (.int i)=true:=by simp[bz,mh,h0]
    rw[e] at q;exact q
   ·right;have e:bz 3 (.int i)=(i == -1):=by simp[bz,mh,h0]
    rw[e] at q;exact q
  all_goals
   right;exact q
 ·exact cw ro nofun ht q
 ·refine aF nofun ht ?_;cases dC ht
  case int i=>
   right;refine aB (λh0=>?_) (λh0=>?_)
   ·right;have e:bz 5 (.int i)=true:=by simp[bz,mh,h0]
    rw[e] at q;exact q
   ·right;have e:bz 5 (.int i)=(i ==1):=by simp[bz,mh,h0]
    rw[e] at q;exact q
  all_goals
   right;exact q
abbrev boxes (R:Rt)(b:Addr)(ns:List Int):ay:=bx λx:Addr×Addr=>[pt b (.ins (R.cad bX) x.1 [("numbers",.ref x.2)]),pt x.1 (.own b),pt x.2 (.dK (wb.zip (ns.map V.int))),pu (ns.length=6)]
def gL {b:Addr}(s:Sep (boxes R b ns::O) H):∃ dx d,ns.length=6/\Sep (pt b (.ins (R.cad bX) dx [("numbers",.ref d)])::pt dx (.own b)::pt d (.dK (wb.zip (ns.map V.int)))::O) H:=by
 obtain ⟨⟨dx,d⟩,s⟩:=iT s;have s:Sep (pt b (.ins (R.cad bX) dx [("numbers",.ref d)])::pt dx (.own b)::pt d (.dK (wb.zip (ns.map V.int)))::pu (ns.length=6)::O) H:=s;have p:=(s.pull (.there (.there (.there .here)))).pure;exact ⟨dx,d,p,(s.pull (.there (.there (.there .here)))).drop⟩
def hR {b:Addr}(hn:ns.length=6)(s:Sep (pt b (.ins (R.cad bX) dx [("numbers",.ref d)])::pt dx (.own b)::pt d (.dK (wb.zip (ns.map V.int)))::O) H):Sep (boxes R b ns::O) H:=
 hJ (dx,d) (Sep.push (.there (.there (.there .here))) (Sep.tS hn s))
def six {ns:List α}(h:ns.length=6):∃ a b c d e f,ns=[a,b,c,d,e,f]:=by
 match ns,h with
 | [a,b,c,d,e,f],_=>exact ⟨a,b,c,d,e,f,rfl⟩
def uQ {j:Nat}{x:Str}(hn:ns.length=6)(hj:pS[j]? =some x):∃ i,ns[j]? =some i/\jH (wb.zip (ns.map V.int)) (.inr x)=some (.int i):=by
 obtain ⟨a,b,c,d,e,f,rfl⟩:=six hn;rcases kh hj with ⟨rfl,rfl⟩|⟨rfl,rfl⟩|⟨rfl,rfl⟩|⟨rfl,rfl⟩|⟨rfl,rfl⟩|⟨rfl,rfl⟩<;>exact ⟨_,rfl,rfl⟩
def BN {b:Addr}(ro:Ro K R)(hk:1<=k)(s:Sep (boxes R b ns::O) H)(q:∀ t H',Sep (tu t (ns.map V.int)::boxes R b ns::O) H'->Q (.ref t) H'):ab tab R k gp [.ref b] H Q E:=by
 obtain ⟨dx,d,hn,s⟩:=gL s;refine wc (d:=ir) nofun rfl rfl ?_;right;obtain ⟨a,hg,hS⟩:=ro.g_NAMES;simp only[hg];rw[<-ro.hK] at hS;right;refine Jr (hS H) ?_;refine GQ (xs:=pS.map V.str) (Nat.le_of_ble_eq_true rfl) (λD ys H=>ys=(ns.map V.int).take ys.length/\Sep (pt D (.lst ys)::pt b (.ins (R.cad bX) dx [("numbers",.ref d)])::pt dx (.own b)::pt d (.dK (wb.zip (ns.map V.int)))::O) H) ?_ ?_ ?_ ?_
 ·intro D ys H _;exact hS H
 ·intro D hD;exact ⟨rfl,s.new hD⟩
 ·rintro D ys x H' hx ⟨e,hs⟩;rw[getElem?_map] at hx;obtain ⟨z,hz,rfl⟩:=Option.map_eq_some_iff.mp hx;obtain ⟨i,h1,h2⟩:=uQ hn hz;right;refine pR (k:=.inr z) (by grind) h2 ?_;have hlt:=(List.getElem?_eq_some_iff.mp h1).1;refine pj.mk (by grind) nofun ⟨?_,?_⟩
  ·have e2:(ns.map V.int)[ys.length]? =some (.int i):=by rw[getElem?_map,h1];rfl
   rw[length_append,length_singleton,take_succ,e2]
   conv=>lhs;rw[e]
   rfl
  ·exact hs.set rfl
 ·rintro D ys H' hl ⟨e,hs⟩;have e2:ys=ns.map V.int:=by
   rw[e,hl];rw[take_of_length_le];simp[pS,hn]
  subst e2;right;refine GL hs (by grind) (λp H hs=>?_);right;refine q p H ?_;refine Sep.pull (.there .here) (hR (dx:=dx) (d:=d) hn ?_);walk_at "sp"
def uf {x:Addr}(ro:Ro K R)(hk:4<=k)(hn:ns.length=6)(hf:∀ (j:Nat) i,ns[j]? =some i->bz j (.int i)=true) (s:Sep (pt x (.ins (R.cad bX) dx [])::pt dx (.own x)::O) H) (q:∀ H',Sep (boxes R x ns::O) H'->Q .non H'):
  ab tab R k bS (.ref x::ns.map V.int) H Q E:=by
 obtain ⟨a0,a1,a2,a3,a4,a5,rfl⟩:=six hn;refine wc (d:=dg) nofun rfl rfl ?_;right;rename_i p H1 hs1;obtain ⟨na,hg,hS⟩:=ro.g_NAMES;simp only[hg];rw[<-ro.hK] at hS;right;refine FU (tp1:=true) (tp2:=true) (xs:=pS.map V.str) (ys:=[V.int a0,V.int a1,V.int a2,V.int a3,V.int a4,V.int a5]) (hS _) (aZ.of hs1.at) ?_;refine ui (xs:=pS.map V.str) (ys:=[V.int a0,V.int a1,V.int a2,V.int a3,V.int a4,V.int a5]) (λj U H=>∃ v w,U=[some (.ref x),some (.int a0),some (.int a1),some (.int a2),some (.int a3),some (.int a4),some (.int a5),some (.ref p),v,w]/\Sep (pt p (.tup [.int a0,.int a1,.int a2,.int a3,.int a4,.int a5])::pt x (.ins (R.cad bX) dx [])::pt dx (.own x)::O) H) rfl ?_ ?_ ?_ ?_
 ·exact ⟨none,none,rfl,hs1⟩
 ·rintro j U H ⟨v,w,rfl,hs⟩;exact ⟨hS _,aZ.of hs.at⟩
 ·rintro j y z T U H hy hz ⟨v,w,rfl,hs⟩ hT;rw[getElem?_map] at hy;obtain ⟨nm,hnm,rfl⟩:=Option.map_eq_some_iff.mp hy;obtain ⟨i,hi,rfl⟩:∃ i,([a0,a1,a2,a3,a4,a5]:List Int)[j]? =some i/\z=.int i:=by
   have hz':(([a0,a1,a2,a3,a4,a5]:List Int).map V.int)[j]? =some z:=hz;rw[getElem?_map] at hz';obtain ⟨i,h1,h2⟩:=Option.map_eq_some_iff.mp hz';exact ⟨i,h1,h2.symm⟩
  have hs2:=hs.g6 (xs:=[.str nm,.int i]) hT;left;refine ⟨T,_,rfl,.inl (aZ.of hs2.atT),rfl,?_⟩;right;refine sU ro nofun hnm rfl ?_;rw[hf j i hi];right;exact ⟨_,_,rfl,hs2.drop⟩
 ·rintro U H ⟨v,w,rfl,hs⟩;right;simp only[hg];right;refine IX (tp1:=true) (tp2:=true) (ks:=wb) (ys:=([a0,a1,a2,a3,a4,a5]:List Int).map V.int) hs (hS _) (aZ.of hs.at) (by decide+kernel) rfl (Nat.le_of_ble_eq_true rfl) (λd H2 hs2=>?_);right;rename_i H3 hs3;refine q _ ?_;refine hR (dx:=dx) (d:=d) rfl ?_;walk_at "sp"
def Ae {j:Nat}{x:Str}(ro:Ro K R)(hk:1<=k)(hj:pS[j]? =some x)(q:Q (.bl true) H):ab tab R k qk [.str x] H Q E:=by
 refine wc (d:=lH) nofun rfl rfl ?_;right;obtain ⟨a,hg,hs⟩:=ro.g_NAMES;simp only[hg];have hs':=hs H;rw[<-ro.hK] at hs';right;refine gi hs' rfl rfl ?_;rcases kh hj with ⟨rfl,rfl⟩|⟨rfl,rfl⟩|⟨rfl,rfl⟩|⟨rfl,rfl⟩|⟨rfl,rfl⟩|⟨rfl,rfl⟩<;>exact q
def dE {b:Addr}{j:Nat}{x:Str}(ro:Ro K R)(hk:2<=k)(s:Sep (boxes R b ns::O) H)(hj:pS[j]? =some x)(hi:ns[j]? =some i)(q:Q (.int i) H):ab tab R k aJ [.ref b,.str x] H Q E:=by
 obtain ⟨dx,d,hn,s⟩:=gL s;refine wc (d:=fU) nofun rfl rfl ?_;right;refine Ae ro nofun hj ?_;right;obtain ⟨i',h1,h2⟩:=uQ hn hj;rw[hi] at h1;cases h1;exact pR (k:=.inr x) (by grind) h2 q
def wm {b:Addr}(ro:Ro K R)(hk:5<=k)(s:Sep (boxes R b ns::O) H)(q:∀ c H',Sep (boxes R c ns::boxes R b ns::O) H'->Q (.ref c) H'):ab tab R k eE [.ref b] H Q E:=by
 refine wc (d:=eY) nofun rfl rfl ?_;right;intro x dx h1 h2 h3;refine uf (ns:=[0,0,0,1,0,0]) ro nofun rfl ?_ (gk s h1 h2 h3) (λH1 hs1=>?_)
 ·intro j i hi;rcases j with _|_|_|_|_|_|j<;>first|(cases hi;rfl)|exact absurd hi (by simp)
 refine ⟨rfl,?_⟩;obtain ⟨dx1,d1,hn1,hs2⟩:=gL hs1;obtain ⟨dx2,d2,hn2,hs3⟩:=gL (hs2.pull (.there (.there (.there .here))));right;refine vi hs3 (by grind) (λd3 H3 hs4=>?_);right;rename_i H4 hs5;refine q _ _ ?_;refine hR (dx:=dx1) (d:=d3) hn2 ?_;refine Sep.push (.there (.there (.there .here))) (hR (dx:=dx2) (d:=d2) hn2 ?_);walk_at "sp"
def qT (hk:1<=k)(ht:tyName v H=some t)(q:Q (.bl (pB v)) H):ab tab R k nQ [v] H Q E:=by
 refine wc (d:=gq) nofun rfl rfl ?_;right;cases dC ht
 all_goals
  refine cn ht rfl ?_;right
  first
   |exact q
   |(refine cn ht rfl ?_;right;exact q)
def gW {x:Addr}{w:V}(hk:1<=k)(s:Sep (pt x (.exc (R.cad cz) none [] true)::O) H)(q:∀ d H',Sep (pt x (.exc (R.cad cz) (some d) [("box",v),("number",w)] true)::pt d (.own x)::O) H'->Q .non H'):ab tab R k iH [.ref x,v,w] H Q E:=by
 refine wc (d:=dv) nofun rfl rfl ?_;right;refine ⟨_,cz,_,_,_,_,rfl,by grind,rfl,?_⟩;right;refine ve s rfl rfl (λd H hs=>?_);right;refine ID hs (by ac_rfl) rfl rfl (Nat.le_of_ble_eq_true rfl) rfl (λH hs=>?_);right;exact q d H hs
abbrev HW:V->Bool
 | .str x=>G2 (.str x) (pS.map V.str)
 |_=>false
def og (ro:Ro K R)(hk:1<=k)(ht:tyName v H=some t)(q:Q (.bl (HW v)) H):ab tab R k qk [v] H Q E:=by
 refine wc (d:=lH) nofun rfl rfl ?_;right;obtain ⟨a,hg,hs⟩:=ro.g_NAMES;have hs':=hs H;rw[<-ro.hK] at hs';cases dC ht
 case str x=>
  refine cn ht rfl ?_;left;refine aN rfl ?_;left;simp only[hg];right;exact gi hs' rfl rfl q
 all_goals
  refine cn ht rfl ?_;right;exact q
def rZ {j:Nat}{x:Str}(hj:pS[j]? =some x):HW (.str x)=true:=by
 rcases kh hj with ⟨rfl,rfl⟩|⟨rfl,rfl⟩|⟨rfl,rfl⟩|⟨rfl,rfl⟩|⟨rfl,rfl⟩|⟨rfl,rfl⟩<;>rfl
def uY {j:Nat}{x:Str}(hn:ns.length=6)(hj:pS[j]? =some x):putK (wb.zip (ns.map V.int)) (.inr x) (.int i)=wb.zip ((ns.set j i).map V.int):=by
 obtain ⟨a,b,c,d,e,f,rfl⟩:=six hn;rcases kh hj with ⟨rfl,rfl⟩|⟨rfl,rfl⟩|⟨rfl,rfl⟩|⟨rfl,rfl⟩|⟨rfl,rfl⟩|⟨rfl,rfl⟩<;>rfl
def Fu {b:Addr}{j:Nat}{x:Str}(ro:Ro K R)(hk:4<=k)(s:Sep (boxes R b ns::O) H)(hj:pS[j]? =some x)(hf:bz j (.int i)=true)(q:∀ H',Sep (boxes R b (ns.set j i)::O) H'->Q .non H'):ab tab R k aH [.ref b,.str x,.int i] H Q E:=by
 obtain ⟨dx,d,hn,s⟩:=gL s;refine wc (d:=dG) nofun rfl rfl ?_;right;refine og (t:="str") ro nofun rfl ?_;rw[rZ hj];right;refine sU ro nofun hj rfl ?_;rw[hf];right;refine uO (k:=.inr x) (kvs':=wb.zip ((ns.set j i).map V.int)) s (by ac_rfl) (by rw[length_zip,length_map,hn];decide) (uY hn hj) (λH1 hs1=>?_);right;exact q H1 (hR (by rw[length_set];exact hn) hs1)
def sA {b:Addr}{j:Nat}{x:Str}(ro:Ro K R)(hk:4<=k)(s:Sep (boxes R b ns::O) H)(hj:pS[j]? =some x)(ht:tyName v H=some t)(hf:bz j v=false)(q:∀ e d H',Sep (pt e (.exc (R.cad cz) (some d) [("box",.str x),("number",v)] false)::pt d (.own e)::boxes R b ns::O) H'->E e H'):ab tab R k aH [.ref b,.str x,v] H Q E:=by
 refine wc (d:=dG) nofun rfl rfl ?_;right;refine og (t:="str") ro nofun rfl ?_;rw[rZ hj];right;refine sU ro nofun hj ht ?_;rw[hf];right;intro e he;refine gW nofun (s.new he) (λd H3 hs3=>⟨rfl,?_⟩);exact eG (G:=⟨tab,R,ab tab R (k-1),true⟩) hs3 .here rfl (λH4 hs4=>q e d H4 hs4)
abbrev Ob (R:Rt)(A:ay)(b:Addr)(i:Nat)(fl:List Str):Prop:=∀ H D,A.p H D->∃ dx fs,H b=some (.ins (R.cad i) dx fs)/\fs.map (·.1)=fl
def uE {m:Str}:∀ {fs:List (Str×V)},(fs.map (·.1)).all (λx=>!(m ==x))=true->fs.lookup m=none
 | [],_=>rfl
 |(x,v)::fs,h=>by
  simp only[map_cons,all_cons,Bool.and_eq_true] at h;have h1:(m ==x)=false:=by simpa using h.1
  rw[lookup_cons,h1];exact uE h.2
def ae {G:Gx}{b:Addr}{i f:Nat}{fl:List Str}{m:Str}{X:Nat->Prop}(o:Ob G.R A b i fl)(s:Sep O H)(p:af A O Δ)(hm:fl.all (λx=>!(m ==x))=true) (hf:G.T.me.lookup (i,m)=some f) (h:X f):
  ∃ p' i' dx fs f',V.ref b=.ref p'/\H p'=some (.ins (G.R.cad i') dx fs)/\fs.lookup m=none/\G.T.me.lookup (i',m)=some f'/\X f':=by
 obtain ⟨D,k,D1,D2,s1,s2,dj,h1,h2⟩:=s.pull p;obtain ⟨dx,fs,e1,e2⟩:=o H D1 h1;exact ⟨b,i,dx,fs,f,rfl,e1,uE (e2▸hm),hf,h⟩
structure Bx where
 h:Int
 t:Int
 l:Int
 w:Int
 s:Int
 m:Int
abbrev Bx.ls (x:Bx):List Int:=[x.h,x.t,x.l,x.w,x.s,x.m]
abbrev Bx.ok (x:Bx):Prop:=(-1000000000<=x.h/\x.h<=1000000000)/\(-1000000000<=x.t/\x.t<=1000000000)/\(0<=x.l/\x.l<=1000000000)/\(x.w=1\/x.w= -1)/\(0<=x.s/\x.s<=1000000000)/\(x.m=0\/x.m=1)
abbrev aM (R:Rt)(b:Addr)(x:Bx):ay:=bx λ_:Unit=>[boxes R b x.ls,pu x.ok]
variable {x:Bx}
def dU {b:Addr}(s:Sep (aM R b x::O) H):x.ok/\Sep (boxes R b x.ls::O) H:=by
 obtain ⟨_,s⟩:=iT s;have s:Sep (boxes R b x.ls::pu x.ok::O) H:=s;exact ⟨(s.pull (.there .here)).pure,(s.pull (.there .here)).drop⟩
def mJ {b:Addr}(hx:x.ok)(s:Sep (boxes R b x.ls::O) H):Sep (aM R b x::O) H:=hJ () (Sep.push (.there .here) (Sep.tS hx s))
def kR {b:Addr}(s:Sep O H)(p:af (aM R b x) O Δ):x.ok:=(dU (s.pull p)).1
def ba {b:Addr}:Ob R (aM R b x) b bX ["numbers"]:=by
 rintro H D ⟨_,D1,D2,_,_,_,⟨⟨dx,d⟩,E1,E2,_,_,_,⟨_,h⟩,_⟩,_⟩;exact ⟨dx,_,h,rfl⟩
def GK (h:x.ok):∀ (j:Nat) i,x.ls[j]? =some i->bz j (.int i)=true:=by
 obtain ⟨⟨h1,h2⟩,⟨h3,h4⟩,⟨h5,h6⟩,h7,⟨h8,h9⟩,h10⟩:=h;intro j i hi;rcases j with _|_|_|_|_|_|j
 ·cases hi;simp[bz,fm,h1,h2]
 ·cases hi;simp[bz,fm,h3,h4]
 ·cases hi;simp[bz,fH,h5,h6]
 ·cases hi;rcases h7 with e|e<;>rw[e]<;>rfl
 ·cases hi;simp[bz,fH,h8,h9]
 ·cases hi;rcases h10 with e|e<;>rw[e]<;>rfl
 ·exact absurd hi (by simp[Bx.ls])
def vh (h: -1000000000<=i/\i<=1000000000):fm (.int i)=true:=by simp[fm,h.1,h.2]
def ud (h:0<=i/\i<=1000000000):fH (.int i)=true:=by simp[fH,h.1,h.2]
section
variable {b:Addr}{h t l w s m i:Int}
def Jp (ro:Ro K R)(hk:2<=k)(z:Sep O H)(p:af (aM R b ⟨h,t,l,w,s,m⟩) O Δ)(q:Q (.int h) H):ab tab R k aJ [.ref b,.str "here"] H Q E:=dE (j:=0) ro hk (dU (z.pull p)).2 rfl rfl q
def Jt (ro:Ro K R)(hk:2<=k)(z:Sep O H)(p:af (aM R b ⟨h,t,l,w,s,m⟩) O Δ)(q:Q (.int t) H):ab tab R k aJ [.ref b,.str "there"] H Q E:=dE (j:=1) ro hk (dU (z.pull p)).2 rfl rfl q
def EN (ro:Ro K R)(hk:2<=k)(z:Sep O H)(p:af (aM R b ⟨h,t,l,w,s,m⟩) O Δ)(q:Q (.int l) H):ab tab R k aJ [.ref b,.str "left"] H Q E:=dE (j:=2) ro hk (dU (z.pull p)).2 rfl rfl q
def Es (ro:Ro K R)(hk:2<=k)(z:Sep O H)(p:af (aM R b ⟨h,t,l,w,s,m⟩) O Δ)(q:Q (.int w) H):ab tab R k aJ [.ref b,.str "way"] H Q E:=dE (j:=3) ro hk (dU (z.pull p)).2 rfl rfl q
def Ku (ro:Ro K R)(hk:2<=k)(z:Sep O H)(p:af (aM R b ⟨h,t,l,w,s,m⟩) O Δ)(q:Q (.int s) H):ab tab R k aJ [.ref b,.str "sign"] H Q E:=dE (j:=4) ro hk (dU (z.pull p)).2 rfl rfl q
def Ik (ro:Ro K R)(hk:2<=k)(z:Sep O H)(p:af (aM R b ⟨h,t,l,w,s,m⟩) O Δ)(q:Q (.int m) H):ab tab R k aJ [.ref b,.str "met"] H Q E:=dE (j:=5) ro hk (dU (z.pull p)).2 rfl rfl q
def qa {y:Bx}{j:Nat}{nm:Str}(ro:Ro K R)(hk:4<=k)(z:Sep O H)(r:aV (aM R b x) (aM R b y) O Γ')(hj:pS[j]? =some nm)(hf:bz j (.int i)=true)(hx:x.ls.set j i=y.ls)(hy:x.ok->y.ok)(q:∀ H',Sep Γ' H'->Q .non H'):ab tab R k aH [.ref b,.str nm,.int i] H Q E:=by
 obtain ⟨Δ,h1,h2⟩:=r.bL;obtain ⟨hok,z2⟩:=dU (z.pull h1);refine Fu ro hk z2 hj hf (λH' z3=>q H' (Sep.push h2 (mJ (hy hok) ?_)));rw[hx] at z3;exact z3
def Ie (ro:Ro K R)(hk:4<=k)(z:Sep O H)(r:aV (aM R b ⟨h,t,l,w,s,m⟩) (aM R b ⟨i,t,l,w,s,m⟩) O Γ')(hi: -1000000000<=i/\i<=1000000000)(q:∀ H',Sep Γ' H'->Q .non H'):ab tab R k aH [.ref b,.str "here",.int i] H Q E:=
 qa (j:=0) ro hk z r rfl (vh hi) rfl (λ⟨_,a⟩=>⟨hi,a⟩) q
def Ib (ro:Ro K R)(hk:4<=k)(z:Sep O H)(r:aV (aM R b ⟨h,t,l,w,s,m⟩) (aM R b ⟨h,i,l,w,s,m⟩) O Γ')(hi: -1000000000<=i/\i<=1000000000)(q:∀ H',Sep Γ' H'->Q .non H'):ab tab R k aH [.ref b,.str "there",.int i] H Q E:=
 qa (j:=1) ro hk z r rfl (vh hi) rfl (λ⟨a1,_,a⟩=>⟨a1,hi,a⟩) q
def IG (ro:Ro K R)(hk:4<=k)(z:Sep O H)(r:aV (aM R b ⟨h,t,l,w,s,m⟩) (aM R b ⟨h,t,i,w,s,m⟩) O Γ')(hi:0<=i/\i<=1000000000)(q:∀ H',Sep Γ' H'->Q .non H'):ab tab R k aH [.ref b,.str "left",.int i] H Q E:=
 qa (j:=2) ro hk z r rfl (ud hi) rfl (λ⟨a1,a2,_,a⟩=>⟨a1,a2,hi,a⟩) q
def Kl (ro:Ro K R)(hk:4<=k)(z:Sep O H)(r:aV (aM R b ⟨h,t,l,w,s,m⟩) (aM R b ⟨h,t,l,w,s,i⟩) O Γ')(hi:i=0\/i=1)(q:∀ H',Sep Γ' H'->Q .non H'):ab tab R k aH [.ref b,.str "met",.int i] H Q E:=
 qa (j:=5) ro hk z r rfl (by rcases hi with rfl|rfl<;>rfl) rfl (λ⟨a1,a2,a3,a4,a5,_⟩=>⟨a1,a2,a3,a4,a5,hi⟩) q
def BI (ro:Ro K R)(hk:1<=k)(z:Sep O H)(p:af (aM R b x) O Δ)(q:∀ t H',Sep (tu t (x.ls.map V.int)::O) H'->Q (.ref t) H'):ab tab R k gp [.ref b] H Q E:=by
 obtain ⟨hok,z2⟩:=dU (z.pull p);exact BN ro hk z2 (λt H' z3=>q t H' (Sep.push (.there p) (mJ hok (z3.pull (.there .here)))))
def AO (ro:Ro K R)(hk:4<=k)(hx:x.ok)(z:Sep (pt b (.ins (R.cad bX) dx [])::pt dx (.own b)::O) H)(q:∀ H',Sep (aM R b x::O) H'->Q .non H'):
  ab tab R k bS (.ref b::x.ls.map V.int) H Q E:=uf ro hk rfl (GK hx) z (λH' z2=>q H' (mJ hx z2))
def zZ (ro:Ro K R)(hk:4<=k)(hx:(Bx.mk h t l w s m).ok)(z:Sep (pt b (.ins (R.cad bX) dx [])::pt dx (.own b)::O) H)(q:∀ H',Sep (aM R b ⟨h,t,l,w,s,m⟩::O) H'->Q .non H'):
  ab tab R k bS [.ref b,.int h,.int t,.int l,.int w,.int s,.int m] H Q E:=AO (x:=⟨h,t,l,w,s,m⟩) ro hk hx z q
end
abbrev gt (cs:List Int)(i:Int):Int:=(cs[i.toNat]?).getD 0
def Hs {cs:List Int}{x:Int}(h:cs[i.toNat]? =some x):gt cs i=x:=by unfold gt;rw[h];rfl
def BB {cs:List Int}(h0:0<=i)(h1:i<cs.length):cs[i.toNat]? =some (gt cs i):=by
 unfold gt;rw[getElem?_eq_getElem nofun]
 rfl
def gR {cs:List Int}(h0:0<=i)(h1:i<cs.length):lL (cs.map V.int) i=some (.int (gt cs i)):=aI h0 (by rw[getElem?_map,BB h0 h1];rfl)
def zF {cs:List Int}(hc:c7 cs):0<=gt cs i/\gt cs i<=1000000000:=by
 unfold gt;cases e:cs[i.toNat]? with
 |none=>exact ⟨by decide,by decide⟩
 |some x=>exact hc x (mem_of_getElem? e)
abbrev zq (cs:List Int)(ws:List Str):Prop:=cs.length=ws.length/\1<=cs.length/\cs.length<=60/\c7 cs
abbrev aY (R:Rt)(a:Addr)(cs:List Int)(ws:List Str):ay:=bx λ_:Unit=>[a8 (R.cad au) a (cs.map V.int) (ws.map V.str),pu (zq cs ws)]
def jg {cs:List Int}(s:Sep (aY R a cs ws::O) H):zq cs ws/\Sep (a8 (R.cad au) a (cs.map V.int) (ws.map V.str)::O) H:=by
 obtain ⟨_,s⟩:=iT s;have s:Sep (a8 (R.cad au) a (cs.map V.int) (ws.map V.str)::pu (zq cs ws)::O) H:=s;exact ⟨(s.pull (.there .here)).pure,(s.pull (.there .here)).drop⟩
def kL {cs:List Int}(hx:zq cs ws)(s:Sep (a8 (R.cad au) a (cs.map V.int) (ws.map V.str)::O) H):Sep (aY R a cs ws::O) H:=hJ () (Sep.push (.there .here) (Sep.tS hx s))
def cF {cs:List Int}(s:Sep O H)(p:af (aY R a cs ws) O Δ):zq cs ws:=(jg (s.pull p)).1
def bJ {cs:List Int}:Ob R (aY R a cs ws) a au ["contents","permits"]:=by
 rintro H D ⟨_,D1,D2,_,_,_,⟨⟨dx,c,d⟩,E1,E2,_,_,_,⟨_,h⟩,_⟩,_⟩;exact ⟨dx,_,h,rfl⟩
section
variable {a:Addr}{cs:List Int}{ws:List Str}{i v:Int}
def dH (hk:3<=k)(z:Sep O H)(p:af (aY R a cs ws) O Δ)(q0:ah ws "look" i=true->Q (.int (gt cs i)) H)
  (q1:ah ws "look" i=false->∀ e H',Sep (j4 (R.cad aX) [("deed",.str "look"),("cell",.int i)] e false::O) H'->E e H'):ab tab R k ie [.ref a,.int i] H Q E:=by
 obtain ⟨hok,z2⟩:=jg (z.pull p);refine E5 hk z2 (by rw[length_map];exact hok.1) (λhm x hx=>?_) (λhm e H' z3=>q1 hm e H' (Sep.push (.there p) (kL hok (z3.pull (.there .here)))));rw[getElem?_map] at hx;obtain ⟨y,hy,rfl⟩:=Option.map_eq_some_iff.mp hx;rw[<-Hs hy];exact q0 hm
def kx (hk:3<=k)(z:Sep O H)(r:aV (aY R a cs ws) (aY R a (cs.set i.toNat v) ws) O Γ')(hv:0<=v/\v<=1000000000)(q0:ah ws "put" i=true->∀ H',Sep Γ' H'->Q .non H')
  (q1:ah ws "put" i=false->∀ e H',Sep (j4 (R.cad aX) [("deed",.str "put"),("cell",.int i)] e false::O) H'->E e H'):ab tab R k ji [.ref a,.int i,.int v] H Q E:=by
 obtain ⟨Δ,p,p'⟩:=r.bL;obtain ⟨hok,z2⟩:=jg (z.pull p);refine Ij hk z2 (by rw[length_map];exact hok.1) (λhm H' z3=>q0 hm H' ?_) (λhm e H' z3=>q1 hm e H' (Sep.push (.there p) (kL hok (z3.pull (.there .here)))));refine Sep.push p' (kL ⟨by rw[length_set];exact hok.1,by rw[length_set];exact hok.2.1,by rw[length_set];exact hok.2.2.1,vQ hok.2.2.2 hv.1 hv.2⟩ ?_);rw[List.map_set];exact z3
def Em {d:Str}(hk:2<=k)(z:Sep O H)(p:af (aY R a cs ws) O Δ)(q:Q (.bl (ah ws d i)) H):ab tab R k i9 [.ref a,.str d,.int i] H Q E:=by
 obtain ⟨hok,z2⟩:=jg (z.pull p);exact yW hk z2 (by rw[length_map];exact hok.1) q
def uj (hk:1<=k)(z:Sep O H)(p:af (aY R a cs ws) O Δ)(q:∀ l H',Sep (pt l (.lst (cs.map V.int))::O) H'->Q (.ref l) H'):ab tab R k gz [.ref a] H Q E:=by
 obtain ⟨hok,z2⟩:=jg (z.pull p);exact FZ hk z2 (λl H' z3=>q l H' (Sep.push (.there p) (kL hok (z3.pull (.there .here)))))
end
def vG {cs:List Int}(h1:1<=cs.length)(h60:cs.length<=60)(hc:c7 cs):bad (cs.map V.int)=none:=by
 refine qW (by rw[length_map];exact ⟨h1,h60⟩) λi y hy=>?_
 rw[getElem?_map] at hy;obtain ⟨z,hz,rfl⟩:=Option.map_eq_some_iff.mp hy;exact ud (hc z (mem_of_getElem? hz))
def xG {cs:List Int}(s:Sep O H):Sep (tys (cs.map V.int)::O) H:=Sep.Ai (λx hx=>by
 obtain ⟨z,_,rfl⟩:=List.mem_map.mp hx;exact ⟨"int",rfl⟩) s
def oo {p:Addr}{cs:List Int}(ro:Ro K R)(hk:4<=k)(h1:1<=cs.length)(h60:cs.length<=60)(hc:c7 cs)(s:Sep (pt p (.ins (R.cad au) dx [])::pt dx (.own p)::O) H)(h:af (pt a (.lst (cs.map V.int))) O Δ)
  (q:∀ H',Sep (aY R p cs (List.replicate cs.length "open")::O) H'->Q .non H'):ab tab R k dy [.ref p,.ref a] H Q E:=by
 have s2:=xG (cs:=cs) (s.pull (.there (.there h)));refine nF (a:=a) (dx:=dx) (O:=Δ) ro hk (s2.sub ?_) (λ_ H' z=>q H' ?_) (λat' hb=>absurd hb (by rw[vG h1 h60 hc];exact λz=>nomatch z))
 ·ac_nf
 ·refine Sep.push (.there h) ?_;have e:List.replicate (cs.map V.int).length (V.str "open")=(List.replicate cs.length ("open":Str)).map V.str:=by rw[length_map,map_replicate]
  rw[e] at z;have z2:=kL (cs:=cs) ⟨by rw[List.length_replicate],h1,h60,hc⟩ z;exact z2.sub (by ac_nf)
def aW {T:Tab}{f:Nat}{vs vs':List V}(e:vs=vs')(h:ab T R k f vs' H Q E):ab T R k f vs H Q E:=e▸h
local macro_rules| `(tactic|walk_at "ag")=>`(tactic|first|refine aW (vs':=[_,_]) rfl ?_|refine aW (vs':=[_,_,_]) rfl ?_|refine aW (vs':=[_]) rfl ?_|refine aW (vs':=[_,_,_,_]) rfl ?_)
local macro_rules| `(tactic|walk_at "mt")=>`(tactic|first|((with_reducible refine' ae ba ?s ?p ?m ?f ?_);(case s=>with_reducible assumption);(case p=>symm);(case m=>exact rfl);(case f=>exact rfl))|((with_reducible refine' ae bJ ?s ?p ?m ?f ?_);(case s=>with_reducible assumption);(case p=>symm);(case m=>exact rfl);(case f=>exact rfl)))
local macro_rules| `(tactic|walk_at "hq")=>`(tactic|((with_reducible (first|refine' Jp ?r ?k ?s ?p ?_|refine' Jt ?r ?k ?s ?p ?_|refine' EN ?r ?k ?s ?p ?_|refine' Es ?r ?k ?s ?p ?_|refine' Ku ?r ?k ?s ?p ?_|refine' Ik ?r ?k ?s ?p ?_));(case r=>with_reducible assumption);(case k=>exact nofun);(case s=>with_reducible assumption);(case p=>symm)))
local macro_rules| `(tactic|walk_at "gq")=>`(tactic|((with_reducible (first|refine' Ie ?r ?k ?s ?p ?i (λH hs=>?_)|refine' Ib ?r ?k ?s ?p ?i (λH hs=>?_)|refine' IG ?r ?k ?s ?p ?i (λH hs=>?_)|refine' Kl ?r ?k ?s ?p ?i (λH hs=>?_)));(case r=>with_reducible assumption);(case k=>exact nofun);(case s=>with_reducible assumption);(case p=>ac_rfl);(case i=>omega)))
local macro_rules| `(tactic|walk_at "ws")=>`(tactic|(walk_at "w";repeat (first|(walk_at "st";walk_at "w")|(walk_at "mt";walk_at "w")|(walk_at "ag";(walk_at "hq");walk_at "w")|(walk_at "ag";(walk_at "gq");walk_at "w"))))
local macro_rules| `(tactic|walk_at "sc")=>`(tactic|first|(refine aN (by decide+kernel) ?_;walk_at "go")|(refine ar (by decide+kernel) ?_;walk_at "go"))
inductive Out where
 |on (r:Int) (x:Bx) (cs:List Int)
 |no (d:Str) (c:Int)
section
variable {b a:Addr}{h t l w s m i j by':Int}{cs:List Int}{ws:List Str}
def ED (ro:Ro K R)(hk:5<=k)(z:Sep O H)(r:aV (aM R b ⟨h,t,l,w,s,m⟩) (aM R b ⟨h+i,t,l,w,s,m⟩) O Γ')(hi: -1000000000<=h+i/\h+i<=1000000000)(q:∀ H',Sep Γ' H'->Q .non H'):ab tab R k so [.ref b,.str "here",.int i] H Q E:=by
 obtain ⟨Δ,p1,p2⟩:=r.bL;refine wc (d:=nK) nofun rfl rfl ?_;left;refine ⟨rfl,?_⟩;left;refine ae ba z p1 rfl rfl ?_;left;refine ⟨rfl,?_⟩;left;refine ae ba z p1 rfl rfl ?_;left;refine Jp ro nofun z p1 ?_;left;exact Ie ro nofun z r hi q
def HU (ro:Ro K R)(hk:5<=k)(z:Sep O H)(r:aV (aM R b ⟨h,t,l,w,s,m⟩) (aM R b ⟨h,t+i,l,w,s,m⟩) O Γ')(hi: -1000000000<=t+i/\t+i<=1000000000)(q:∀ H',Sep Γ' H'->Q .non H'):ab tab R k so [.ref b,.str "there",.int i] H Q E:=by
 obtain ⟨Δ,p1,p2⟩:=r.bL;refine wc (d:=nK) nofun rfl rfl ?_;left;refine ⟨rfl,?_⟩;left;refine ae ba z p1 rfl rfl ?_;left;refine ⟨rfl,?_⟩;left;refine ae ba z p1 rfl rfl ?_;left;refine Jt ro nofun z p1 ?_;left;exact Ib ro nofun z r hi q
def KL (ro:Ro K R)(hk:5<=k)(z:Sep O H)(r:aV (aM R b ⟨h,t,l,w,s,m⟩) (aM R b ⟨h,t,l+i,w,s,m⟩) O Γ')(hi:0<=l+i/\l+i<=1000000000)(q:∀ H',Sep Γ' H'->Q .non H'):ab tab R k so [.ref b,.str "left",.int i] H Q E:=by
 obtain ⟨Δ,p1,p2⟩:=r.bL;refine wc (d:=nK) nofun rfl rfl ?_;left;refine ⟨rfl,?_⟩;left;refine ae ba z p1 rfl rfl ?_;left;refine ⟨rfl,?_⟩;left;refine ae ba z p1 rfl rfl ?_;left;refine EN ro nofun z p1 ?_;left;exact IG ro nofun z r hi q
abbrev fin (l:Int):Int:=if l=0 then 1 else 0
def rq (ro:Ro K R)(hk:6<=k)(z:Sep O H)(r:aV (aM R b ⟨h,t,l,w,s,m⟩) (aM R b ⟨h,t,l+ -i,w,s,m⟩) O Γ')(hi:0<=l+ -i/\l+ -i<=1000000000)(q:∀ H',Sep Γ' H'->Q (.int (fin (l+ -i))) H'):ab tab R k qI [.ref b,.int i] H Q E:=by
 obtain ⟨Δ,p1,p2⟩:=r.bL;refine wc (d:=i7) nofun rfl rfl ?_;right;refine KL ro nofun z r hi (λH1 z1=>?_);right;refine ae ba z1 p2 rfl rfl ?_;left;refine EN ro nofun z1 p2 ?_;right;refine aB (λe=>?_) (λe=>?_)
 ·right;have q:=q H1 z1;rw[fin,if_pos e] at q;exact q
 ·right;have q:=q H1 z1;rw[fin,if_neg e] at q;exact q
def ua (hk:4<=k)(z:Sep O H)(r:aV (aY R a cs ws) (aY R a (cs.set j.toNat (gt cs i)) ws) O Γ')(q0:ah ws "look" i=true->ah ws "put" j=true->∀ H',Sep Γ' H'->Q .non H')
  (q1:ah ws "look" i=false->∀ e H',Sep (j4 (R.cad aX) [("deed",.str "look"),("cell",.int i)] e false::O) H'->E e H')
  (q2:ah ws "look" i=true->ah ws "put" j=false->∀ e H',Sep (j4 (R.cad aX) [("deed",.str "put"),("cell",.int j)] e false::O) H'->E e H'):ab tab R k Fb [.ref a,.int i,.int j] H Q E:=by
 obtain ⟨Δ,p1,p2⟩:=r.bL;have ok:=cF z p1;refine wc (d:=yk) nofun rfl rfl ?_;right;refine ae bJ z p1 rfl rfl ?_;left;refine dH nofun z p1 (λhm=>?_) q1;right;refine ae bJ z p1 rfl rfl ?_;left;refine kx nofun z r (zF ok.2.2.2) (λhp H1 z1=>?_) (q2 hm);right;exact q0 hm hp H1 z1
def m9 (hk:3<=k)(z:Sep O H)(p:af (aY R a cs ws) O Δ)(q0:ah ws "put" i=true->Q .non H)
  (q1:ah ws "put" i=false->∀ e H',Sep (j4 (R.cad aX) [("deed",.str "put"),("cell",.int i)] e false::O) H'->E e H'):ab tab R k wz [.ref a,.int i] H Q E:=by
 refine wc (d:=mM) nofun rfl rfl ?_;right;refine ae bJ z p rfl rfl ?_;left;refine Em nofun z p ?_;right;refine cG (λhm=>?_) (λhm=>?_)
 ·right;exact q0 hm
 ·right;intro x hx;refine fh nofun (z.new hx) (λd H hs=>?_);right;exact eG hs (by ac_rfl) rfl (λH hs=>q1 hm x H (jw hs))
def tK {Γf:Int->Int->List ay}(hk:4<=k)(z:Sep O H)(r:∀ v w:Int,∃ Γ1,aV (aY R a cs ws) (aY R a (cs.set i.toNat v) ws) O Γ1/\aV (aY R a (cs.set i.toNat v) ws) (aY R a ((cs.set i.toNat v).set j.toNat w) ws) Γ1 (Γf v w)) (q0:ah ws "look" i=true->ah ws "look" j=true->ah ws "put" i=true->ah ws "put" j=true->∀ H',Sep (Γf (gt cs j) (gt cs i)) H'->Q .non H')
  (q1:ah ws "look" i=false->∀ e H',Sep (j4 (R.cad aX) [("deed",.str "look"),("cell",.int i)] e false::O) H'->E e H')
  (q2:ah ws "look" i=true->ah ws "look" j=false->∀ e H',Sep (j4 (R.cad aX) [("deed",.str "look"),("cell",.int j)] e false::O) H'->E e H')
  (q3:ah ws "look" i=true->ah ws "look" j=true->ah ws "put" i=false->∀ e H',Sep (j4 (R.cad aX) [("deed",.str "put"),("cell",.int i)] e false::O) H'->E e H')
  (q4:ah ws "look" i=true->ah ws "look" j=true->ah ws "put" i=true->ah ws "put" j=false->∀ e H',Sep (j4 (R.cad aX) [("deed",.str "put"),("cell",.int j)] e false::O) H'->E e H'):ab tab R k sJ [.ref a,.int i,.int j] H Q E:=by
 obtain ⟨Γ1,r1,r2⟩:=r (gt cs j) (gt cs i);obtain ⟨Δ,p1,p2⟩:=r1.bL;obtain ⟨Δ2,p3,p4⟩:=r2.bL;have ok:=cF z p1;refine wc (d:=lA) nofun rfl rfl ?_;right;refine ae bJ z p1 rfl rfl ?_;left;refine dH nofun z p1 (λh1=>?_) q1;right;refine ae bJ z p1 rfl rfl ?_;left;refine dH nofun z p1 (λh2=>?_) (q2 h1);right;refine m9 nofun z p1 (λh3=>?_) (q3 h1 h2);right;refine m9 nofun z p1 (λh4=>?_) (q4 h1 h2 h3);right;refine ae bJ z p1 rfl rfl ?_;left;refine kx nofun z r1 (zF ok.2.2.2) (λhp H1 z1=>?_) (λhp=>absurd (h3.symm.trans hp) (by decide));right;refine ae bJ z1 p3 rfl rfl ?_;left;refine kx nofun z1 r2 (zF ok.2.2.2) (λhp H2 z2=>?_) (λhp=>absurd (h4.symm.trans hp) (by decide));right;exact q0 h1 h2 h3 h4 H2 z2
abbrev t7 (R:Rt)(b a:Addr)(x:Bx)(cs:List Int)(ws:List Str)(O:List ay)(Q:VK)(E:XK):Out->Prop
 | .on r x' cs'=>∀ H',Sep (aM R b x'::aY R a cs' ws::O) H'->Q (.int r) H'
 | .no d c=>∀ e H',Sep (j4 (R.cad aX) [("deed",.str d),("cell",.int c)] e false::aM R b x::aY R a cs ws::O) H'->E e H'
abbrev hm (cs:List Int)(ws:List Str)(i j:Int)(f:List Int->Out):Out:=
 if ah ws "look" i=true then (if ah ws "put" j=true then f (cs.set j.toNat (gt cs i)) else .no "put" j) else .no "look" i
abbrev bH (x:Bx)(cs:List Int)(ws:List Str):Out:=
 if x.l=0 then .on 1 x cs else if x.t<=x.h then hm cs ws x.h x.t λcs'=>.on (fin (x.l+ -1)) ⟨x.h+1,x.t+1,x.l+ -1,x.w,x.s,x.m⟩ cs'
 else hm cs ws (x.h+x.l-1) (x.t+x.l-1) λcs'=>.on (fin (x.l+ -1)) ⟨x.h,x.t,x.l+ -1,x.w,x.s,x.m⟩ cs'
abbrev xm (cs:List Int)(ws:List Str)(i j:Int)(f:List Int->Out):Out:=
 if ah ws "look" i=true then (if ah ws "look" j=true then (if ah ws "put" i=true then (if ah ws "put" j=true then f ((cs.set i.toNat (gt cs j)).set j.toNat (gt cs i)) else .no "put" j) else .no "put" i) else .no "look" j) else .no "look" i
abbrev cY (x:Bx)(cs:List Int)(ws:List Str):Out:=
 if x.l=0 then .on 1 x cs else if x.l=1 then .on 1 ⟨x.h,x.t,0,x.w,x.s,x.m⟩ cs else xm cs ws x.h (x.h+x.l-1) λcs'=>.on (fin (x.l+ -2)) ⟨x.h+1,x.t,x.l+ -2,x.w,x.s,x.m⟩ cs'
def xO (ro:Ro K R)(hk:7<=k)(z:Sep (aM R b x::aY R a cs ws::O) H)(q:t7 R b a x cs ws O Q E (bH x cs ws)):ab tab R k gy [v,.ref b,.ref a] H Q E:=by
 have ok:=kR z .here;have sk:=cF z (.there .here);obtain ⟨h,t,l,w,s,m⟩:=x;obtain ⟨⟨o1,o2⟩,⟨o3,o4⟩,⟨o5,o6⟩,o7⟩:=ok;dsimp only at o1 o2 o3 o4 o5 o6;obtain ⟨s1,s2,s3,s4⟩:=sk;refine wc (d:=gx) nofun rfl rfl ?_;walk_at "ws";refine aB (λe=>?_) (λe=>?_)
 ·walk_at "ws";rw[bH,if_pos e] at q;exact q H z
 rw[bH,if_neg e] at q;walk_at "ws";refine ax (λe2=>?_) (λe2=>?_)
 ·rw[if_pos e2] at q;walk_at "ws";refine ua nofun z (.there .here) (λh1 h2 H1 z1=>?_) (λh1=>?_) (λh1 h2=>?_)
  ·have g1:=ak h1;have g2:=ak h2;rw[hm,if_pos h1,if_pos h2] at q;walk_at "ws";refine ED ro nofun z1 .here nofun (λH2 z2=>?_);walk_at "ws";refine HU ro nofun z2 .here nofun (λH3 z3=>?_);walk_at "ws";exact rq ro nofun z3 .here nofun (λH4 z4=>q H4 z4)
  ·rw[hm,if_neg (by rw[h1];decide)] at q;exact q
  ·rw[hm,if_pos h1,if_neg (by rw[h2];decide)] at q;exact q
 ·rw[if_neg e2] at q;walk_at "ws";refine ua nofun z (.there .here) (λh1 h2 H1 z1=>?_) (λh1=>?_) (λh1 h2=>?_)
  ·rw[hm,if_pos h1,if_pos h2] at q;walk_at "ws";exact rq ro nofun z1 .here nofun (λH4 z4=>q H4 z4)
  ·rw[hm,if_neg (by rw[h1];decide)] at q;exact q
  ·rw[hm,if_pos h1,if_neg (by rw[h2];decide)] at q;exact q
def Cm (ro:Ro K R)(hk:7<=k)(z:Sep (aM R b x::aY R a cs ws::O) H)(q:t7 R b a x cs ws O Q E (cY x cs ws)):ab tab R k jv [v,.ref b,.ref a] H Q E:=by
 have ok:=kR z .here;have sk:=cF z (.there .here);obtain ⟨h,t,l,w,s,m⟩:=x;obtain ⟨⟨o1,o2⟩,⟨o3,o4⟩,⟨o5,o6⟩,o7⟩:=ok;dsimp only at o1 o2 o3 o4 o5 o6;obtain ⟨s1,s2,s3,s4⟩:=sk;refine wc (d:=jC) nofun rfl rfl ?_;walk_at "ws";refine aB (λe=>?_) (λe=>?_)
 ·walk_at "ws";rw[cY,if_pos e] at q;exact q H z
 rw[cY,if_neg e] at q;walk_at "ws";refine aB (λe2=>?_) (λe2=>?_)
 ·rw[if_pos e2] at q;walk_at "ws";refine rq ro nofun z .here nofun (λH4 z4=>?_);subst e2;exact q H4 z4
 ·rw[if_neg e2] at q;walk_at "ws";refine tK (Γf:=λv w'=>aM R b ⟨h,t,l,w,s,m⟩::aY R a ((cs.set h.toNat v).set (h+l-1).toNat w') ws::O) nofun z (λv w=>⟨_,.there .here,.there .here⟩) (λh1 h2 h3 h4 H1 z1=>?_) (λh1=>?_) (λh1 h2=>?_) (λh1 h2 h3=>?_) (λh1 h2 h3 h4=>?_)
  ·have g1:=ak h1;rw[xm,if_pos h1,if_pos h2,if_pos h3,if_pos h4] at q;walk_at "ws";refine ED ro nofun z1 .here nofun (λH2 z2=>?_);walk_at "ws";exact rq ro nofun z2 .here nofun (λH4 z4=>q H4 z4)
  ·rw[xm,if_neg (by rw[h1];decide)] at q;exact q
  ·rw[xm,if_pos h1,if_neg (by rw[h2];decide)] at q;exact q
  ·rw[xm,if_pos h1,if_pos h2,if_neg (by rw[h3];decide)] at q;exact q
  ·rw[xm,if_pos h1,if_pos h2,if_pos h3,if_neg (by rw[h4];decide)] at q;exact q
end
section
variable {b a:Addr}{h t l w s m i j:Int}{cs:List Int}{ws:List Str}
def GU (ro:Ro K R)(hk:6<=k)(z:Sep O H)(r:aV (aM R b ⟨h,t,l,w,s,m⟩) (aM R b ⟨h+w,t,l,w,s,m⟩) O Γ')(hi: -1000000000<=h+w/\h+w<=1000000000)(q:∀ H',Sep Γ' H'->Q .non H'):ab tab R k jE [.ref b,.str "here"] H Q E:=by
 obtain ⟨Δ,p1,p2⟩:=r.bL;refine wc (d:=eh) nofun rfl rfl ?_;left;refine ⟨rfl,?_⟩;left;refine ⟨rfl,?_⟩;left;refine ae ba z p1 rfl rfl ?_;left;refine Es ro nofun z p1 ?_;left;exact ED ro nofun z r hi q
def GD (ro:Ro K R)(hk:6<=k)(z:Sep O H)(r:aV (aM R b ⟨h,t,l,w,s,m⟩) (aM R b ⟨h,t+w,l,w,s,m⟩) O Γ')(hi: -1000000000<=t+w/\t+w<=1000000000)(q:∀ H',Sep Γ' H'->Q .non H'):ab tab R k jE [.ref b,.str "there"] H Q E:=by
 obtain ⟨Δ,p1,p2⟩:=r.bL;refine wc (d:=eh) nofun rfl rfl ?_;left;refine ⟨rfl,?_⟩;left;refine ⟨rfl,?_⟩;left;refine ae ba z p1 rfl rfl ?_;left;refine Es ro nofun z p1 ?_;left;exact HU ro nofun z r hi q
abbrev c4 (x:Bx)(cs:List Int)(ws:List Str):Out:=
 if x.l=0 then .on 1 x cs else hm cs ws x.h x.t λcs'=>.on (fin (x.l+ -1)) ⟨x.h+x.w,x.t+x.w,x.l+ -1,x.w,x.s,x.m⟩ cs'
abbrev cV (x:Bx)(cs:List Int)(ws:List Str):Out:=
 if x.l=0 then .on 1 x cs else if ah ws "put" x.t=true then .on (fin (x.l+ -1)) ⟨x.h,x.t+x.w,x.l+ -1,x.w,x.s,x.m⟩ (cs.set x.t.toNat x.s) else .no "put" x.t
abbrev c6 (x:Bx)(cs:List Int)(ws:List Str):Out:=
 if x.l=0 then .on 1 ⟨x.h,x.t,x.l,x.w,x.s,0⟩ cs else if ah ws "look" x.h=true then
  (if gt cs x.h=x.s then .on 1 ⟨x.h,x.t,x.l,x.w,x.s,1⟩ cs else .on (fin (x.l+ -1)) ⟨x.h+x.w,x.t,x.l+ -1,x.w,x.s,0⟩ cs) else .no "look" x.h
abbrev bI (x:Bx)(cs:List Int)(ws:List Str):Out:=
 if x.l=0 then .on 1 ⟨x.h,x.t,x.l,x.w,x.s,1⟩ cs else if ah ws "look" x.h=true then (if ah ws "look" x.t=true then
  (if gt cs x.h=gt cs x.t then .on (fin (x.l+ -1)) ⟨x.h+x.w,x.t+x.w,x.l+ -1,x.w,x.s,1⟩ cs else .on 1 ⟨x.h,x.t,x.l,x.w,x.s,0⟩ cs) else .no "look" x.t) else .no "look" x.h
def nt {c:Bool}(h:c=false):¬ c=true:=by rw[h];decide
def B6 (ro:Ro K R)(hk:8<=k)(z:Sep (aM R b x::aY R a cs ws::O) H)(q:t7 R b a x cs ws O Q E (c4 x cs ws)):ab tab R k jk [v,.ref b,.ref a] H Q E:=by
 have ok:=kR z .here;have sk:=cF z (.there .here);obtain ⟨h,t,l,w,s,m⟩:=x;obtain ⟨⟨o1,o2⟩,⟨o3,o4⟩,⟨o5,o6⟩,o7,o8⟩:=ok;dsimp only at o1 o2 o3 o4 o5 o6 o7;obtain ⟨s1,s2,s3,s4⟩:=sk;refine wc (d:=jz) nofun rfl rfl ?_;walk_at "ws";refine aB (λe=>?_) (λe=>?_)
 ·walk_at "ws";rw[c4,if_pos e] at q;exact q H z
 rw[c4,if_neg e] at q;walk_at "ws";refine ua nofun z (.there .here) (λh1 h2 H1 z1=>?_) (λh1=>?_) (λh1 h2=>?_)
 ·have g1:=ak h1;have g2:=ak h2;rw[hm,if_pos h1,if_pos h2] at q;walk_at "ws";refine GU ro nofun z1 .here nofun (λH2 z2=>?_);walk_at "ws";refine GD ro nofun z2 .here nofun (λH3 z3=>?_);walk_at "ws";exact rq ro nofun z3 .here nofun (λH4 z4=>q H4 z4)
 ·rw[hm,if_neg (nt h1)] at q;exact q
 ·rw[hm,if_pos h1,if_neg (nt h2)] at q;exact q
def Bj (ro:Ro K R)(hk:8<=k)(z:Sep (aM R b x::aY R a cs ws::O) H)(q:t7 R b a x cs ws O Q E (cV x cs ws)):ab tab R k jq [v,.ref b,.ref a] H Q E:=by
 have ok:=kR z .here;have sk:=cF z (.there .here);obtain ⟨h,t,l,w,s,m⟩:=x;obtain ⟨⟨o1,o2⟩,⟨o3,o4⟩,⟨o5,o6⟩,o7,o8,o9⟩:=ok;dsimp only at o1 o2 o3 o4 o5 o6 o7 o8;obtain ⟨s1,s2,s3,s4⟩:=sk;refine wc (d:=jx) nofun rfl rfl ?_;walk_at "ws";refine aB (λe=>?_) (λe=>?_)
 ·walk_at "ws";rw[cV,if_pos e] at q;exact q H z
 rw[cV,if_neg e] at q;walk_at "ws";refine kx nofun z (.there .here) o8 (λh2 H1 z1=>?_) (λh2=>?_)
 ·have g2:=ak h2;rw[if_pos h2] at q;walk_at "ws";refine GD ro nofun z1 .here nofun (λH3 z3=>?_);walk_at "ws";exact rq ro nofun z3 .here nofun (λH4 z4=>q H4 z4)
 ·rw[if_neg (nt h2)] at q;exact q
def AQ (ro:Ro K R)(hk:8<=k)(z:Sep (aM R b x::aY R a cs ws::O) H)(q:t7 R b a x cs ws O Q E (c6 x cs ws)):ab tab R k jc [v,.ref b,.ref a] H Q E:=by
 have ok:=kR z .here;have sk:=cF z (.there .here);obtain ⟨h,t,l,w,s,m⟩:=x;obtain ⟨⟨o1,o2⟩,⟨o3,o4⟩,⟨o5,o6⟩,o7,o8⟩:=ok;dsimp only at o1 o2 o3 o4 o5 o6 o7;obtain ⟨s1,s2,s3,s4⟩:=sk;refine wc (d:=jh) nofun rfl rfl ?_;walk_at "ws";refine aB (λe=>?_) (λe=>?_)
 ·rw[c6,if_pos e] at q;walk_at "ws";rename_i H1 z1;exact q _ z1
 rw[c6,if_neg e] at q;walk_at "ws";refine dH nofun z (.there .here) (λh1=>?_) (λh1=>?_)
 ·have g1:=ak h1;rw[if_pos h1] at q;walk_at "ws";refine aB (λe=>?_) (λe=>?_)
  ·rw[if_pos e] at q;walk_at "ws";rename_i H1 z1;exact q _ z1
  ·rw[if_neg e] at q;walk_at "ws";rename_i H1 z1;refine GU ro nofun z1 .here nofun (λH3 z3=>?_);walk_at "ws";exact rq ro nofun z3 .here nofun (λH4 z4=>q H4 z4)
 ·rw[if_neg (nt h1)] at q;exact q
def Ar (ro:Ro K R)(hk:8<=k)(z:Sep (aM R b x::aY R a cs ws::O) H)(q:t7 R b a x cs ws O Q E (bI x cs ws)):ab tab R k hW [v,.ref b,.ref a] H Q E:=by
 have ok:=kR z .here;have sk:=cF z (.there .here);obtain ⟨h,t,l,w,s,m⟩:=x;obtain ⟨⟨o1,o2⟩,⟨o3,o4⟩,⟨o5,o6⟩,o7,o8⟩:=ok;dsimp only at o1 o2 o3 o4 o5 o6 o7;obtain ⟨s1,s2,s3,s4⟩:=sk;refine wc (d:=gK) nofun rfl rfl ?_;walk_at "ws";refine aB (λe=>?_) (λe=>?_)
 ·rw[bI,if_pos e] at q;walk_at "ws";rename_i H1 z1;exact q _ z1
 rw[bI,if_neg e] at q;walk_at "ws";refine dH nofun z (.there .here) (λh1=>?_) (λh1=>?_)
 ·have g1:=ak h1;rw[if_pos h1] at q;walk_at "ws";refine dH nofun z (.there .here) (λh2=>?_) (λh2=>?_)
  ·have g2:=ak h2;rw[if_pos h2] at q;walk_at "ws";refine aB (λe=>?_) (λe=>?_)
   ·rw[if_pos e] at q;walk_at "ws";rename_i H1 z1;refine GU ro nofun z1 .here nofun (λH2 z2=>?_);walk_at "ws";refine GD ro nofun z2 .here nofun (λH3 z3=>?_);walk_at "ws";exact rq ro nofun z3 .here nofun (λH4 z4=>q H4 z4)
   ·rw[if_neg e] at q;walk_at "ws";rename_i H1 z1;exact q _ z1
  ·rw[if_neg (nt h2)] at q;exact q
 ·rw[if_neg (nt h1)] at q;exact q
end
abbrev b2i (c:Bool):Int:=match c with
 |true=>1
 |false=>0
def kb {G:Gx}{c:Bool}(q:Q (.int (b2i c)) H):lX G .int [.bl c] H Q:=by
 unfold lX;refine .inr ⟨c,rfl,?_⟩;cases c<;>exact q
section
variable {cs:List Int}{f g:Nat->Int}{i v:Int}
end
abbrev dd (R:Rt)(d:Addr)(c:Nat):ay:=bx λdx:Addr=>[pt d (.ins (R.cad c) dx []),pt dx (.own d)]
def JX {c:Nat}(s:Sep (pt d (.ins (R.cad c) dx [])::pt dx (.own d)::O) H):Sep (dd R d c::O) H:=hJ dx s
def HI {c:Nat}:Ob R (dd R d c) d c []:=by
 rintro H D ⟨dx,D1,D2,_,_,_,⟨_,h⟩,_⟩;exact ⟨dx,_,h,rfl⟩
def uw {p:Addr}{cs:List Int}(h1:H l=some (.lst (cs.map V.int)))(h2:H p=some (.lst (cs.map V.int))):gE R.K H 2 (.ref l) (.ref p) true:=
 kD (n:=0) h1 h2 λx hx=>by
  obtain ⟨z,_,rfl⟩:=List.mem_map.mp hx;exact ⟨"int",rfl⟩
abbrev ao (d:Addr)(x:Bx):ay:=pt d (.dK (wb.zip (x.ls.map V.int)))
section
variable {d:Addr}{h t l w s m i:Int}{P:Hp->Prop}
def KH {K:W.Frag}(z:Sep O H)(p:af (ao d ⟨h,t,l,w,s,m⟩) O Δ)(q:Q (.int h) H):rK K (.ref d) (.str "here") H Q:=pR (k:=.inr "here") (z.get p) rfl q
def Kq {K:W.Frag}(z:Sep O H)(p:af (ao d ⟨h,t,l,w,s,m⟩) O Δ)(q:Q (.int t) H):rK K (.ref d) (.str "there") H Q:=pR (k:=.inr "there") (z.get p) rfl q
def KN {K:W.Frag}(z:Sep O H)(p:af (ao d ⟨h,t,l,w,s,m⟩) O Δ)(q:Q (.int l) H):rK K (.ref d) (.str "left") H Q:=pR (k:=.inr "left") (z.get p) rfl q
def KG {K:W.Frag}(z:Sep O H)(p:af (ao d ⟨h,t,l,w,s,m⟩) O Δ)(q:Q (.int w) H):rK K (.ref d) (.str "way") H Q:=pR (k:=.inr "way") (z.get p) rfl q
def Lg {K:W.Frag}(z:Sep O H)(p:af (ao d ⟨h,t,l,w,s,m⟩) O Δ)(q:Q (.int s) H):rK K (.ref d) (.str "sign") H Q:=pR (k:=.inr "sign") (z.get p) rfl q
def Kg {K:W.Frag}(z:Sep O H)(p:af (ao d ⟨h,t,l,w,s,m⟩) O Δ)(q:Q (.int m) H):rK K (.ref d) (.str "met") H Q:=pR (k:=.inr "met") (z.get p) rfl q
def rB {y:Bx}{j:Nat}{nm:Str}(z:Sep O H)(r:aV (ao d x) (ao d y) O Γ')(hj:pS[j]? =some nm)(hx:x.ls.set j i=y.ls)(q:∀ H',Sep Γ' H'->P H'):g9 (.ref d) (.str nm) (.int i) H P:=by
 refine uO (k:=.inr nm) z r (Nat.le_of_ble_eq_true rfl) ?_ q;rw[<-hx];exact uY rfl hj
def KC (z:Sep O H)(r:aV (ao d ⟨h,t,l,w,s,m⟩) (ao d ⟨i,t,l,w,s,m⟩) O Γ')(q:∀ H',Sep Γ' H'->P H'):g9 (.ref d) (.str "here") (.int i) H P:=rB (j:=0) z r rfl rfl q
def K5 (z:Sep O H)(r:aV (ao d ⟨h,t,l,w,s,m⟩) (ao d ⟨h,i,l,w,s,m⟩) O Γ')(q:∀ H',Sep Γ' H'->P H'):g9 (.ref d) (.str "there") (.int i) H P:=rB (j:=1) z r rfl rfl q
def Ki (z:Sep O H)(r:aV (ao d ⟨h,t,l,w,s,m⟩) (ao d ⟨h,t,i,w,s,m⟩) O Γ')(q:∀ H',Sep Γ' H'->P H'):g9 (.ref d) (.str "left") (.int i) H P:=rB (j:=2) z r rfl rfl q
def Kw (z:Sep O H)(r:aV (ao d ⟨h,t,l,w,s,m⟩) (ao d ⟨h,t,l,w,s,i⟩) O Γ')(q:∀ H',Sep Γ' H'->P H'):g9 (.ref d) (.str "met") (.int i) H P:=rB (j:=5) z r rfl rfl q
end
local macro_rules| `(tactic|walk_at "sx")=>`(tactic|((with_reducible (first|refine' KH ?s ?p ?_|refine' Kq ?s ?p ?_|refine' KN ?s ?p ?_|refine' KG ?s ?p ?_|refine' Lg ?s ?p ?_|refine' Kg ?s ?p ?_));(case s=>with_reducible assumption);(case p=>symm)))
local macro_rules| `(tactic|walk_at "sy")=>`(tactic|((with_reducible (first|refine' KC ?s ?p (λH hs=>?_)|refine' K5 ?s ?p (λH hs=>?_)|refine' Ki ?s ?p (λH hs=>?_)|refine' ds_w ?s ?p (λH hs=>?_)|refine' ds_s ?s ?p (λH hs=>?_)|refine' Kw ?s ?p (λH hs=>?_)));(case s=>with_reducible assumption);(case p=>ac_rfl)))
local macro_rules| `(tactic|walk_at "wd")=>`(tactic|(walk_at "w";repeat (first|(walk_at "sx";walk_at "w")|(walk_at "sy";walk_at "w")|(walk_at "st";walk_at "w")|(refine kb ?_;walk_at "w"))))
def yY {d:Str}(hk:1<=k)(z:Sep O H)(p:af (pt lv (.lst (ws.map V.str))) O Δ)(q:Q (.bl (ah ws d i)) H):ab tab R k tT [.ref lv,.str d,.int i] H Q E:=by
 have e0:H lv=some (.lst (ws.map V.str)):=z.get p;have no:(i<0\/¬ i<ws.length)->ah ws d i=false:=λh=>by
  unfold ah;rcases h with h|h
  ·rw[decide_eq_false (by omega:¬ 0<=i),Bool.false_and]
  ·rw[decide_eq_false h,Bool.false_and,Bool.and_false]
 refine wc (d:=kA) nofun rfl rfl ?_;left;refine ax (λh0=>?_) (λh0=>?_)
 ·right;rw[no (.inl h0)] at q;exact q
 left;refine gI e0 ?_;left;rw[length_map];refine ax (λh1=>?_) (λh1=>?_)
 ·right;rw[no (.inr nofun)] at q;exact q
 have h2:i.toNat<ws.length:=by omega
 have e1:ws[i.toNat]? =some ws[i.toNat]:=getElem?_eq_getElem h2;generalize ws[i.toNat]=w at e1;have e2:(ws.map V.str)[i.toNat]? =some (.str w):=by rw[getElem?_map,e1];rfl
 have e3:ah ws d i=(if w="look" then d =="look" else w =="open"):=by
  unfold ah;rw[e1,decide_eq_true (by omega:0<=i),decide_eq_true (by omega:i<ws.length)]
  rfl
 left;refine aL e0 (aI nofun e2) ?_;right;refine cG (λhw=>?_) (λhw=>?_)
 ·have hw:w="open":=by simpa [d4] using hw
  subst hw;rw[e3,if_neg (by decide+kernel)] at q;right;exact q
 ·have hw:¬ w="open":=by simpa [d4] using hw
  left;refine aL e0 (aI nofun e2) ?_;right;refine cG (λhl=>?_) (λhl=>?_)
  ·have hl:w="look":=by simpa [d4] using hl
   rw[e3,if_pos hl] at q;right;exact q
  ·have hl:¬ w="look":=by simpa [d4] using hl
   have e4:(w ==("open":Str))=false:=by simpa using hw
   rw[e3,if_neg hl,e4] at q;right;exact q
inductive Wd where
 |copy|fill|seek|mtch|shift|turn
abbrev Wd.s:Wd->Str
 | .copy=>"copy"
 | .fill=>"fill"
 | .seek=>"seek"
 | .mtch=>"match"
 | .shift=>"shift"
 | .turn=>"turn"
abbrev wA (h t l:Int):Wd->List Int
 | .copy=>[h]
 | .fill=>[]
 | .seek=>[h]
 | .mtch=>[h,t]
 | .shift=>if t<=h then [h+0] else [h+(l-1)]
 | .turn=>if l=1 then [] else [h,h+l-1]
abbrev wL (h t l:Int):Wd->List Int
 | .copy=>[t]
 | .fill=>[t]
 | .seek=>[]
 | .mtch=>[]
 | .shift=>if t<=h then [t+0] else [t+(l-1)]
 | .turn=>if l=1 then [] else [h,h+l-1]
abbrev mG (wd:Wd)(x:Bx):List Int:=if x.l=0 then [] else wA x.h x.t x.l wd
abbrev wC (wd:Wd)(x:Bx):List Int:=if x.l=0 then [] else wL x.h x.t x.l wd
def LM {v0 v1:V}{c:Bool}:lL [v0,v1] (b2i c)=some (if c=true then v1 else v0):=by cases c<;>rfl
abbrev aD (ws:List Str)(d:Str):List Int->Option (Str×Int)
 | []=>none
 |c::r=>if ah ws d c=true then aD ws d r else some (d,c)
abbrev bt (ws:List Str)(ls ps:List Int):Option (Str×Int):=match aD ws "look" ls with
 |some r=>some r
 |none=>aD ws "put" ps
def lb {ws:List Str}{d:Str}:∀ {l:List Int},(∀ c ∈ l,ah ws d c=true)->aD ws d l=none
 | [],_=>rfl
 |c::r,h=>by
  unfold aD;rw[if_pos (h c mem_cons_self)];exact lb λc hc=>h c (mem_cons_of_mem _ hc)
def pv {ws:List Str}{d:Str}{c:Int}:∀ {l:List Int}{j:Nat},(∀ i x,i<j->l[i]? =some x->ah ws d x=true)->l[j]? =some c->ah ws d c=false->aD ws d l=some (d,c)
 | [],_,_,h,_=>by simp at h
 |a::r,0,_,h,hc=>by
  have:a=c:=by simpa using h
  subst this;unfold aD;rw[if_neg (nt hc)]
 |a::r,j+1,hb,h,hc=>by
  unfold aD;rw[if_pos (hb 0 a (Nat.succ_pos _) rfl)];exact pv (λi x hi hx=>hb (i+1) x (Nat.succ_lt_succ hi) (by simpa using hx)) (by simpa using h) hc
abbrev c8:Wd->Bx->List Int->List Str->Out
 | .copy=>c4
 | .fill=>cV
 | .seek=>c6
 | .mtch=>bI
 | .shift=>bH
 | .turn=>cY
abbrev jf (d p:Addr)(O:List ay)(Q:VK):Out->Prop
 | .on r x' cs'=>∀ H',Sep (ao d x'::pt p (.lst (cs'.map V.int))::O) H'->Q (.int r) H'
 | .no _ _=>True
def aG {d:Str}{r:List Int}(h:aD ws d (c::r)=none):ah ws d c=true/\aD ws d r=none:=by
 unfold aD at h
 by_cases e:ah ws d c=true
 ·rw[if_pos e] at h;exact ⟨e,h⟩
 ·rw[if_neg e] at h;cases h
def gQ {ls ps:List Int}(h:bt ws ls ps=none):aD ws "look" ls=none/\aD ws "put" ps=none:=by
 unfold bt at h
 split at h
 ·cases h
 ·rename_i e;exact ⟨e,h⟩
def mF {l:Int}:b2i (d4 (.int l) (.int 0))=fin l:=by
 show b2i (l ==0)=_;unfold fin
 by_cases e:l=0
 ·rw[if_pos e,e];rfl
 ·rw[if_neg e,show (l ==0)=false by simpa using e];rfl
def cH {cs:List Int}{v:Int}:(cs.map V.int).set n (.int v)=(cs.set n v).map V.int:=by rw[List.map_set]
def xM {l:Int}:b2i (d4 (.int l) (.int 1))=fin (l+ -1):=by
 show b2i (l ==1)=_;unfold fin
 by_cases e:l=1
 ·rw[if_pos nofun,e];rfl
 ·rw[if_neg nofun,show (l ==1)=false by simpa using e];rfl
def AB {l:Int}:l-1=l+ -1:=by omega
def Li {l:Int}:l-2=l+ -2:=by omega
def Ee {j:Int}(h:i=j):d4 (.int i) (.int j)=true:=by subst h;show (i ==i)=true;simp
def DK {j:Int}(h:i≠j):d4 (.int i) (.int j)=false:=by show (i ==j)=false;simpa using h
variable {wd:Wd}
section
variable {d p:Addr}{h t l w s m:Int}{cs:List Int}{ws:List Str}
def rh (wd:Wd)(hw:wd=.seek\/wd=.mtch)(hk:1<=k)(hl:cs.length=ws.length)(hb:bt ws (mG wd x) (wC wd x)=none)(z:Sep (ao d x::pt p (.lst (cs.map V.int))::O) H)
  (q:jf d p O Q (c8 wd x cs ws)):ab tab R k lV [.str wd.s,.ref d,.ref p] H Q E:=by
 obtain ⟨h,t,l,w,s,m⟩:=x;obtain ⟨b1,b2⟩:=gQ hb;have f1:b2i (d4 (.str Wd.seek.s) (.str "match"))=0:=by decide+kernel
 have f2:b2i (d4 (.str Wd.mtch.s) (.str "match"))=1:=by decide+kernel
 have f3:b2i (d4 (.str Wd.seek.s) (.str "seek"))=1:=by decide+kernel
 have f4:b2i (d4 (.str Wd.mtch.s) (.str "seek"))=0:=by decide+kernel
 have f5:d4 (.str Wd.seek.s) (.str "seek")=true:=by decide+kernel
 have f6:d4 (.str Wd.mtch.s) (.str "seek")=false:=by decide+kernel
 refine wc (d:=fN) nofun rfl rfl ?_;rcases hw with rfl|rfl
 ·have q:jf d p O Q (c6 ⟨h,t,l,w,s,m⟩ cs ws):=q;walk_at "wd";refine aB (λe=>?_) (λe=>?_)
  ·rw[c6,if_pos e] at q;walk_at "wd";rename_i H1 z1;rw[f1] at z1;exact q _ z1
  rw[c6,if_neg e] at q;have b1:aD ws "look" [h]=none:=(congrArg _ (if_neg e)).symm.trans b1;obtain ⟨m1,_⟩:=aG b1;obtain ⟨g1,g2⟩:=ak m1;rw[if_pos m1] at q;walk_at "wd"
  repeat walk_at "sc"
  refine aL (by grind) (gR g1 nofun) ?_;walk_at "wd";rw[f5]
  by_cases e2:gt cs h=s
  ·rw[if_pos e2] at q;rw[Ee e2];walk_at "wd";rename_i H1 z1;rw[f3] at z1;exact q _ z1
  ·rw[if_neg e2] at q;rw[DK e2];walk_at "wd"
   repeat walk_at "sc"
   walk_at "wd";rename_i H1 z1 H2 z2 H3 z3;rw[f1,AB] at z3;rw[xM];exact q _ z3
 ·have q:jf d p O Q (bI ⟨h,t,l,w,s,m⟩ cs ws):=q;walk_at "wd";refine aB (λe=>?_) (λe=>?_)
  ·rw[bI,if_pos e] at q;walk_at "wd";rename_i H1 z1;rw[f2] at z1;exact q _ z1
  rw[bI,if_neg e] at q;have b1:aD ws "look" [h,t]=none:=(congrArg _ (if_neg e)).symm.trans b1;obtain ⟨m1,b3⟩:=aG b1;obtain ⟨m2,_⟩:=aG b3;obtain ⟨g1,g2⟩:=ak m1;obtain ⟨g3,g4⟩:=ak m2;rw[if_pos m1,if_pos m2] at q;walk_at "wd"
  repeat walk_at "sc"
  refine aL (by grind) (gR g3 nofun) ?_;walk_at "wd";refine aL (by grind) (gR g1 nofun) ?_;walk_at "wd";rw[f6]
  by_cases e2:gt cs h=gt cs t
  ·rw[if_pos e2] at q;rw[Ee e2];walk_at "wd"
   repeat walk_at "sc"
   walk_at "wd";rename_i H1 z1 H2 z2 H3 z3 H4 z4;rw[f2,AB] at z4;rw[xM];exact q _ z4
  ·rw[if_neg e2] at q;rw[DK e2];walk_at "wd";rename_i H1 z1;rw[f4] at z1;exact q _ z1
def Cu (wd:Wd)(hk:2<=k)(hx:0<=x.l)(hl:cs.length=ws.length)(hb:bt ws (mG wd x) (wC wd x)=none)(z:Sep (ao d x::pt p (.lst (cs.map V.int))::O) H)
  (q:jf d p O Q (c8 wd x cs ws)):ab tab R k oH [.str wd.s,.ref d,.ref p] H Q E:=by
 refine wc (d:=il) nofun rfl rfl ?_;obtain ⟨h,t,l,w,s,m⟩:=x;obtain ⟨b1,b2⟩:=gQ hb;dsimp only at hx;cases wd
 case seek=>
  walk_at "wd";rename_i p0 H0 z0;refine gi (aZ.of z0.at) rfl rfl ?_;left;refine aN (by decide+kernel) ?_;left;refine ⟨rfl,?_⟩;left;exact rh .seek (.inl rfl) nofun hl hb z0.drop q
 case mtch=>
  walk_at "wd";rename_i p0 H0 z0;refine gi (aZ.of z0.at) rfl rfl ?_;left;refine aN (by decide+kernel) ?_;left;refine ⟨rfl,?_⟩;left;exact rh .mtch (.inr rfl) nofun hl hb z0.drop q
 case copy=>
  have q:jf d p O Q (c4 ⟨h,t,l,w,s,m⟩ cs ws):=q;walk_at "wd";rename_i p0 H0 z0;refine gi (aZ.of z0.at) rfl rfl ?_;left;refine ar (by decide+kernel) ?_
  replace z0:=z0.drop
  walk_at "wd";refine aB (λe=>?_) (λe=>?_)
  ·rw[c4,if_pos e] at q;walk_at "wd";exact q _ z0
  have b1:aD ws "look" [h]=none:=(congrArg _ (if_neg e)).symm.trans b1;have b2:aD ws "put" [t]=none:=(congrArg _ (if_neg e)).symm.trans b2;have m1:=(aG b1).1;have m2:=(aG b2).1;obtain ⟨g1,g2⟩:=ak m1;obtain ⟨g3,g4⟩:=ak m2;rw[c4,if_neg e,hm,if_pos m1,if_pos m2] at q;walk_at "wd";refine aL (by grind) (gR g1 nofun) ?_;walk_at "wd";refine fW z0 (.there .here) (dJ g3 (by rw[length_map];omega)) cH (λH1 z1=>?_);walk_at "wd"
  repeat walk_at "sc"
  walk_at "wd";rename_i H2 z2 H3 z3 H4 z4;rw[AB] at z4;rw[mF,AB];exact q _ z4
 case fill=>
  have q:jf d p O Q (cV ⟨h,t,l,w,s,m⟩ cs ws):=q;walk_at "wd";rename_i p0 H0 z0;refine gi (aZ.of z0.at) rfl rfl ?_;left;refine ar (by decide+kernel) ?_
  replace z0:=z0.drop
  walk_at "wd";refine aB (λe=>?_) (λe=>?_)
  ·rw[cV,if_pos e] at q;walk_at "wd";exact q _ z0
  have b2:aD ws "put" [t]=none:=(congrArg _ (if_neg e)).symm.trans b2;have m2:=(aG b2).1;obtain ⟨g3,g4⟩:=ak m2;rw[cV,if_neg e,if_pos m2] at q;walk_at "wd";refine fW z0 (.there .here) (dJ g3 (by rw[length_map];omega)) cH (λH1 z1=>?_);walk_at "wd"
  repeat walk_at "sc"
  walk_at "wd";rename_i H2 z2 H3 z3;rw[AB] at z3;rw[mF,AB];exact q _ z3
 case shift=>
  have q:jf d p O Q (bH ⟨h,t,l,w,s,m⟩ cs ws):=q;walk_at "wd";rename_i p0 H0 z0;refine gi (aZ.of z0.at) rfl rfl ?_;left;refine ar (by decide+kernel) ?_
  replace z0:=z0.drop
  walk_at "wd";refine aB (λe=>?_) (λe=>?_)
  ·rw[bH,if_pos e] at q;walk_at "wd";exact q _ z0
  rw[bH,if_neg e] at q;have b1:aD ws "look" (wA h t l .shift)=none:=(congrArg _ (if_neg e)).symm.trans b1;have b2:aD ws "put" (wL h t l .shift)=none:=(congrArg _ (if_neg e)).symm.trans b2;walk_at "wd"
  by_cases e2:t<=h
  ·have b1:aD ws "look" [h+0]=none:=(congrArg _ (if_pos e2)).symm.trans b1;have b2:aD ws "put" [t+0]=none:=(congrArg _ (if_pos e2)).symm.trans b2;rw[Int.add_zero] at b1 b2;have m1:=(aG b1).1;have m2:=(aG b2).1;obtain ⟨g1,g2⟩:=ak m1;obtain ⟨g3,g4⟩:=ak m2;rw[if_pos e2,hm,if_pos m1,if_pos m2] at q;refine aN (decide_eq_true e2) ?_;walk_at "wd";refine aL (by grind) (gR g1 nofun) ?_;walk_at "wd";refine fW z0 (.there .here) (dJ g3 (by rw[length_map];omega)) cH (λH1 z1=>?_);walk_at "wd"
   repeat walk_at "sc"
   walk_at "wd";rename_i H2 z2 H3 z3 H4 z4;rw[AB] at z4;rw[mF,AB];exact q _ z4
  ·have b1:aD ws "look" [h+(l-1)]=none:=(congrArg _ (if_neg e2)).symm.trans b1;have b2:aD ws "put" [t+(l-1)]=none:=(congrArg _ (if_neg e2)).symm.trans b2;rw[show h+(l-1)=h+l-1 by omega] at b1;rw[show t+(l-1)=t+l-1 by omega] at b2;have m1:=(aG b1).1;have m2:=(aG b2).1;obtain ⟨g1,g2⟩:=ak m1;obtain ⟨g3,g4⟩:=ak m2;rw[if_neg e2,hm,if_pos m1,if_pos m2] at q;refine ar (decide_eq_false e2) ?_;walk_at "wd";refine aL (by grind) (gR g1 nofun) ?_;walk_at "wd";refine fW z0 (.there .here) (dJ g3 (by rw[length_map];omega)) cH (λH1 z1=>?_);walk_at "wd"
   repeat walk_at "sc"
   walk_at "wd";rename_i H2 z2;rw[AB] at z2;rw[mF,AB];exact q _ z2
 case turn=>
  have q:jf d p O Q (cY ⟨h,t,l,w,s,m⟩ cs ws):=q;walk_at "wd";rename_i p0 H0 z0;refine gi (aZ.of z0.at) rfl rfl ?_;left;refine ar (by decide+kernel) ?_
  replace z0:=z0.drop
  walk_at "wd";refine aB (λe=>?_) (λe=>?_)
  ·rw[cY,if_pos e] at q;walk_at "wd";exact q _ z0
  rw[cY,if_neg e] at q;have b1:aD ws "look" (wA h t l .turn)=none:=(congrArg _ (if_neg e)).symm.trans b1;have b2:aD ws "put" (wL h t l .turn)=none:=(congrArg _ (if_neg e)).symm.trans b2;walk_at "wd"
  repeat walk_at "sc"
  refine ax (λe2=>?_) (λe2=>?_)
  ·have b1:aD ws "look" [h,h+l-1]=none:=(congrArg _ (if_neg nofun)).symm.trans b1;have b2:aD ws "put" [h,h+l-1]=none:=(congrArg _ (if_neg nofun)).symm.trans b2;obtain ⟨m1,b1⟩:=aG b1;obtain ⟨m3,b2⟩:=aG b2;have m2:=(aG b1).1;have m4:=(aG b2).1;obtain ⟨g1,g2⟩:=ak m1;obtain ⟨g3,g4⟩:=ak m2;rw[if_neg (show ¬ l=1 by omega),xm,if_pos m1,if_pos m2,if_pos m3,if_pos m4] at q;walk_at "wd";refine aL (by grind) (gR g1 nofun) ?_;walk_at "wd";refine aL (by grind) (gR g3 nofun) ?_;walk_at "wd";refine fW z0 (.there .here) (dJ g1 (by rw[length_map];omega)) cH (λH1 z1=>?_);walk_at "wd";refine fW z1 (.there .here) (dJ g3 (by rw[length_map,length_set];omega)) cH (λH2 z2=>?_);walk_at "wd";rename_i H3 z3 H4 z4;rw[Li] at z4;rw[mF,Li];exact q _ z4
  ·have e1:l=1:=by omega
   subst e1;rw[if_pos rfl] at q;walk_at "wd";rename_i H3 z3;rw[mF];exact q _ z3
def E6 {dd:Str}(hx:0<=x.l)(hb:bt ws (mG wd x) (wC wd x)=some (dd,c)):c8 wd x cs ws=.no dd c:=by
 obtain ⟨h,t,l,w,s,m⟩:=x;dsimp only at hx
 by_cases e:l=0
 ·have e1:mG wd ⟨h,t,l,w,s,m⟩=[]:=if_pos e;have e2:wC wd ⟨h,t,l,w,s,m⟩=[]:=if_pos e;rw[e1,e2] at hb;cases hb
 have e1:mG wd ⟨h,t,l,w,s,m⟩=wA h t l wd:=if_neg e;have e2:wC wd ⟨h,t,l,w,s,m⟩=wL h t l wd:=if_neg e;rw[e1,e2] at hb;cases wd
 ·show c4 _ _ _=_;unfold c4 hm;unfold bt wA wL aD aD at hb;rw[if_neg e]
  by_cases m1:ah ws "look" h=true<;>by_cases m2:ah ws "put" t=true<;>simp_all
 ·show cV _ _ _=_;unfold cV;unfold bt wA wL aD aD at hb;rw[if_neg e]
  by_cases m2:ah ws "put" t=true<;>simp_all
 ·show c6 _ _ _=_;unfold c6;unfold bt wA wL aD aD at hb;rw[if_neg e]
  by_cases m1:ah ws "look" h=true<;>simp_all
 ·show bI _ _ _=_;unfold bI;unfold bt wA wL aD aD aD at hb;rw[if_neg e]
  by_cases m1:ah ws "look" h=true<;>by_cases m2:ah ws "look" t=true<;>simp_all
 ·show bH _ _ _=_;unfold bH hm;rw[if_neg e]
  by_cases e2:t<=h
  ·rw[show wA h t l .shift=[h+0] from if_pos e2,show wL h t l .shift=[t+0] from if_pos e2,Int.add_zero,Int.add_zero] at hb;rw[if_pos e2];unfold bt aD aD at hb
   by_cases m1:ah ws "look" h=true<;>by_cases m2:ah ws "put" t=true<;>simp_all
  ·rw[show wA h t l .shift=[h+(l-1)] from if_neg e2,show wL h t l .shift=[t+(l-1)] from if_neg e2,show h+(l-1)=h+l-1 by omega,show t+(l-1)=t+l-1 by omega] at hb;rw[if_neg e2];unfold bt aD aD at hb
   by_cases m1:ah ws "look" (h+l-1)=true<;>by_cases m2:ah ws "put" (t+l-1)=true<;>simp_all
 ·show cY _ _ _=_;unfold cY xm;rw[if_neg e]
  by_cases e2:l=1
  ·rw[show wA h t l .turn=[] from if_pos e2,show wL h t l .turn=[] from if_pos e2] at hb;cases hb
  ·rw[show wA h t l .turn=[h,h+l-1] from if_neg e2,show wL h t l .turn=[h,h+l-1] from if_neg e2] at hb;rw[if_neg e2];unfold bt aD aD aD at hb
   by_cases m1:ah ws "look" h=true<;>by_cases m2:ah ws "look" (h+l-1)=true<;>by_cases m3:ah ws "put" h=true<;>by_cases m4:ah ws "put" (h+l-1)=true<;>simp_all
end
def du {xs:List α}(h0:0<=i)(h1:i<xs.length):∃ v,lL xs i=some v/\v ∈ xs:=by
 have hl:i.toNat<xs.length:=by omega
 refine ⟨xs[i.toNat],?_,getElem_mem hl⟩;have:=L2.pd (getElem?_eq_getElem hl)
 rwa [Int.toNat_of_nonneg h0] at this
def d7 (h0:0<=r)(h1:r<xs.length)(h:∀ v ∈ xs,P v):∃ v,lL xs r=some v/\P v:=by
 obtain ⟨v,hv,hm⟩:=du h0 h1;exact ⟨v,hv,h v hm⟩
abbrev inR (lo hi:Int)(v:V):Prop:=∃ i,v=.int i/\lo<=i/\i<=hi
def inR.mk {lo hi:Int}(h0:lo<=i)(h1:i<=hi):inR lo hi (.int i):=⟨i,rfl,h0,h1⟩
def JA {a b:V}(ha:P a)(hb:P b):∀ v ∈ [a,b],P v:=λv hv=>by
 simp only[mem_cons,not_mem_nil,or_false] at hv;rcases hv with rfl|rfl<;>assumption
def Lb {a b c:V}(ha:P a)(hb:P b)(hc:P c):∀ v ∈ [a,b,c],P v:=λv hv=>by
 simp only[mem_cons,not_mem_nil,or_false] at hv;rcases hv with rfl|rfl|rfl<;>assumption
def Lj {a b c d:V}(ha:P a)(hb:P b)(hc:P c)(hd:P d):∀ v ∈ [a,b,c,d],P v:=λv hv=>by
 simp only[mem_cons,not_mem_nil,or_false] at hv;rcases hv with rfl|rfl|rfl|rfl<;>assumption
abbrev gM:Nat->lQ->lQ
 |0,b=>b
 |n+1,.cons _ r=>gM n r
 |_+1,.nil=>.nil
abbrev Wd.cl:Wd->Nat
 | .copy=>Gf
 | .fill=>Gu
 | .seek=>FN
 | .mtch=>BE
 | .shift=>Ci
 | .turn=>Fv
def FK (wd:Wd)(hk:1<=k)(z:Sep O H)(q:∀ d H',Sep (dd R d wd.cl::O) H'->Q (.ref d) H'):ab tab R k qE [.str wd.s] H Q E:=by
 refine wc (d:=jt) nofun rfl rfl ?_;cases wd
 all_goals
  right
  repeat walk_at "sc"
  exact KQ z (λx dx H1 z1=>q x H1 (JX z1))
def Eh {t p:Addr}(h1:H t=some (.tup (ns.map V.int)))(h2:H p=some (.tup (ns.map V.int))):gE R.K H 2 (.ref t) (.ref p) true:=
 zt (n:=0) h1 h2 rfl λj x y e1 e2=>by
  rw[e1] at e2;cases e2;rw[getElem?_map] at e1;obtain ⟨i,_,rfl⟩:=Option.map_eq_some_iff.mp e1;exact ku (t:="int") rfl
def Ab:(wb.zip (x.ls.map V.int)).map (·.2)=x.ls.map V.int:=rfl
def yn {tp:Bool}{kvs:List (Key×V)}(s:Sep O H)(e:H d=some (.dK kvs))(h:∀ p H',H p=none->Sep (pt p (E4 tp (kvs.map (·.2)))::O) H'->Q (.ref p) H'):p6 tp (.ref d) H Q:=by unfold p6;exact ⟨d,kvs,rfl,e,λp hp=>h p _ hp (s.new hp)⟩
def Cn {p:Addr}(h1:H l=some (.lst (ws.map V.str)))(h2:H p=some (.lst (ws.map V.str))):gE R.K H 2 (.ref l) (.ref p) true:=
 kD (n:=0) h1 h2 λx hx=>by
  obtain ⟨z,_,rfl⟩:=List.mem_map.mp hx;exact ⟨"str",rfl⟩
inductive Bn where
 |h
 |t
 |l
 |w
 |s
 |m
abbrev Bn.j:Bn->Nat
 | .h=>0
 | .t=>1
 | .l=>2
 | .w=>3
 | .s=>4
 | .m=>5
abbrev Bn.nm:Bn->Str
 | .h=>"here"
 | .t=>"there"
 | .l=>"left"
 | .w=>"way"
 | .s=>"sign"
 | .m=>"met"
def Bn.at (b:Bn):pS[b.j]? =some b.nm:=by cases b<;>rfl
abbrev Bx.g (x:Bx):Bn->Int
 | .h=>x.h
 | .t=>x.t
 | .l=>x.l
 | .w=>x.w
 | .s=>x.s
 | .m=>x.m
abbrev Bx.p (x:Bx)(i:Int):Bn->Bx
 | .h=>⟨i,x.t,x.l,x.w,x.s,x.m⟩
 | .t=>⟨x.h,i,x.l,x.w,x.s,x.m⟩
 | .l=>⟨x.h,x.t,i,x.w,x.s,x.m⟩
 | .w=>⟨x.h,x.t,x.l,i,x.s,x.m⟩
 | .s=>⟨x.h,x.t,x.l,x.w,i,x.m⟩
 | .m=>⟨x.h,x.t,x.l,x.w,x.s,i⟩
def Bx.gl (x:Bx)(b:Bn):x.ls[b.j]? =some (x.g b):=by cases b<;>rfl
def Bx.pl (x:Bx)(i:Int)(b:Bn):x.ls.set b.j i=(x.p i b).ls:=by cases b<;>rfl
abbrev a9 (b:Bn)(i:Int):Bool:=bz b.j (.int i)
def Fd {b:Bn}(h:a9 b i=true)(o:x.ok):(x.p i b).ok:=by
 obtain ⟨o1,o2,o3,o4,o5,o6⟩:=o;cases b
 ·have h:(decide (-1000000000<=i)&&decide (i<=1000000000))=true:=h;have h: -1000000000<=i/\i<=1000000000:=by simpa using h
  exact ⟨h,o2,o3,o4,o5,o6⟩
 ·have h:(decide (-1000000000<=i)&&decide (i<=1000000000))=true:=h;have h: -1000000000<=i/\i<=1000000000:=by simpa using h
  exact ⟨o1,h,o3,o4,o5,o6⟩
 ·have h:(decide (0<=i)&&decide (i<=1000000000))=true:=h;have h:0<=i/\i<=1000000000:=by simpa using h
  exact ⟨o1,o2,h,o4,o5,o6⟩
 ·have h:(i ==1||i == -1)=true:=h;have h:i=1\/i= -1:=by simpa using h
  exact ⟨o1,o2,o3,h,o5,o6⟩
 ·have h:(decide (0<=i)&&decide (i<=1000000000))=true:=h;have h:0<=i/\i<=1000000000:=by simpa using h
  exact ⟨o1,o2,o3,o4,h,o6⟩
 ·have h:(i ==0||i ==1)=true:=h;have h:i=0\/i=1:=by simpa using h
  exact ⟨o1,o2,o3,o4,o5,h⟩
def Dr (h0:0<=r)(h1:r<6):∃ b:Bn,lL [V.str "here",V.str "there",V.str "left",V.str "way",V.str "sign",V.str "met"] r=some (.str b.nm):=by
 have:r=0\/r=1\/r=2\/r=3\/r=4\/r=5:=by omega
 rcases this with rfl|rfl|rfl|rfl|rfl|rfl
 ·exact ⟨.h,rfl⟩
 ·exact ⟨.t,rfl⟩
 ·exact ⟨.l,rfl⟩
 ·exact ⟨.w,rfl⟩
 ·exact ⟨.s,rfl⟩
 ·exact ⟨.m,rfl⟩
def J3 {b:Addr}{n:Bn}(ro:Ro K R)(hk:4<=k)(z:Sep (aM R b x::O) H)(q0:a9 n i=true->∀ H',Sep (aM R b (x.p i n)::O) H'->Q .non H')
  (q1:a9 n i=false->∀ e H',Sep (j4 (R.cad cz) [("box",.str n.nm),("number",.int i)] e false::aM R b x::O) H'->E e H'):ab tab R k aH [.ref b,.str n.nm,.int i] H Q E:=by
 cases h:a9 n i with
 |true=>exact qa ro hk z .here n.at h (x.pl i n) (Fd h) (q0 h)
 |false=>
  obtain ⟨o,z2⟩:=dU z;exact sA ro hk z2 n.at rfl h λe d H' z3=>q1 h e H' (jw (Sep.push (.there (.there .here)) (mJ o (z3.pull (.there (.there .here))))))
def yA {b:Addr}{n:Bn}(ro:Ro K R)(hk:2<=k)(z:Sep O H)(p:af (aM R b x) O Δ)(q:Q (.int (x.g n)) H):ab tab R k aJ [.ref b,.str n.nm] H Q E:=dE ro hk (dU (z.pull p)).2 n.at (x.gl n) q
def lW {K:W.Frag}{n:Bn}(z:Sep O H)(p:af (ao d x) O Δ)(q:Q (.int (x.g n)) H):rK K (.ref d) (.str n.nm) H Q:=by
 refine pR (k:=.inr n.nm) (v:=.int (x.g n)) (z.get p) ?_ q;cases n<;>rfl
def Bc {n:Bn}{P:Hp->Prop}(z:Sep O H)(r:aV (ao d x) (ao d (x.p i n)) O Γ')(q:∀ H',Sep Γ' H'->P H'):g9 (.ref d) (.str n.nm) (.int i) H P:=rB z r n.at (x.pl i n) q
inductive Sp where
 |set (b:Bn) (i:Int)
 |add (b:Bn) (i:Int)
 |take (b c:Bn)
 |read (b:Bn)
 |write (b:Bn)
abbrev Sp.w:Sp->Str
 | .set _ _=>"set"
 | .add _ _=>"add"
 | .take _ _=>"take"
 | .read _=>"read"
 | .write _=>"write"
abbrev Sp.b:Sp->Bn
 | .set b _=>b
 | .add b _=>b
 | .take b _=>b
 | .read b=>b
 | .write b=>b
abbrev Sp.tl:Sp->List V
 | .set b i=>[.str "set",.str b.nm,.int i]
 | .add b i=>[.str "add",.str b.nm,.int i]
 | .take b c=>[.str "take",.str b.nm,.str c.nm]
 | .read b=>[.str "read",.str b.nm]
 | .write b=>[.str "write",.str b.nm]
abbrev Sp.cl:Sp->Nat
 | .set _ _=>DF
 | .add _ _=>D7
 | .take _ _=>yg
 | .read _=>Ag
 | .write _=>uP
abbrev Sp.fs:Sp->List (Str×V)
 | .set b i=>[("box",.str b.nm),("number",.int i)]
 | .add b i=>[("box",.str b.nm),("number",.int i)]
 | .take b c=>[("box",.str b.nm),("other",.str c.nm)]
 | .read b=>[("box",.str b.nm)]
 | .write b=>[("box",.str b.nm)]
abbrev Sp.ok:Sp->Prop
 | .set _ i=>-1000000000<=i/\i<=1000000000
 | .add _ i=>-1000000000<=i/\i<=1000000000
 |_=>True
inductive vX where
 |on (x:Bx) (cs:List Int)
 |no (d:Str) (c:Int)
 |nf (b:Bn) (i:Int)
abbrev bc (x:Bx)(cs:List Int)(b:Bn)(i:Int):vX:=if a9 b i=true then .on (x.p i b) cs else .nf b i
abbrev jQ (x:Bx)(cs:List Int)(ws:List Str):Sp->vX
 | .set b i=>bc x cs b i
 | .add b i=>bc x cs b (x.g b+i)
 | .take b c=>bc x cs b (x.g c)
 | .read b=>if ah ws "look" x.h=true then bc x cs b (gt cs x.h) else .no "look" x.h
 | .write b=>if fH (.int (x.g b))=true then (if ah ws "put" x.t=true then .on x (cs.set x.t.toNat (x.g b)) else .no "put" x.t) else .nf b (x.g b)
abbrev sd (R:Rt)(d:Addr)(sp:Sp):ay:=bx λdx:Addr=>[pt d (.ins (R.cad sp.cl) dx sp.fs),pt dx (.own d)]
def zw (s:Sep (pt d (.ins (R.cad sp.cl) dx sp.fs)::pt dx (.own d)::O) H):Sep (sd R d sp::O) H:=hJ dx s
def rH (s:Sep O H)(p:af (sd R d sp) O Δ):∃ dx,H d=some (.ins (R.cad sp.cl) dx sp.fs):=by
 obtain ⟨dx,s⟩:=iT (s.pull p);exact ⟨dx,Sep.at s⟩
abbrev eX (R:Rt)(b a:Addr)(x:Bx)(cs:List Int)(ws:List Str)(O:List ay)(Q:VK)(E:XK):vX->Prop
 | .on x' cs'=>∀ H',Sep (aM R b x'::aY R a cs' ws::O) H'->Q (.int 1) H'
 | .no d c=>∀ e H',Sep (j4 (R.cad aX) [("deed",.str d),("cell",.int c)] e false::aM R b x::aY R a cs ws::O) H'->E e H'
 | .nf n i=>∀ e H',Sep (j4 (R.cad cz) [("box",.str n.nm),("number",.int i)] e false::aM R b x::aY R a cs ws::O) H'->E e H'
def j7 {b:Addr}{cs:List Int}{n:Bn}(ro:Ro K R)(hk:4<=k)(z:Sep (aM R b x::aY R a cs ws::O) H)(q:eX R b a x cs ws O (λ_=>Q .non) E (bc x cs n i)):ab tab R k aH [.ref b,.str n.nm,.int i] H Q E:=by
 unfold bc at q;refine J3 ro hk z (λh H' z'=>?_) (λh e H' z'=>?_)
 ·rw[if_pos h] at q;exact q H' z'
 ·rw[if_neg (by rw[h];exact Bool.false_ne_true)] at q;exact q e H' z'
def eX.imp {b:Addr}{cs:List Int}{Q':VK}(h:∀ H',Q (.int 1) H'->Q' (.int 1) H'):∀ {o:vX},eX R b a x cs ws O Q E o->eX R b a x cs ws O Q' E o
 | .on _ _,q=>λH' z=>h _ (q H' z)
 | .no _ _,q=>q
 | .nf _ _,q=>q
def Ic:Ob R (sd R d sp) d sp.cl (sp.fs.map (·.1)):=by
 rintro H D ⟨dx,D1,D2,_,_,_,⟨_,h⟩,_⟩;exact ⟨dx,_,h,rfl⟩
def C7 (sp:Sp)(ro:Ro K R):∃ f,tab.me.lookup (sp.cl,("step":Str))=some f/\(∀ Ψ,dflt ⟨tab,R,Ψ,true⟩ f 3=[])/\∀ {k:Nat}{de b a:Addr}{x:Bx}{cs:List Int}{ws:List Str}{O:List ay}{H:Hp}{Q:VK}{E:XK},5<=k->Sep (aM R b x::aY R a cs ws::sd R de sp::O) H->eX R b a x cs ws (sd R de sp::O) Q E (jQ x cs ws sp)->ab tab R k f [.ref de,.ref b,.ref a] H Q E:=by
 cases sp with
 |set n i=>
  refine ⟨sr,rfl,λ_=>rfl,λ{k de b a x cs ws O H Q E} hk z q=>wc (d:=k3) nofun rfl rfl ?_⟩;obtain ⟨dx,e⟩:=rH z (by symm);right;refine ae ba z (by symm) rfl rfl ?_;left;refine cD e rfl rfl rfl ?_;left;refine cD e rfl rfl rfl ?_;left;refine aW (vs':=[_,_,_]) rfl ?_;exact j7 ro nofun z (eX.imp (Q:=Q) (λH' h=>h) q)
 |add n i=>
  refine ⟨tI,rfl,λ_=>rfl,λ{k de b a x cs ws O H Q E} hk z q=>wc (d:=kG) nofun rfl rfl ?_⟩;obtain ⟨dx,e⟩:=rH z (by symm);right;refine ae ba z (by symm) rfl rfl ?_;left;refine cD e rfl rfl rfl ?_;right;refine ae ba z (by symm) rfl rfl ?_;left;refine cD e rfl rfl rfl ?_;left;refine aW (vs':=[_,_]) rfl ?_;refine yA (n:=n) ro nofun z (by symm) ?_;left;refine cD e rfl rfl rfl ?_;right;refine aW (vs':=[_,_,_]) rfl ?_;exact j7 ro nofun z (eX.imp (Q:=Q) (λH' h=>h) q)
 |take n m=>
  refine ⟨qD,rfl,λ_=>rfl,λ{k de b a x cs ws O H Q E} hk z q=>wc (d:=jb) nofun rfl rfl ?_⟩;obtain ⟨dx,e⟩:=rH z (by symm);right;refine ae ba z (by symm) rfl rfl ?_;left;refine cD e rfl rfl rfl ?_;right;refine ae ba z (by symm) rfl rfl ?_;left;refine cD e rfl rfl rfl ?_;left;refine aW (vs':=[_,_]) rfl ?_;refine yA (n:=m) ro nofun z (by symm) ?_;left;refine aW (vs':=[_,_,_]) rfl ?_;exact j7 ro nofun z (eX.imp (Q:=Q) (λH' h=>h) q)
 |read n=>
  refine ⟨qH,rfl,λ_=>rfl,λ{k de b a x cs ws O H Q E} hk z q=>wc (d:=jB) nofun rfl rfl ?_⟩;obtain ⟨dx,e⟩:=rH z (by symm);right;refine ae ba z (by symm) rfl rfl ?_;left;refine cD e rfl rfl rfl ?_;right;refine ae bJ z (by symm) rfl rfl ?_;right;refine ae ba z (by symm) rfl rfl ?_;left;refine aW (vs':=[_,_]) rfl ?_;refine yA (n:=.h) ro nofun z (by symm) ?_;left;refine aW (vs':=[_,_]) rfl ?_;have q:eX R b a x cs ws (sd R de (.read n)::O) Q E (if ah ws "look" x.h=true then bc x cs n (gt cs x.h) else .no "look" x.h):=q;refine dH (i:=x.h) nofun z (by symm) (λh=>?_) (λh e H' z'=>?_)
  ·rw[if_pos h] at q;left;refine aW (vs':=[_,_,_]) rfl ?_;exact j7 ro nofun z (eX.imp (Q:=Q) (λH' h=>h) q)
  ·rw[if_neg (by rw[h];exact Bool.false_ne_true)] at q;exact q e H' z'
 |write n=>
  refine ⟨pO,rfl,λ_=>rfl,λ{k de b a x cs ws O H Q E} hk z q=>wc (d:=gF) nofun rfl rfl ?_⟩;obtain ⟨dx,e⟩:=rH z (by symm);have q:eX R b a x cs ws (sd R de (.write n)::O) Q E (if fH (.int (x.g n))=true then (if ah ws "put" x.t=true then .on x (cs.set x.t.toNat (x.g n)) else .no "put" x.t) else .nf n (x.g n)):=q;right;refine ae ba z (by symm) rfl rfl ?_;left;refine cD e rfl rfl rfl ?_;left;refine aW (vs':=[_,_]) rfl ?_;refine yA (n:=n) ro nofun z (by symm) ?_;right;refine cw (t:="int") ro nofun rfl ?_;cases hc:fH (.int (x.g n)) with
  |false=>
   rw[if_neg (by rw[hc];exact Bool.false_ne_true)] at q;right;refine cD e rfl rfl rfl ?_;right;intro ex he;refine gW nofun (z.new he) (λd H3 hs3=>⟨rfl,?_⟩);exact eG (G:=⟨tab,R,ab tab R (k-1),true⟩) hs3 .here rfl (λH4 hs4=>q ex H4 (jw hs4))
  |true=>
   rw[if_pos hc] at q;right;refine ae bJ z (by symm) rfl rfl ?_;right;refine ae ba z (by symm) rfl rfl ?_;left;refine aW (vs':=[_,_]) rfl ?_;refine yA (n:=.t) ro nofun z (by symm) ?_;left;refine aW (vs':=[_,_,_]) rfl ?_;have hc2:0<=x.g n/\x.g n<=1000000000:=by
    have hc3:(decide (0<=x.g n)&&decide (x.g n<=1000000000))=true:=hc;simpa using hc3
   refine kx (i:=x.t) nofun z (by ac_rfl) hc2 (λh H' z'=>?_) (λh e H' z'=>?_)
   ·rw[if_pos h] at q;exact q H' z'
   ·rw[if_neg (by rw[h];exact Bool.false_ne_true)] at q;exact q e H' z'
def bA {w:Str}{n:Bn}(ro:Ro K R)(hk:2<=k)(q:Q .non H):ab tab R k qz [.str w,.str n.nm] H Q E:=by
 refine wc (d:=jl) nofun rfl rfl ?_;right;refine og (t:="str") ro nofun rfl ?_;rw[rZ n.at];right;exact q
def fu {w:Str}(ro:Ro K R)(hk:3<=k)(h0: -1000000000<=i)(h1:i<=1000000000)(q:Q .non H):ab tab R k k6 [.str w,.int i] H Q E:=by
 refine wc (d:=ft) nofun rfl rfl ?_;right;refine eC (t:="int") ro nofun rfl ?_;rw[show fm (.int i)=true by simp[fm,h0,h1]];right;exact q
def Ja {x:Addr}{n:Bn}(ro:Ro K R)(hk:4<=k)(h0: -1000000000<=i)(h1:i<=1000000000)(z:Sep (pt x (.ins (R.cad DF) dx [])::pt dx (.own x)::O) H)(q:∀ H',Sep (sd R x (.set n i)::O) H'->Q .non H'):ab tab R k k7 [.ref x,.str n.nm,.int i] H Q E:=by
 refine wc (d:=eK) nofun rfl rfl ?_;right;refine bA ro nofun ?_;right;refine fu ro nofun h0 h1 ?_;right;exact q _ (zw (by assumption))
def Jd {x:Addr}{n:Bn}(ro:Ro K R)(hk:4<=k)(h0: -1000000000<=i)(h1:i<=1000000000)(z:Sep (pt x (.ins (R.cad D7) dx [])::pt dx (.own x)::O) H)(q:∀ H',Sep (sd R x (.add n i)::O) H'->Q .non H'):ab tab R k ly [.ref x,.str n.nm,.int i] H Q E:=by
 refine wc (d:=fq) nofun rfl rfl ?_;right;refine bA ro nofun ?_;right;refine fu ro nofun h0 h1 ?_;right;exact q _ (zw (by assumption))
def Ig {x:Addr}{n m:Bn}(ro:Ro K R)(hk:4<=k)(z:Sep (pt x (.ins (R.cad yg) dx [])::pt dx (.own x)::O) H)(q:∀ H',Sep (sd R x (.take n m)::O) H'->Q .non H'):ab tab R k jN [.ref x,.str n.nm,.str m.nm] H Q E:=by
 refine wc (d:=dP) nofun rfl rfl ?_;right;refine bA ro nofun ?_;right;refine bA ro nofun ?_;right;exact q _ (zw (by assumption))
def Hz {x:Addr}{n:Bn}(ro:Ro K R)(hk:4<=k)(z:Sep (pt x (.ins (R.cad Ag) dx [])::pt dx (.own x)::O) H)(q:∀ H',Sep (sd R x (.read n)::O) H'->Q .non H'):ab tab R k jG [.ref x,.str n.nm] H Q E:=by
 refine wc (d:=dR) nofun rfl rfl ?_;right;refine bA ro nofun ?_;right;exact q _ (zw (by assumption))
def Jq {x:Addr}{n:Bn}(ro:Ro K R)(hk:4<=k)(z:Sep (pt x (.ins (R.cad uP) dx [])::pt dx (.own x)::O) H)(q:∀ H',Sep (sd R x (.write n)::O) H'->Q .non H'):ab tab R k iU [.ref x,.str n.nm] H Q E:=by
 refine wc (d:=dw) nofun rfl rfl ?_;right;refine bA ro nofun ?_;right;exact q _ (zw (by assumption))
abbrev kY:V->Bool
 | .int i=>decide (0<=i)&&decide (i<=24)
 |_=>false
abbrev G1:V->Bool
 | .non=>true
 | .int i=>i ==0||i ==1
 |_=>false
def wN (ro:Ro K R)(hk:2<=k)(ht:tyName v H=some t)(q:Q (.bl (kY v)) H):ab tab R k xf [v] H Q E:=by
 refine wc (d:=ng) nofun rfl rfl ?_;right;refine aF nofun ht ?_;cases dC ht
 case int i=>
  right;refine ax (λh0=>?_) (λh0=>?_)
  ·left;simp only[ro.g_MOST_HOPPED];right;rw[show kY (.int i)=decide (i<=24) by simp[kY,h0]] at q;exact q
  ·right;rw[show kY (.int i)=false by simp[kY,h0]] at q;exact q
 all_goals
  right;exact q
def AW (hk:2<=k)(ht:tyName v H=some t)(q:Q (.bl (G1 v)) H):ab tab R k BY [v] H Q E:=by
 refine wc (d:=uR) nofun rfl rfl ?_;right;refine iY ?_;cases dC ht
 case int i=>
  left;refine ar rfl ?_;right;refine aF (t:="int") nofun rfl ?_;right;refine aB (λh0=>?_) (λh0=>?_)
  ·right;rw[show G1 (.int i)=true by simp[G1,h0]] at q;exact q
  ·right;rw[show G1 (.int i)=(i ==1) by simp[G1,h0]] at q;exact q
 case non=>
  left;refine aN rfl ?_;exact q
 all_goals
  left;refine ar rfl ?_;right;refine aF nofun ht ?_;right;exact q
abbrev oV:Option Int->V
 |none=>.non
 |some i=>.int i
abbrev Lc:Option Int->Prop
 |none=>True
 |some i=>i=0\/i=1
abbrev GY (R:Rt)(d:Addr)(n:Int)(o:Option Int):ay:=bx λdx:Addr=>[pt d (.ins (R.cad mP) dx [("many",.int n),("on",oV o)]),pt dx (.own d)]
def Ke {n:Int}(s:Sep (pt d (.ins (R.cad mP) dx [("many",.int n),("on",oV o)])::pt dx (.own d)::O) H):Sep (GY R d n o::O) H:=hJ dx s
def Io {n:Int}(s:Sep O H)(p:af (GY R d n o) O Δ):∃ dx,H d=some (.ins (R.cad mP) dx [("many",.int n),("on",oV o)]):=by
 obtain ⟨dx,s⟩:=iT (s.pull p);exact ⟨dx,Sep.at s⟩
def HZ {n:Int}:Ob R (GY R d n o) d mP ["many","on"]:=by
 rintro H D ⟨dx,D1,D2,_,_,_,⟨_,h⟩,_⟩;exact ⟨dx,_,h,rfl⟩
def Im {x:Addr}{n:Int}(ro:Ro K R)(hk:4<=k)(h0:0<=n)(h1:n<=24)(ho:Lc o)(z:Sep (pt x (.ins (R.cad mP) dx [])::pt dx (.own x)::O) H)(q:∀ H',Sep (GY R x n o::O) H'->Q .non H'):ab tab R k kB [.ref x,.int n,oV o] H Q E:=by
 refine wc (d:=eD) nofun rfl rfl ?_;right;refine wN (t:="int") ro nofun rfl ?_;rw[show kY (.int n)=true by simp[kY,h0,h1]];right;obtain ⟨t,ht⟩:∃ t,tyName (oV o) H=some t:=by cases o<;>exact ⟨_,rfl⟩
 refine AW nofun ht ?_;rw[show G1 (oV o)=true by cases o with|none=>rfl|some i=>rcases ho with rfl|rfl<;>rfl];right;exact q _ (Ke (by assumption))
abbrev Hm (n:Int)(o:Option Int)(m:Int):Int:=match o with
 |none=>1+n
 |some i=>if i=m then 1+n else 1
def Dj {b:Addr}{n:Int}(ro:Ro K R)(hk:3<=k)(z:Sep O H)(p1:af (GY R d n o) O Δ){Δ':List ay}(p2:af (aM R b x) O Δ')(q:Q (.int (Hm n o x.m)) H):ab tab R k kN [.ref d,.ref b,v] H Q E:=by
 refine wc (d:=ke) nofun rfl rfl ?_;obtain ⟨dx,e⟩:=Io z p1;right;refine cD e rfl rfl rfl ?_;right;refine iY ?_;cases o with
 |none=>
  left;refine aN rfl ?_;right;refine cD e rfl rfl rfl ?_;right;exact q
 |some i=>
  left;refine ar rfl ?_;right;refine cD e rfl rfl rfl ?_;right;refine ae ba z p2 rfl rfl ?_;left;refine aW (vs':=[_,_]) rfl ?_;obtain ⟨h,t,l,w,s,m⟩:=x;refine Ik ro nofun z p2 ?_;right;have q:Q (.int (if i=m then 1+n else 1)) H:=q;refine aB (λh0=>?_) (λh0=>?_)
  ·rw[if_pos h0] at q;right;refine cD e rfl rfl rfl ?_;right;exact q
  ·rw[if_neg h0] at q;right;exact q
def step_any (wd:Wd)(ro:Ro K R):∃ f,tab.me.lookup (wd.cl,("step":Str))=some f/\(∀ Ψ,dflt ⟨tab,R,Ψ,true⟩ f 3=[])/\∀ {k:Nat}{v:V}{b a:Addr}{x:Bx}{cs:List Int}{ws:List Str}{O:List ay}{H:Hp}{Q:VK}{E:XK},8<=k->Sep (aM R b x::aY R a cs ws::O) H->t7 R b a x cs ws O Q E (c8 wd x cs ws)->ab tab R k f [v,.ref b,.ref a] H Q E:=by
 cases wd
 ·exact ⟨jk,rfl,λ_=>rfl,λhk z q=>B6 ro hk z q⟩
 ·exact ⟨jq,rfl,λ_=>rfl,λhk z q=>Bj ro hk z q⟩
 ·exact ⟨jc,rfl,λ_=>rfl,λhk z q=>AQ ro hk z q⟩
 ·exact ⟨hW,rfl,λ_=>rfl,λhk z q=>Ar ro hk z q⟩
 ·exact ⟨gy,rfl,λ_=>rfl,λhk z q=>xO ro nofun z q⟩
 ·exact ⟨jv,rfl,λ_=>rfl,λhk z q=>Cm ro nofun z q⟩
def j8 {n:Bn}(hk:1<=k)(q:Q (.bl (a9 n i)) H):ab tab R k qF [.str n.nm,.int i] H Q E:=by
 refine wc (d:=jD) nofun rfl rfl ?_;cases n
 all_goals right
 all_goals repeat walk_at "sc"
 ·rw[gG];refine ax (λh0=>?_) (λh0=>?_)
  ·right;rw[gG];rw[show a9 .h i=decide (i<=1000000000) by simp[a9,Bn.j,bz,fm,h0]] at q;exact q
  ·right;rw[show a9 .h i=false by simp[a9,Bn.j,bz,fm,h0]] at q;exact q
 ·rw[gG];refine ax (λh0=>?_) (λh0=>?_)
  ·right;rw[gG];rw[show a9 .t i=decide (i<=1000000000) by simp[a9,Bn.j,bz,fm,h0]] at q;exact q
  ·right;rw[show a9 .t i=false by simp[a9,Bn.j,bz,fm,h0]] at q;exact q
 ·refine ax (λh0=>?_) (λh0=>?_)
  ·right;rw[gG];rw[show a9 .l i=decide (i<=1000000000) by simp[a9,Bn.j,bz,fH,h0]] at q;exact q
  ·right;rw[show a9 .l i=false by simp[a9,Bn.j,bz,fH,h0]] at q;exact q
 ·refine aB (λh0=>?_) (λh0=>?_)
  ·right;rw[show a9 .w i=true by simp[a9,Bn.j,bz,mh,h0]] at q;exact q
  ·right;rw[show a9 .w i=(i == -1) by simp[a9,Bn.j,bz,mh,h0]] at q;exact q
 ·refine ax (λh0=>?_) (λh0=>?_)
  ·right;rw[gG];rw[show a9 .s i=decide (i<=1000000000) by simp[a9,Bn.j,bz,fH,h0]] at q;exact q
  ·right;rw[show a9 .s i=false by simp[a9,Bn.j,bz,fH,h0]] at q;exact q
 ·refine aB (λh0=>?_) (λh0=>?_)
  ·right;rw[show a9 .m i=true by simp[a9,Bn.j,bz,mh,h0]] at q;exact q
  ·right;rw[show a9 .m i=(i ==1) by simp[a9,Bn.j,bz,mh,h0]] at q;exact q
inductive Rw where
 |lg (w:Wd)
 |sp (s:Sp)
 |hop (n:Int) (o:Option Int)
abbrev Rw.tl:Rw->List V
 | .lg w=>[.str w.s]
 | .sp s=>s.tl
 | .hop n o=>[.str "hop",.int n,oV o]
abbrev Rw.ok:Rw->Prop
 | .lg _=>True
 | .sp s=>s.ok
 | .hop n o=>(0<=n/\n<=24)/\Lc o
abbrev Rw.cl:Rw->Nat
 | .lg w=>w.cl
 | .sp s=>s.cl
 | .hop _ _=>mP
abbrev nc (R:Rt)(d:Addr):Rw->ay
 | .lg w=>dd R d w.cl
 | .sp s=>sd R d s
 | .hop n o=>GY R d n o
abbrev Rw.fs:Rw->List Str
 | .lg _=>[]
 | .sp s=>s.fs.map (·.1)
 | .hop _ _=>["many","on"]
def Dy (r:Rw):Ob R (nc R d r) d r.cl r.fs:=by
 cases r with
 |lg w=>exact HI
 |sp s=>exact Ic
 |hop n o=>exact HZ
def Ir {r:Rw}(z:Sep O H)(p:af (nc R d r) O Δ):∃ dx fs,H d=some (.ins (R.cad r.cl) dx fs):=by
 obtain ⟨D,k,D1,D2,s1,s2,dj,h1,h2⟩:=z.pull p;obtain ⟨dx,fs,e,_⟩:=Dy r H D1 h1;exact ⟨dx,fs,e⟩
inductive ki where
 |on (r:Int) (x:Bx) (cs:List Int)
 |no (d:Str) (c:Int)
 |nf (b:Bn) (i:Int)
abbrev ofM:Out->ki
 | .on r x cs=>.on r x cs
 | .no d c=>.no d c
abbrev jJ:vX->ki
 | .on x cs=>.on 1 x cs
 | .no d c=>.no d c
 | .nf b i=>.nf b i
abbrev eI (x:Bx)(cs:List Int)(ws:List Str):Rw->ki
 | .lg w=>ofM (c8 w x cs ws)
 | .sp s=>jJ (jQ x cs ws s)
 | .hop n o=>.on (Hm n o x.m) x cs
abbrev yE (R:Rt)(b a:Addr)(x:Bx)(cs:List Int)(ws:List Str)(O:List ay)(Q:VK)(E:XK):ki->Prop
 | .on r x' cs'=>∀ H',Sep (aM R b x'::aY R a cs' ws::O) H'->Q (.int r) H'
 | .no d c=>∀ e H',Sep (j4 (R.cad aX) [("deed",.str d),("cell",.int c)] e false::aM R b x::aY R a cs ws::O) H'->E e H'
 | .nf n i=>∀ e H',Sep (j4 (R.cad cz) [("box",.str n.nm),("number",.int i)] e false::aM R b x::aY R a cs ws::O) H'->E e H'
def A7 (r:Rw)(ro:Ro K R):∃ f,tab.me.lookup (r.cl,("step":Str))=some f/\(∀ Ψ,dflt ⟨tab,R,Ψ,true⟩ f 3=[])/\∀ {k:Nat}{de b a:Addr}{x:Bx}{cs:List Int}{ws:List Str}{O:List ay}{H:Hp}{Q:VK}{E:XK},8<=k->Sep (aM R b x::aY R a cs ws::nc R de r::O) H->yE R b a x cs ws (nc R de r::O) Q E (eI x cs ws r)->ab tab R k f [.ref de,.ref b,.ref a] H Q E:=by
 cases r with
 |lg w=>
  obtain ⟨f,hf,hd,hs⟩:=step_any w ro;refine ⟨f,hf,hd,λ{k de b a x cs ws O H Q E} hk z q=>hs hk z ?_⟩;have q:yE R b a x cs ws (nc R de (.lg w)::O) Q E (ofM (c8 w x cs ws)):=q
  revert q
  cases c8 w x cs ws<;>exact λq=>q
 |sp s=>
  obtain ⟨f,hf,hd,hs⟩:=C7 s ro;refine ⟨f,hf,hd,λ{k de b a x cs ws O H Q E} hk z q=>hs nofun z ?_⟩;have q:yE R b a x cs ws (nc R de (.sp s)::O) Q E (jJ (jQ x cs ws s)):=q
  revert q
  cases jQ x cs ws s<;>exact λq=>q
 |hop n o=>
  refine ⟨kN,rfl,λ_=>rfl,λ{k de b a x cs ws O H Q E} hk z q=>?_⟩;exact Dj ro nofun z (.there (.there .here)) .here (q H z)
def vB {cs:List Int}(ro:Ro K R)(hk:5<=k)(z:Sep O H)(p:af (aY R a cs ws) O Δ)(q:∀ c H',Sep (aY R c cs ws::O) H'->Q (.ref c) H'):ab tab R k lE [.ref a] H Q E:=by
 refine wc (d:=eU) nofun rfl rfl ?_;have ok:=cF z p;right;rename_i l H1 z1;intro c dx g1 g2 g3;refine oo (cs:=[0]) ro nofun (by decide) (by decide) (λi hi=>by rw[mem_singleton.mp hi];decide) (gk z1 g1 g2 g3) .here (λH2 z2=>⟨rfl,?_⟩);obtain ⟨_,z3⟩:=jg z2;obtain ⟨dx1,c1,d1,z4⟩:=bY z3;obtain ⟨_,z5⟩:=jg (z4.pull (.there (.there (.there (.there (.there p))))));obtain ⟨dx2,c2,d2,z6⟩:=bY z5;clear z1 z2 z3 z4 z5;right;rename_i l3 H3 z7 H4 z8 l5 H5 z9 H6 z10;refine q c H6 ?_;have z11:Sep (pt c (.ins (R.cad au) dx1 [("contents",.ref l3),("permits",.ref l5)])::pt dx1 (.own c)::pt l3 (.lst (cs.map V.int))::pt l5 (.lst (ws.map V.str))::pt a (.ins (R.cad au) dx2 [("contents",.ref c2),("permits",.ref d2)])::pt dx2 (.own a)::pt c2 (.lst (cs.map V.int))::pt d2 (.lst (ws.map V.str))::Δ) H6:=z10.sub (by ac_nf);have z12:=kL ok (eA z11);have z13:Sep (pt a (.ins (R.cad au) dx2 [("contents",.ref c2),("permits",.ref d2)])::pt dx2 (.own a)::pt c2 (.lst (cs.map V.int))::pt d2 (.lst (ws.map V.str))::aY R c cs ws::Δ) H6:=z12.sub (by ac_nf);exact Sep.push (.there p) (kL ok (eA z13))
def wg {b:Addr}(ro:Ro K R)(hk:5<=k)(z:Sep O H)(p:af (aM R b x) O Δ)(q:∀ c H',Sep (aM R c x::O) H'->Q (.ref c) H'):ab tab R k eE [.ref b] H Q E:=by
 obtain ⟨o,z2⟩:=dU (z.pull p);refine wm ro hk z2 (λc H' z3=>q c H' ?_);have z4:=mJ o z3;have z5:=mJ o (z4.pull (.there .here));exact Sep.push (.there p) z5
abbrev rW (R:Rt)(m l s b:Addr)(at_:Int)(ds:List V):ay:=bx λdx:Addr=>[pt m (.ins (R.cad aU) dx [("deeds",.ref l),("store",.ref s),("boxes",.ref b),("at",.int at_)]),pt dx (.own m),pt l (.lst ds)]
def yC {m s b:Addr}(z:Sep (rW R m l s b at_ ds::O) H):∃ dx,Sep (pt m (.ins (R.cad aU) dx [("deeds",.ref l),("store",.ref s),("boxes",.ref b),("at",.int at_)])::pt dx (.own m)::pt l (.lst ds)::O) H:=iT z
def C8 {m s b:Addr}(z:Sep (pt m (.ins (R.cad aU) dx [("deeds",.ref l),("store",.ref s),("boxes",.ref b),("at",.int at_)])::pt dx (.own m)::pt l (.lst ds)::O) H):Sep (rW R m l s b at_ ds::O) H:=hJ dx z
def DV {m s b:Addr}:Ob R (rW R m l s b at_ ds) m aU ["deeds","store","boxes","at"]:=by
 rintro H D ⟨dx,D1,D2,_,_,_,⟨_,h⟩,_⟩;exact ⟨dx,_,h,rfl⟩
abbrev Fm (R:Rt)(O:List ay)(ds:List V):Prop:=∀ v ∈ ds,∃ a r Δ,v=.ref a/\af (nc R a r) O Δ
def uV (r:Rw):tab.oc.contains r.cl=true/\tab.sub.lookup (r.cl,Fj)=some true:=by
 cases r with
 |lg w=>cases w<;>exact ⟨rfl,rfl⟩
 |sp s=>cases s<;>exact ⟨rfl,rfl⟩
 |hop n o=>exact ⟨rfl,rfl⟩
def oO (ro:Ro K R)(hk:1<=k)(h0:1<=ds.length)(h1:ds.length<=24)(z:Sep O H)(p:af (pt l (.lst ds)) O Δ)(hd:Fm R O ds)(q:∀ H',Sep O H'->Q .non H'):ab tab R k ou [.ref l] H Q E:=by
 refine wc (d:=gu) nofun rfl rfl ?_;left;refine cn (t:="list") (vY (z.get p)) rfl ?_;right;refine gI (z.get p) ?_;right;refine ax (λh=>?_) (λh=>absurd nofun h);left;simp only[ro.g_MOST_ROWS];right;refine ax (λh=>?_) (λh=>absurd nofun h);right;refine CO (z.get p) ?_;refine jV (xs:=ds) (λj U H=>∃ u v,U=[some (.ref l),u,v]/\Sep O H) ?_ ?_ ?_ ?_
 ·exact ⟨none,none,rfl,z⟩
 ·rintro j U H ⟨u,v,rfl,hs⟩;exact hs.get p
 ·rintro j x T U H hx ⟨u,v,rfl,hs⟩ hT;obtain ⟨a,r,Δ',rfl,hp⟩:=hd x (mem_of_getElem? hx);have hs4:=hs.g6 (xs:=[.int j,.ref a]) hT;obtain ⟨dx,fs,e⟩:=Ir hs4 (.there hp);left;refine ⟨T,_,rfl,.inl (aZ.of hs4.atT),rfl,?_⟩;generalize upd H T _=H4 at hs4 e⊢;right;refine Iw e (uV r).1 (b:=true) (uV r).2 ?_;right;exact ⟨_,_,rfl,hs4.drop⟩
 ·rintro U H ⟨u,v,rfl,hs⟩;exact q _ hs
def mr {n:Int}(hk:2<=k)(h0:0<=at_)(h1:at_<=n)(q:Q .non H):ab tab R k lO [.int at_,.int n] H Q E:=by
 refine wc (d:=fT) nofun rfl rfl ?_;right;refine aF (t:="int") nofun rfl ?_;right;refine ax (λh=>?_) (λh=>absurd h0 h);right;refine ax (λh=>?_) (λh=>absurd h1 h);right;exact q
def vJ {m s b:Addr}{cs:List Int}(ro:Ro K R)(hk:6<=k)(n0:1<=ds.length)(n1:ds.length<=24)(h0:0<=at_)(h1:at_<=ds.length){Δl Δs Δb:List ay}(pl:af (pt l (.lst ds)) O Δl)(ps:af (aY R s cs ws) O Δs)(pb:af (aM R b x) O Δb)(hd:Fm R O ds)
  (z:Sep (pt m (.ins (R.cad aU) dx [])::pt dx (.own m)::O) H) (q:∀ l2 s2 b2 H',Sep (rW R m l2 s2 b2 at_ ds::aY R s2 cs ws::aM R b2 x::O) H'->Q .non H'):ab tab R k gh [.ref m,.ref l,.ref s,.ref b,.int at_] H Q E:=by
 refine wc (d:=cN) nofun rfl rfl ?_;right;refine oO ro nofun n0 n1 z (.there (.there pl)) (λv hv=>by
  obtain ⟨a,r,Δ',e,hp⟩:=hd v hv;exact ⟨a,r,_,e,.there (.there hp)⟩) (λH1 z1=>?_)
 right;refine gI (z1.get (.there (.there pl))) ?_;right;refine mr nofun h0 h1 ?_;right;refine vd z1 (z1.get (.there (.there pl))) (λl2 H2 z2=>?_);right;rename_i H3 z3;refine ae bJ z3 (.there (.there (.there ps))) rfl rfl ?_;left;refine vB ro nofun z3 (.there (.there (.there ps))) (λs2 H4 z4=>?_);right;rename_i H5 z5;refine ae ba z5 (.there (.there (.there (.there pb)))) rfl rfl ?_;left;refine wg ro nofun z5 (.there (.there (.there (.there pb)))) (λb2 H6 z6=>?_);right;rename_i H7 z7 H8 z8;refine q l2 s2 b2 H8 (C8 (dx:=dx) ?_);exact z8.sub (by ac_nf)
abbrev ki.bx (x:Bx):ki->Bx
 | .on _ x' _=>x'
 |_=>x
abbrev ki.cs (cs:List Int):ki->List Int
 | .on _ _ cs'=>cs'
 |_=>cs
abbrev Mc (t:Addr):ki->ay
 | .on r _ _=>tu t [.int r,.non]
 | .no d c=>bx λte:Addr=>[tu t [.non,.ref te],tu te [.str d,.int c]]
 | .nf b _=>bx λte:Addr=>[tu t [.non,.ref te],tu te [.str "fit",.str b.nm]]
def B7 {de b:Addr}{cs:List Int}(r:Rw)(ro:Ro K R)(hk:9<=k)(z:Sep (aM R b x::aY R a cs ws::nc R de r::O) H)
  (q:∀ t H',Sep (Mc t (eI x cs ws r)::aM R b ((eI x cs ws r).bx x)::aY R a ((eI x cs ws r).cs cs) ws::nc R de r::O) H'->Q (.ref t) H'):ab tab R k C5 [.ref de,.ref b,.ref a] H Q E:=by
 obtain ⟨f,hf,hd,hst⟩:=A7 r ro;refine wc (d:=uF) nofun rfl rfl ?_;right;refine ae (Dy r) z (.there (.there .here)) (by cases r with|lg w=>rfl|sp s=>cases s<;>rfl|hop n o=>rfl) hf ?_;left;refine aW (vs':=[.ref de,.ref b,.ref a]) (by show _::(_++dflt _ _ 3)=_;rw[hd];rfl) ?_;refine hst nofun z ?_
 revert q
 cases eI x cs ws r with
 |on n x' cs'=>
  intro q H1 z1;right;rename_i t H3 z3;exact q t H3 z3.toT
 |no d c=>
  intro q e H1 z1;obtain ⟨dx,z2⟩:=kS z1;refine ⟨aX,_,_,true,z2.at,rfl,rfl,?_⟩;left;refine aN rfl ?_;right;rename_i te H3 z3 t H4 z4;have z5:=(z4.toT.pull (.there .here)).toT;exact q t H4 (hJ te (z5.sub (.cons (.there .here) (.cons .here (.drop (.drop .refl))))))
 |nf n i=>
  intro q e H1 z1;obtain ⟨dx,z2⟩:=kS z1;refine ⟨cz,_,_,false,z2.at,rfl,rfl,?_⟩;left;refine ar rfl ?_;left;refine ⟨cz,_,_,true,z2.at,rfl,rfl,?_⟩;left;refine aN rfl ?_;right;rename_i te H3 z3 t H4 z4;have z5:=(z4.toT.pull (.there .here)).toT;exact q t H4 (hJ te (z5.sub (.cons (.there .here) (.cons .here (.drop (.drop .refl))))))
abbrev gC (R:Rt)(O:List ay)(ds:List V)(rs:List Rw):Prop:=ds.length=rs.length/\∀ (i:Nat) (r:Rw),rs[i]? =some r->∃ a Δ,ds[i]? =some (V.ref a)/\af (nc R a r) O Δ
variable {rs:List Rw}
def gC.more (h:gC R O ds rs):gC R (A::O) ds rs:=⟨h.1,λi r e=>by
 obtain ⟨a,Δ,e2,p⟩:=h.2 i r e;exact ⟨a,_,e2,.there p⟩⟩
def gC.all (h:gC R O ds rs):Fm R O ds:=λv hv=>by
 obtain ⟨i,hi⟩:=getElem?_of_mem hv;have hl:=(List.getElem?_eq_some_iff.mp hi).1;obtain ⟨a,Δ,e2,p⟩:=h.2 i _ (getElem?_eq_getElem (by rw[<-h.1];exact hl));rw[hi] at e2;cases e2;exact ⟨a,_,Δ,rfl,p⟩
structure LI where
 w:Str
 at_:Int
 x:Bx
 cs:List Int
abbrev mS (rs:List Rw)(at_:Int)(x:Bx)(cs:List Int)(ws:List Str):LI:=match rs[at_.toNat]? with
 |none=>⟨"end",at_,x,cs⟩
 |some r=>match eI x cs ws r with
  | .on n x' cs'=>⟨"on",min (at_+n) rs.length,x',cs'⟩
  |_=>⟨"stop",at_,x,cs⟩
section
variable {m l s b:Addr}{at_:Int}{ds:List V}{rs:List Rw}{x:Bx}{cs:List Int}{ws:List Str}
def AL (hk:1<=k)(z:Sep O H)(p:af (rW R m l s b at_ ds) O Δ)(q:Q (.bl (decide (at_=ds.length))) H):ab tab R k jM [.ref m] H Q E:=by
 refine wc (d:=dW) nofun rfl rfl ?_;obtain ⟨dx,z1⟩:=yC (z.pull p);right;have e:d4 (.int at_) (.int (ds.length:Int))=decide (at_=(ds.length:Int)):=by
  show (at_ ==(ds.length:Int))=_
  by_cases h:at_=(ds.length:Int)
  ·rw[decide_eq_true h,beq_iff_eq];exact h
  ·rw[decide_eq_false h];simpa using h
 rw[e];exact q
def wa (ro:Ro K R)(hk:10<=k)(h0:0<=at_)(h1:at_<=ds.length)(hd:gC R O ds rs)(z:Sep (rW R m l s b at_ ds::aY R s cs ws::aM R b x::O) H)
  (q:∀ H',Sep (rW R m l s b (mS rs at_ x cs ws).at_ ds::aY R s (mS rs at_ x cs ws).cs ws::aM R b (mS rs at_ x cs ws).x::O) H'->Q (.str (mS rs at_ x cs ws).w) H'):ab tab R k gN [.ref m,.ref s] H Q E:=by
 refine wc (d:=c5) nofun rfl rfl ?_;unfold mS at q;right;refine ae DV z .here rfl rfl ?_;left;refine AL nofun z .here ?_
 by_cases he:at_=ds.length
 ·rw[decide_eq_true he];right;rw[List.getElem?_eq_none (by have:=hd.1;omega)] at q;exact q H z
 ·rw[decide_eq_false he];have hlt:at_.toNat<rs.length:=by have:=hd.1;omega
  have er:rs[at_.toNat]? =some rs[at_.toNat]:=getElem?_eq_getElem hlt;generalize rs[at_.toNat]=r at er;obtain ⟨de,Δ,e2,p⟩:=hd.2 _ _ er;rw[er] at q;dsimp only at q;obtain ⟨dx,z1⟩:=yC z;right;refine aL (i:=at_) (by grind) (aI h0 e2) ?_;right;have z2:Sep (aM R b x::aY R s cs ws::nc R de r::pt m (.ins (R.cad aU) dx [("deeds",.ref l),("store",.ref s),("boxes",.ref b),("at",.int at_)])::pt dx (.own m)::pt l (.lst ds)::Δ) H:=z1.sub (.cons (.there (.there (.there (.there .here)))) (.cons (.there (.there (.there .here))) (.cons (.there (.there (.there p))) .refl)));refine B7 r ro nofun z2 (λt H2 z3=>?_);clear z z1 z2
  revert q z3
  cases eI x cs ws r with
  |on n x' cs'=>
   intro q z3;have z3:Sep (tu t [.int n,.non]::aM R b x'::aY R s cs' ws::nc R de r::pt m (.ins (R.cad aU) dx [("deeds",.ref l),("store",.ref s),("boxes",.ref b),("at",.int at_)])::pt dx (.own m)::pt l (.lst ds)::Δ) H2:=z3;right;refine iY ?_;left;refine ar rfl ?_;right;rename_i H4 z4;rw[hd.1] at z4;refine q H4 (C8 (dx:=dx) ?_);exact (z4.sub (Γ':=nc R de r::pt m _::pt dx (.own m)::pt l (.lst ds)::aY R s cs' ws::aM R b x'::Δ) (by ac_nf)).push (.there (.there (.there (.there (.there p)))))
  |no d c=>
   intro q z3;obtain ⟨te,z4⟩:=iT z3;have z4:Sep (tu t [.non,.ref te]::tu te [.str d,.int c]::aM R b x::aY R s cs ws::nc R de r::pt m (.ins (R.cad aU) dx [("deeds",.ref l),("store",.ref s),("boxes",.ref b),("at",.int at_)])::pt dx (.own m)::pt l (.lst ds)::Δ) H2:=z4;right;refine iY ?_;left;refine aN rfl ?_;refine q H2 (C8 (dx:=dx) ?_);exact (z4.sub (Γ':=nc R de r::pt m _::pt dx (.own m)::pt l (.lst ds)::aY R s cs ws::aM R b x::Δ) (by ac_nf)).push (.there (.there (.there (.there (.there p)))))
  |nf n i=>
   intro q z3;obtain ⟨te,z4⟩:=iT z3;have z4:Sep (tu t [.non,.ref te]::tu te [.str "fit",.str n.nm]::aM R b x::aY R s cs ws::nc R de r::pt m (.ins (R.cad aU) dx [("deeds",.ref l),("store",.ref s),("boxes",.ref b),("at",.int at_)])::pt dx (.own m)::pt l (.lst ds)::Δ) H2:=z4;right;refine iY ?_;left;refine aN rfl ?_;refine q H2 (C8 (dx:=dx) ?_);exact (z4.sub (Γ':=nc R de r::pt m _::pt dx (.own m)::pt l (.lst ds)::aY R s cs ws::aM R b x::Δ) (by ac_nf)).push (.there (.there (.there (.there (.there p)))))
def Dd (ro:Ro K R)(hk:11<=k)(h0:0<=at_)(h1:at_<=ds.length)(hd:gC R O ds rs)(z:Sep (rW R m l s b at_ ds::aY R s cs ws::aM R b x::O) H)
  (q:∀ H',Sep (rW R m l s b (mS rs at_ x cs ws).at_ ds::aY R s (mS rs at_ x cs ws).cs ws::aM R b (mS rs at_ x cs ws).x::O) H'->Q (.str (mS rs at_ x cs ws).w) H'):ab tab R k lK [.ref m] H Q E:=by
 refine wc (d:=fj) nofun rfl rfl ?_;obtain ⟨dx,z1⟩:=yC z;right;refine ae DV z .here rfl rfl ?_;right;refine aW (vs':=[_,_]) rfl ?_;exact wa ro nofun h0 h1 hd z q
def pY (ro:Ro K R)(hk:2<=k)(z:Sep (rW R m l s b at_ ds::aY R s cs ws::aM R b x::O) H)
  (q:∀ t t1 l1 H',Sep (pt t (.tup [.int at_,.ref t1,.ref l1])::pt l1 (.lst (cs.map V.int))::tu t1 (x.ls.map V.int)::rW R m l s b at_ ds::aY R s cs ws::aM R b x::O) H'->Q (.ref t) H'):ab tab R k dX [.ref m] H Q E:=by
 refine wc (d:=dY) nofun rfl rfl ?_;obtain ⟨dx,z1⟩:=yC z;right;refine ae ba z (.there (.there .here)) rfl rfl ?_;left;refine BI ro nofun z (.there (.there .here)) (λt1 H1 z2=>?_);obtain ⟨dx,z3⟩:=yC (z2.pull (.there .here));right;refine ae bJ z2 (.there (.there .here)) rfl rfl ?_;left;refine uj nofun z2 (.there (.there .here)) (λl1 H2 z4=>?_);right;rename_i t H3 z5;exact q t t1 l1 H3 z5
end
abbrev AE (x:Bx):Rw->List Int
 | .lg w=>mG w x
 | .sp (.read _)=>[x.h]
 |_=>[]
abbrev AA (x:Bx):Rw->List Int
 | .lg w=>wC w x
 | .sp (.write _)=>[x.t]
 |_=>[]
def gw {sp:Addr}(r:Rw)(hk:1<=k)(z:Sep (tu sp r.tl::ao d x::O) H)
  (q:∀ t l1 l2 H',Sep (tu t [.ref l1,.ref l2]::pt l1 (.lst ((AE x r).map V.int))::pt l2 (.lst ((AA x r).map V.int))::tu sp r.tl::ao d x::O) H'->Q (.ref t) H'):ab tab R k pw [.ref sp,.ref d] H Q E:=by
 obtain ⟨h,t,l,w,s,m⟩:=x;refine wc (d:=hZ) nofun rfl rfl ?_;have fi:∀ (L P:List Int){p l1 l2:Addr}{H3:Hp},AE ⟨h,t,l,w,s,m⟩ r=L->AA ⟨h,t,l,w,s,m⟩ r=P->Sep (pt p (.tup [.ref l1,.ref l2])::pt l2 (.lst (P.map V.int))::pt l1 (.lst (L.map V.int))::tu sp r.tl::ao d ⟨h,t,l,w,s,m⟩::O) H3->Q (.ref p) H3:=by
  intro L P p l1 l2 H3 e1 e2 z3;refine q p l1 l2 H3 ?_;rw[e1,e2];have z4:=z3.toT;walk_at "sp"
 clear q;cases r with
 |lg wd=>
  have L0:l≠0->AE ⟨h,t,l,w,s,m⟩ (.lg wd)=wA h t l wd:=λe=>if_neg e
  have P0:l≠0->AA ⟨h,t,l,w,s,m⟩ (.lg wd)=wL h t l wd:=λe=>if_neg e
  have L1:l=0->AE ⟨h,t,l,w,s,m⟩ (.lg wd)=[]:=λe=>if_pos e
  have P1:l=0->AA ⟨h,t,l,w,s,m⟩ (.lg wd)=[]:=λe=>if_pos e
  cases wd
  case turn=>
   walk_at "wd"
   repeat walk_at "sc"
   refine aB (λe=>?_) (λe=>?_)
   ·walk_at "wd";rename_i l1 H1 z1 l2 H2 z2 p H3 z3;exact fi [] [] (L1 e) (P1 e) z3
   walk_at "wd"
   repeat walk_at "sc"
   refine aB (λe2=>?_) (λe2=>?_)
   ·walk_at "wd";rename_i l1 H1 z1 l2 H2 z2 p H3 z3;exact fi [] [] ((L0 e).trans (if_pos e2)) ((P0 e).trans (if_pos e2)) z3
   ·walk_at "wd"
    repeat walk_at "sc"
    rename_i l1 H1 z1 l2 H2 z2 p H3 z3;exact fi [h,h+l-1] [h,h+l-1] ((L0 e).trans (if_neg e2)) ((P0 e).trans (if_neg e2)) z3
  case shift=>
   walk_at "wd"
   repeat walk_at "sc"
   refine aB (λe=>?_) (λe=>?_)
   ·walk_at "wd";rename_i l1 H1 z1 l2 H2 z2 p H3 z3;exact fi [] [] (L1 e) (P1 e) z3
   walk_at "wd"
   repeat walk_at "sc"
   walk_at "wd";dsimp only;refine aL (by grind) LM ?_
   by_cases e2:t<=h
   ·rw[if_pos (decide_eq_true e2)];walk_at "wd";rename_i l1 H1 z1 l2 H2 z2 p H3 z3;have z4:Sep (pt p (.tup [.ref l1,.ref l2])::pt l2 (.lst [.int (t+0)])::pt l1 (.lst [.int (h+0)])::tu sp (Rw.tl (.lg .shift))::ao d ⟨h,t,l,w,s,m⟩::O) H3:=by walk_at "sp"
    exact fi [h+0] [t+0] ((L0 e).trans (if_pos e2)) ((P0 e).trans (if_pos e2)) z4
   ·rw[if_neg (by simpa using e2)];walk_at "wd";rename_i l1 H1 z1 l2 H2 z2 p H3 z3;have z4:Sep (pt p (.tup [.ref l1,.ref l2])::pt l2 (.lst [.int (t+(l-1))])::pt l1 (.lst [.int (h+(l-1))])::tu sp (Rw.tl (.lg .shift))::ao d ⟨h,t,l,w,s,m⟩::O) H3:=by walk_at "sp"
    exact fi [h+(l-1)] [t+(l-1)] ((L0 e).trans (if_neg e2)) ((P0 e).trans (if_neg e2)) z4
  all_goals
   walk_at "wd"
   repeat walk_at "sc"
   refine aB (λe=>?_) (λe=>?_)
   ·walk_at "wd";rename_i l1 H1 z1 l2 H2 z2 p H3 z3;exact fi [] [] (L1 e) (P1 e) z3
   walk_at "wd"
   repeat walk_at "sc"
   rename_i l1 H1 z1 l2 H2 z2 p H3 z3;exact fi _ _ (L0 e) (P0 e) z3
 |sp s'=>
  cases s'
  case read|write=>
   walk_at "wd"
   repeat walk_at "sc"
   rename_i l1 H1 z1 l2 H2 z2 p H3 z3;exact fi _ _ rfl rfl z3
  all_goals
   walk_at "wd"
   repeat walk_at "sc"
   refine aB (λe=>?_) (λe=>?_)
   ·walk_at "wd";rename_i l1 H1 z1 l2 H2 z2 p H3 z3;exact fi [] [] rfl rfl z3
   walk_at "wd"
   repeat walk_at "sc"
   rename_i l1 H1 z1 l2 H2 z2 p H3 z3;exact fi [] [] rfl rfl z3
 |hop n o=>
  walk_at "wd"
  repeat walk_at "sc"
  refine aB (λe=>?_) (λe=>?_)
  ·walk_at "wd";rename_i l1 H1 z1 l2 H2 z2 p H3 z3;exact fi [] [] rfl rfl z3
  walk_at "wd"
  repeat walk_at "sc"
  rename_i l1 H1 z1 l2 H2 z2 p H3 z3;exact fi [] [] rfl rfl z3
def fz {sp t l1 l2:Addr}{tl:List V}{ls ps:List Int}{D:Ends}{E:St->XK}{u:Option V}(hk:2<=k)(z1:Sep (tu t [.ref l1,.ref l2]::pt l1 (.lst (ls.map V.int))::pt l2 (.lst (ps.map V.int))::tu sp tl::ao d x::pt lv (.lst (ws.map V.str))::O) H)
  (q0:bt ws ls ps=none->∀ H',Sep (tu sp tl::ao d x::pt lv (.lst (ws.map V.str))::O) H'->D.rt .non H')
  (q1:∀ dd c,bt ws ls ps=some (dd,c)->∀ t H',Sep (pt t (.tup [.str dd,.int c,.int 0])::tu sp tl::ao d x::pt lv (.lst (ws.map V.str))::O) H'->D.rt (.ref t) H'):
  wB (gM 2 bV.body) ⟨tab,R,ab tab R (k-1),true⟩ D E [some (.ref sp),some (.ref d),some (.ref lv),some (.ref l1),some (.ref l2),u] H:=by
 right;refine cy (xs:=ls.map V.int) (λj U H=>∃ v,U=[some (.ref sp),some (.ref d),some (.ref lv),some (.ref l1),some (.ref l2),v]/\(∀ i x,i<j->ls[i]? =some x->ah ws "look" x=true)/\Sep (tu t [.ref l1,.ref l2]::pt l1 (.lst (ls.map V.int))::pt l2 (.lst (ps.map V.int))::tu sp tl::ao d x::pt lv (.lst (ws.map V.str))::O) H) ?_ ?_ ?_ ?_
 ·exact ⟨_,rfl,λi x hi=>absurd hi nofun,z1⟩
 ·rintro j U H ⟨v,rfl,_,hs⟩;exact aS.of (by grind)
 ·rintro j y U H hx ⟨v,rfl,hb,hs⟩;rw[getElem?_map] at hx;obtain ⟨c,hc,rfl⟩:=Option.map_eq_some_iff.mp hx;right;refine yY nofun hs (by symm) ?_;right;refine cG (λhm=>?_) (λhm=>?_)
  ·right;refine ⟨_,rfl,λi x hi hxx=>?_,hs⟩
   by_cases e:i=j
   ·subst e;rw[hc] at hxx;cases hxx;exact hm
   ·exact hb i x nofun hxx
  ·right;rename_i p H2 z2;refine q1 "look" c ?_ p H2 ?_
   ·unfold bt;rw[pv hb hc hm]
   ·walk_at "sp"
 ·rintro U H ⟨v,rfl,hb,hs⟩;have e0:aD ws "look" ls=none:=lb λc hc=>by
   obtain ⟨i,hi⟩:=List.mem_iff_getElem?.mp hc;have:=(List.getElem?_eq_some_iff.mp hi).1;exact hb i c (by rw[length_map];exact this) hi
  right;refine cy (xs:=ps.map V.int) (λj U H=>∃ v,U=[some (.ref sp),some (.ref d),some (.ref lv),some (.ref l1),some (.ref l2),v]/\(∀ i x,i<j->ps[i]? =some x->ah ws "put" x=true)/\Sep (tu t [.ref l1,.ref l2]::pt l1 (.lst (ls.map V.int))::pt l2 (.lst (ps.map V.int))::tu sp tl::ao d x::pt lv (.lst (ws.map V.str))::O) H) ?_ ?_ ?_ ?_
  ·exact ⟨_,rfl,λi x hi=>absurd hi nofun,hs⟩
  ·rintro j U H ⟨v,rfl,_,hs⟩;exact aS.of (by grind)
  ·rintro j y U H hx ⟨v,rfl,hb,hs⟩;rw[getElem?_map] at hx;obtain ⟨c,hc,rfl⟩:=Option.map_eq_some_iff.mp hx;right;refine yY nofun hs (by symm) ?_;right;refine cG (λhm=>?_) (λhm=>?_)
   ·right;refine ⟨_,rfl,λi x hi hxx=>?_,hs⟩
    by_cases e:i=j
    ·subst e;rw[hc] at hxx;cases hxx;exact hm
    ·exact hb i x nofun hxx
   ·right;rename_i p H2 z2;refine q1 "put" c ?_ p H2 ?_
    ·unfold bt;rw[e0];exact pv hb hc hm
    ·walk_at "sp"
  ·rintro U H ⟨v,rfl,hb2,hs⟩;right;refine q0 ?_ H (by walk_at "sp");unfold bt;rw[e0];exact lb λc hc=>by
    obtain ⟨i,hi⟩:=List.mem_iff_getElem?.mp hc;have:=(List.getElem?_eq_some_iff.mp hi).1;exact hb2 i c (by rw[length_map];exact this) hi
abbrev ki.tl:ki->List V
 | .on r _ _=>[.str "on",.int r,.int 0]
 | .no d c=>[.str d,.int c,.int 0]
 | .nf b i=>[.str "fit",.str b.nm,.int i]
def bO {sp:Addr}(r:Rw)(hk:2<=k)(hr:∀ b,r=.sp (.write b)->fH (.int (x.g b))=true) (z:Sep (tu sp r.tl::ao d x::pt lv (.lst (ws.map V.str))::O) H)
  (q0:bt ws (AE x r) (AA x r)=none->∀ H',Sep (tu sp r.tl::ao d x::pt lv (.lst (ws.map V.str))::O) H'->Q .non H')
  (q1:∀ dd c,bt ws (AE x r) (AA x r)=some (dd,c)->∀ t H',Sep (pt t (.tup [.str dd,.int c,.int 0])::tu sp r.tl::ao d x::pt lv (.lst (ws.map V.str))::O) H'->Q (.ref t) H'):ab tab R k fL [.ref sp,.ref d,.ref lv] H Q E:=by
 refine wc (d:=bV) nofun rfl rfl ?_;cases r with
 |sp s=>
  cases s
  case write b=>
   have hc:(decide (0<=x.g b)&&decide (x.g b<=1000000000))=true:=hr b rfl;have hc:0<=x.g b/\x.g b<=1000000000:=by simpa using hc
   right
   repeat walk_at "sc"
   refine lW z (.there .here) ?_;right;refine ax (λh0=>?_) (λh0=>absurd hc.1 h0);right;rw[gG];refine ax (λh0=>?_) (λh0=>absurd hc.2 h0);right;refine gw (.sp (.write b)) nofun z (λt l1 l2 H1 z1=>?_);right;refine ⟨t,_,rfl,.inl (aZ.of z1.atT),rfl,?_⟩;exact fz hk z1 q0 q1
  all_goals
   right
   repeat walk_at "sc"
   refine gw (.sp _) nofun z (λt l1 l2 H1 z1=>?_);right;refine ⟨t,_,rfl,.inl (aZ.of z1.atT),rfl,?_⟩;exact fz hk z1 q0 q1
 |lg w=>
  cases w
  all_goals
   right
   repeat walk_at "sc"
   refine gw (.lg _) nofun z (λt l1 l2 H1 z1=>?_);right;refine ⟨t,_,rfl,.inl (aZ.of z1.atT),rfl,?_⟩;exact fz hk z1 q0 q1
 |hop n o=>
  right
  repeat walk_at "sc"
  refine gw (.hop n o) nofun z (λt l1 l2 H1 z1=>?_);right;refine ⟨t,_,rfl,.inl (aZ.of z1.atT),rfl,?_⟩;exact fz hk z1 q0 q1
def wk {sp:Addr}{b:Bn}(hk:2<=k)(hb:fH (.int (x.g b))=false)(z:Sep (tu sp (Rw.tl (.sp (.write b)))::ao d x::pt lv (.lst (ws.map V.str))::O) H)
  (q:∀ t H',Sep (pt t (.tup [.str "fit",.str b.nm,.int (x.g b)])::tu sp (Rw.tl (.sp (.write b)))::ao d x::pt lv (.lst (ws.map V.str))::O) H'->Q (.ref t) H'):ab tab R k fL [.ref sp,.ref d,.ref lv] H Q E:=by
 refine wc (d:=bV) nofun rfl rfl ?_;have hc:(decide (0<=x.g b)&&decide (x.g b<=1000000000))=false:=hb;have hc:0<=x.g b->¬ x.g b<=1000000000:=by simpa using hc
 right
 repeat walk_at "sc"
 refine lW z (.there .here) ?_;right;refine ax (λh0=>?_) (λh0=>?_)
 ·right;rw[gG];refine ax (λh1=>absurd h1 (hc h0)) (λh1=>?_);right;refine lW z (.there .here) ?_;right;rename_i t H1 z1;exact q t H1 z1
 ·right;refine lW z (.there .here) ?_;right;rename_i t H1 z1;exact q t H1 z1
def zB {sp p:Addr}{cs:List Int}(r:Rw)(hk:3<=k)(hr:r.ok)(hx:0<=x.l)(hl:cs.length=ws.length)(z:Sep (tu sp r.tl::ao d x::pt p (.lst (cs.map V.int))::pt lv (.lst (ws.map V.str))::O) H)
  (q:∀ td H',Sep (pt td (.tup (eI x cs ws r).tl)::tu sp r.tl::ao d ((eI x cs ws r).bx x)::pt p (.lst (((eI x cs ws r).cs cs).map V.int))::pt lv (.lst (ws.map V.str))::O) H'->Q (.ref td) H'):ab tab R k qS [.ref sp,.ref d,.ref p,.ref lv] H Q E:=by
 refine wc (d:=jF) nofun rfl rfl ?_;have z0:Sep (tu sp r.tl::ao d x::pt lv (.lst (ws.map V.str))::pt p (.lst (cs.map V.int))::O) H:=z.sub (by ac_nf);right;cases r with
 |lg w=>
  refine bO (.lg w) nofun (λb e=>by cases e) z0 (λhb H1 z1=>?_) (λdd c hb t H1 z1=>?_)
  ·right;refine bp ?_;left;refine ar rfl ?_;right;rename_i tp H2 z2;refine gi (aZ.of z2.at) rfl rfl ?_;left;refine ar (by cases w<;>decide+kernel) ?_;right;refine ar (by cases w<;>decide+kernel) ?_;right;refine ar (by cases w<;>decide+kernel) ?_;right;refine Cu w (O:=pt lv (.lst (ws.map V.str))::tu sp (Rw.tl (.lg w))::O) nofun hx hl hb (z2.sub (by ac_nf)) ?_;have q:∀ td H',Sep (pt td (.tup (ofM (c8 w x cs ws)).tl)::tu sp (Rw.tl (.lg w))::ao d ((ofM (c8 w x cs ws)).bx x)::pt p (.lst (((ofM (c8 w x cs ws)).cs cs).map V.int))::pt lv (.lst (ws.map V.str))::O) H'->Q (.ref td) H':=q
   revert q
   cases c8 w x cs ws with
   |no dd c=>exact λ_=>True.intro
   |on n x' cs'=>
    intro q H3 z3;right;rename_i t H4 z4;exact q t H4 (z4.sub (.cons .here (.cons (.there (.there (.there .here))) .refl)))
  ·have e:eI x cs ws (.lg w)=.no dd c:=congrArg ofM (E6 hx hb);rw[e] at q;right;refine bp ?_;left;refine aN rfl ?_;left;exact q t H1 (z1.sub (.cons .here (.cons .here (.cons .here (.cons (.there .here) .refl)))))
 |hop n o=>
  refine bO (.hop n o) nofun (λb e=>by cases e) z0 (λhb H1 z1=>?_) (λdd c hb t H1 z1=>by cases hb);right;refine bp ?_;left;refine ar rfl ?_;right;rename_i tp H2 z2;refine gi (aZ.of z2.at) rfl rfl ?_;left;refine ar (by decide+kernel) ?_;right
  repeat walk_at "sc"
  have hn:∀ c:Bool,rf n (b2i c):=λc=>by cases c<;>(unfold rf b2i;have:=hr.1;omega)
  refine iY ?_;cases o with
  |none=>
   left;refine aN rfl ?_;right;refine kb ?_;left;refine ⟨hn true,?_⟩;right;rename_i t H4 z4;have e:1+n*b2i true=1+n:=by rw[show b2i true=1 from rfl,Int.mul_one]
   rw[e] at z4;exact q t H4 (z4.sub (.cons .here (.cons (.there .here) (.cons (.there .here) (.cons (.there (.there .here)) (.cons (.there .here) (.drop .refl)))))))
  |some i=>
   left;refine ar rfl ?_;right;refine lW (n:=.m) z2 (by symm) ?_;right;refine kb ?_;left;refine ⟨hn _,?_⟩;right;rename_i t H4 z4;have e:1+n*b2i (d4 (oV (some i)) (.int (x.g Bn.m)))=if i=x.m then 1+n else 1:=by
    show 1+n*b2i (i ==x.m)=_
    by_cases h:i=x.m
    ·rw[if_pos h,show (i ==x.m)=true by simpa using h,show b2i true=1 from rfl,Int.mul_one]
    ·rw[if_neg h,show (i ==x.m)=false by simpa using h,show b2i false=0 from rfl,Int.mul_zero,Int.add_zero]
   rw[e] at z4;exact q t H4 (z4.sub (.cons .here (.cons (.there .here) (.cons (.there .here) (.cons (.there (.there .here)) (.cons (.there .here) (.drop .refl)))))))
 |sp s=>
  have q:∀ td H',Sep (pt td (.tup (jJ (jQ x cs ws s)).tl)::tu sp s.tl::ao d ((jJ (jQ x cs ws s)).bx x)::pt p (.lst (((jJ (jQ x cs ws s)).cs cs).map V.int))::pt lv (.lst (ws.map V.str))::O) H'->Q (.ref td) H':=q;cases s with
  |set n i=>
   have q:∀ td H',Sep (pt td (.tup (jJ (bc x cs n i)).tl)::tu sp (Sp.tl (.set n i))::ao d ((jJ (bc x cs n i)).bx x)::pt p (.lst (((jJ (bc x cs n i)).cs cs).map V.int))::pt lv (.lst (ws.map V.str))::O) H'->Q (.ref td) H':=q;refine bO (.sp (.set n i)) nofun (λb e=>by cases e) z0 (λhb H1 z1=>?_) (λdd c hb t H1 z1=>by cases hb);right;refine bp ?_;left;refine ar rfl ?_;right;rename_i tp H2 z2;refine gi (aZ.of z2.at) rfl rfl ?_;left;refine aN (by decide+kernel) ?_;right
   repeat walk_at "sc"
   refine j8 (n:=n) (i:=i) nofun ?_;cases hf:a9 n (i) with
   |false=>
    rw[bc,if_neg (by rw[hf];exact Bool.false_ne_true)] at q;right;rename_i td H3 z3;exact q td H3 (z3.sub (.cons .here (.cons (.there .here) (.cons (.there .here) (.cons (.there (.there .here)) (.cons (.there .here) (.drop .refl)))))))
   |true=>
    rw[bc,if_pos hf] at q;right;refine Bc (n:=n) (i:=i) z2 (by ac_rfl) (λH3 z3=>?_);right;rename_i td H4 z4;exact q td H4 (z4.sub (.cons .here (.cons (.there .here) (.cons (.there .here) (.cons (.there (.there .here)) (.cons (.there .here) (.drop .refl)))))))
  |add n i=>
   have q:∀ td H',Sep (pt td (.tup (jJ (bc x cs n (x.g n+i))).tl)::tu sp (Sp.tl (.add n i))::ao d ((jJ (bc x cs n (x.g n+i))).bx x)::pt p (.lst (((jJ (bc x cs n (x.g n+i))).cs cs).map V.int))::pt lv (.lst (ws.map V.str))::O) H'->Q (.ref td) H':=q;refine bO (.sp (.add n i)) nofun (λb e=>by cases e) z0 (λhb H1 z1=>?_) (λdd c hb t H1 z1=>by cases hb);right;refine bp ?_;left;refine ar rfl ?_;right;rename_i tp H2 z2;refine gi (aZ.of z2.at) rfl rfl ?_;left;refine aN (by decide+kernel) ?_;right
   repeat walk_at "sc"
   refine lW (n:=n) z2 (by symm) ?_;right
   repeat walk_at "sc"
   refine j8 (n:=n) (i:=x.g n+i) nofun ?_;cases hf:a9 n (x.g n+i) with
   |false=>
    rw[bc,if_neg (by rw[hf];exact Bool.false_ne_true)] at q;right;rename_i td H3 z3;exact q td H3 (z3.sub (.cons .here (.cons (.there .here) (.cons (.there .here) (.cons (.there (.there .here)) (.cons (.there .here) (.drop .refl)))))))
   |true=>
    rw[bc,if_pos hf] at q;right;refine Bc (n:=n) (i:=x.g n+i) z2 (by ac_rfl) (λH3 z3=>?_);right;rename_i td H4 z4;exact q td H4 (z4.sub (.cons .here (.cons (.there .here) (.cons (.there .here) (.cons (.there (.there .here)) (.cons (.there .here) (.drop .refl)))))))
  |take n m=>
   have q:∀ td H',Sep (pt td (.tup (jJ (bc x cs n (x.g m))).tl)::tu sp (Sp.tl (.take n m))::ao d ((jJ (bc x cs n (x.g m))).bx x)::pt p (.lst (((jJ (bc x cs n (x.g m))).cs cs).map V.int))::pt lv (.lst (ws.map V.str))::O) H'->Q (.ref td) H':=q;refine bO (.sp (.take n m)) nofun (λb e=>by cases e) z0 (λhb H1 z1=>?_) (λdd c hb t H1 z1=>by cases hb);right;refine bp ?_;left;refine ar rfl ?_;right;rename_i tp H2 z2;refine gi (aZ.of z2.at) rfl rfl ?_;left;refine aN (by decide+kernel) ?_;right
   repeat walk_at "sc"
   refine lW (n:=m) z2 (by symm) ?_;right
   repeat walk_at "sc"
   refine j8 (n:=n) (i:=x.g m) nofun ?_;cases hf:a9 n (x.g m) with
   |false=>
    rw[bc,if_neg (by rw[hf];exact Bool.false_ne_true)] at q;right;rename_i td H3 z3;exact q td H3 (z3.sub (.cons .here (.cons (.there .here) (.cons (.there .here) (.cons (.there (.there .here)) (.cons (.there .here) (.drop .refl)))))))
   |true=>
    rw[bc,if_pos hf] at q;right;refine Bc (n:=n) (i:=x.g m) z2 (by ac_rfl) (λH3 z3=>?_);right;rename_i td H4 z4;exact q td H4 (z4.sub (.cons .here (.cons (.there .here) (.cons (.there .here) (.cons (.there (.there .here)) (.cons (.there .here) (.drop .refl)))))))
  |read n=>
   have q:∀ td H',Sep (pt td (.tup (jJ (if ah ws "look" x.h=true then bc x cs n (gt cs x.h) else .no "look" x.h)).tl)::tu sp (Sp.tl (.read n))::ao d ((jJ (if ah ws "look" x.h=true then bc x cs n (gt cs x.h) else .no "look" x.h)).bx x)::pt p (.lst (((jJ (if ah ws "look" x.h=true then bc x cs n (gt cs x.h) else .no "look" x.h)).cs cs).map V.int))::pt lv (.lst (ws.map V.str))::O) H'->Q (.ref td) H':=q;refine bO (.sp (.read n)) nofun (λb e=>by cases e) z0 (λhb H1 z1=>?_) (λdd c hb t H1 z1=>?_)
   ·obtain ⟨hm,_⟩:=aG (gQ hb).1;have hm:ah ws "look" x.h=true:=hm;have g:=ak hm;rw[if_pos hm] at q;right;refine bp ?_;left;refine ar rfl ?_;right;rename_i tp H2 z2;refine gi (aZ.of z2.at) rfl rfl ?_;left;refine aN (by decide+kernel) ?_;right
    repeat walk_at "sc"
    refine lW (n:=.h) z2 (by symm) ?_;right;refine aL (i:=x.h) (by grind) (gR g.1 nofun) ?_;right
    repeat walk_at "sc"
    refine j8 (n:=n) (i:=gt cs x.h) nofun ?_;cases hf:a9 n (gt cs x.h) with
    |false=>
     rw[bc,if_neg (by rw[hf];exact Bool.false_ne_true)] at q;right;rename_i td H3 z3;exact q td H3 (z3.sub (.cons .here (.cons (.there .here) (.cons (.there .here) (.cons (.there (.there .here)) (.cons (.there .here) (.drop .refl)))))))
    |true=>
     rw[bc,if_pos hf] at q;right;refine Bc (n:=n) (i:=gt cs x.h) z2 (by ac_rfl) (λH3 z3=>?_);right;rename_i td H4 z4;exact q td H4 (z4.sub (.cons .here (.cons (.there .here) (.cons (.there .here) (.cons (.there (.there .here)) (.cons (.there .here) (.drop .refl)))))))
   ·have hm:ah ws "look" x.h=false/\dd="look"/\c=x.h:=by
     cases e:ah ws "look" x.h with
     |true=>rw[show bt ws (AE x (.sp (.read n))) (AA x (.sp (.read n)))=none by show bt ws [x.h] []=none;unfold bt aD;rw[if_pos e];rfl] at hb;cases hb
     |false=>
      rw[show bt ws (AE x (.sp (.read n))) (AA x (.sp (.read n)))=some (("look":Str),x.h) by show bt ws [x.h] []=_;unfold bt aD;rw[if_neg (nt e)]] at hb;cases hb;exact ⟨rfl,rfl,rfl⟩
    obtain ⟨e1,rfl,rfl⟩:=hm;rw[if_neg (nt e1)] at q;right;refine bp ?_;left;refine aN rfl ?_;left;exact q t H1 (z1.sub (.cons .here (.cons .here (.cons .here (.cons (.there .here) .refl)))))
  |write n=>
   have q:∀ td H',Sep (pt td (.tup (jJ (if fH (.int (x.g n))=true then (if ah ws "put" x.t=true then .on x (cs.set x.t.toNat (x.g n)) else .no "put" x.t) else .nf n (x.g n))).tl)::tu sp (Sp.tl (.write n))::ao d ((jJ (if fH (.int (x.g n))=true then (if ah ws "put" x.t=true then .on x (cs.set x.t.toNat (x.g n)) else .no "put" x.t) else .nf n (x.g n))).bx x)::pt p (.lst (((jJ (if fH (.int (x.g n))=true then (if ah ws "put" x.t=true then .on x (cs.set x.t.toNat (x.g n)) else .no "put" x.t) else .nf n (x.g n))).cs cs).map V.int))::pt lv (.lst (ws.map V.str))::O) H'->Q (.ref td) H':=q;cases hc:fH (.int (x.g n)) with
   |false=>
    rw[if_neg (nt hc)] at q;refine wk nofun hc z0 (λt H1 z1=>?_);right;refine bp ?_;left;refine aN rfl ?_;left;exact q t H1 (z1.sub (.cons .here (.cons .here (.cons .here (.cons (.there .here) .refl)))))
   |true=>
    rw[if_pos hc] at q;refine bO (.sp (.write n)) nofun (λb e=>by cases e;exact hc) z0 (λhb H1 z1=>?_) (λdd c hb t H1 z1=>?_)
    ·have hm:ah ws "put" x.t=true:=(aG (gQ hb).2).1;have g:=ak hm;rw[if_pos hm] at q;right;refine bp ?_;left;refine ar rfl ?_;right;rename_i tp H2 z2;refine gi (aZ.of z2.at) rfl rfl ?_;left;refine ar (by decide+kernel) ?_;right
     repeat walk_at "sc"
     refine lW (n:=n) z2 (by symm) ?_;right;refine lW (n:=.t) z2 (by symm) ?_;left;refine fW (i:=x.t) z2 (by ac_rfl) (dJ g.1 (by rw[length_map];omega)) cH (λH3 z3=>?_);right;rename_i td H4 z4;exact q td H4 (z4.sub (.cons .here (.cons (.there .here) (.cons (.there .here) (.cons (.there (.there .here)) (.cons (.there .here) (.drop .refl)))))))
    ·have hm:ah ws "put" x.t=false/\dd="put"/\c=x.t:=by
      cases e:ah ws "put" x.t with
      |true=>rw[show bt ws (AE x (.sp (.write n))) (AA x (.sp (.write n)))=none by show bt ws [] [x.t]=none;unfold bt aD;dsimp only;unfold aD;rw[if_pos e]] at hb;cases hb
      |false=>
       rw[show bt ws (AE x (.sp (.write n))) (AA x (.sp (.write n)))=some (("put":Str),x.t) by show bt ws [] [x.t]=_;unfold bt aD;dsimp only;unfold aD;rw[if_neg (nt e)]] at hb;cases hb;exact ⟨rfl,rfl,rfl⟩
     obtain ⟨e1,rfl,rfl⟩:=hm;rw[if_neg (nt e1)] at q;right;refine bp ?_;left;refine aN rfl ?_;left;exact q t H1 (z1.sub (.cons .here (.cons .here (.cons .here (.cons (.there .here) .refl)))))
def Jx (h0:0<=r)(h1:r<6):∃ wd:Wd,lL [V.str "copy",V.str "fill",V.str "seek",V.str "match",V.str "shift",V.str "turn"] r=some (.str wd.s):=by
 have:r=0\/r=1\/r=2\/r=3\/r=4\/r=5:=by omega
 rcases this with rfl|rfl|rfl|rfl|rfl|rfl
 ·exact ⟨.copy,rfl⟩
 ·exact ⟨.fill,rfl⟩
 ·exact ⟨.seek,rfl⟩
 ·exact ⟨.mtch,rfl⟩
 ·exact ⟨.shift,rfl⟩
 ·exact ⟨.turn,rfl⟩
def EW (h0:0<=r)(h1:r<3):∃ o:Option Int,lL [V.non,.int 0,.int 1] r=some (oV o)/\Lc o:=by
 rcases (by omega:r=0\/r=1\/r=2) with rfl|rfl|rfl
 ·exact ⟨none,rfl,True.intro⟩
 ·exact ⟨some 0,rfl,.inl rfl⟩
 ·exact ⟨some 1,rfl,.inr rfl⟩
abbrev rV (v:V):Prop:=∃ b:Bn,v=.str b.nm
def B5 {sz:Int}(hk:2<=k)(s:Sep (hand h m::O) H)(hm:m<=1099510000000)(h0:0<=sz)(h1:sz<=60)(q:∀ t r H',Rw.ok r->Sep (tu t r.tl::hand h (m+10)::O) H'->Q (.ref t) H'):ab tab R k rE [.ref h,.int sz] H Q E:=by
 refine wc (d:=jr) nofun rfl rfl ?_;walk_at "gd";rename_i wy H1 wy0 wy1 hs1 p1 H2 hs2 r2 H3 r20 r21 hs3;obtain ⟨b,e2⟩:=Dr r20 r21;refine aL (by grind) e2 ?_;clear s hs1 hs2;right;refine ax (λg0=>?_) (λg0=>?_)
 ·right;rename_i l4 H4 hs4;obtain ⟨wd,e3⟩:=Jx wy0 g0;refine aL (by grind) e3 ?_;right;rename_i t H5 hs5;have z6:Sep (tu t (Rw.tl (.lg wd))::_) _:=hs5.toT;exact q t (.lg wd) _ True.intro ((aj (n:=m+10) (z6.pull (A:=hand h _) (by symm)) nofun).sub (by ac_nf))
 right;refine ax (λg1=>?_) (λg1=>?_)
 ·walk_at "gd";rename_i l4 H4 hs4 r5 H5 r50 r51 hs5;obtain ⟨v,e3,b3,rfl⟩:=d7 (P:=rV) (xs:=[.str "here",.str "there",.str "left",.str b.nm]) (r:=r5) r50 (by simpa using r51) (Lj ⟨.h,rfl⟩ ⟨.t,rfl⟩ ⟨.l,rfl⟩ ⟨b,rfl⟩);refine aL (by grind) e3 ?_;walk_at "gd";rename_i r6 H6 r60 r61 hs6 r7 H7 r70 r71 hs7 r8 H8 r80 r81 hs8 r9 H9 r90 r91 hs9 l10 H10 hs10;obtain ⟨v,e4,i,rfl,i0,i1⟩:=d7 (xs:=[.int r7,.int (r8-2),.int (10 ^ Int.toNat 9-r9)]) (P:=inR (-1000000000) 1000000000) (r:=r6 / 3) nofun (by simp;omega) (Lb (.mk nofun nofun) (.mk nofun nofun) (.mk (by rw[gG];omega) (by rw[gG];omega)));refine aL (by grind) e4 ?_;right;rename_i t H11 hs11;have z6:Sep (tu t (Rw.tl (.sp (.set b3 i)))::_) _:=hs11.toT;exact q t (.sp (.set b3 i)) _ ⟨i0,i1⟩ ((aj (n:=m+10) (z6.pull (A:=hand h _) (by symm)) nofun).sub (by ac_nf))
 right;refine aB (λg2=>?_) (λg2=>?_)
 ·walk_at "gd";rename_i r6 H6 r60 r61 hs6 r7 H7 r70 r71 hs7 r8 H8 r80 r81 hs8 l10 H10 hs10;obtain ⟨v,e4,i,rfl,i0,i1⟩:=d7 (xs:=[.int (r7-3),.int r8,.int (-(10 ^ Int.toNat 9))]) (P:=inR (-1000000000) 1000000000) (r:=r6 / 3) nofun (by simp;omega) (Lb (.mk nofun nofun) (.mk nofun nofun) (.mk (by rw[gG];omega) (by rw[gG];omega)));refine aL (by grind) e4 ?_;right;rename_i t H11 hs11;have z6:Sep (tu t (Rw.tl (.sp (.add b i)))::_) _:=hs11.toT;exact q t (.sp (.add b i)) _ ⟨i0,i1⟩ ((aj (n:=m+10) (z6.pull (A:=hand h _) (by symm)) nofun).sub (by ac_nf))
 right;refine aB (λg3=>?_) (λg3=>?_)
 ·walk_at "gd";rename_i r6 H6 r60 r61 hs6;obtain ⟨c,e3⟩:=Dr r60 r61;refine aL (by grind) e3 ?_;right;rename_i t H11 hs11;have z6:Sep (tu t (Rw.tl (.sp (.take b c)))::_) _:=hs11.toT;exact q t (.sp (.take b c)) _ True.intro ((aj (n:=m+10) (z6.pull (A:=hand h _) (by symm)) nofun).sub (by ac_nf))
 right;refine ax (λg4=>?_) (λg4=>?_)
 ·right;rename_i l4 H4 hs4;rcases (by omega:wy=11\/wy=12) with rfl|rfl
  ·right;rename_i t H11 hs11;have z6:Sep (tu t (Rw.tl (.sp (.read b)))::_) _:=hs11.toT;exact q t (.sp (.read b)) _ True.intro ((aj (n:=m+10) (z6.pull (A:=hand h _) (by symm)) nofun).sub (by ac_nf))
  ·right;rename_i t H11 hs11;have z6:Sep (tu t (Rw.tl (.sp (.write b)))::_) _:=hs11.toT;exact q t (.sp (.write b)) _ True.intro ((aj (n:=m+10) (z6.pull (A:=hand h _) (by symm)) nofun).sub (by ac_nf))
 walk_at "gd";rename_i r6 H6 r60 r61 hs6 l7 H7 hs7 r8 H8 r80 r81 hs8;obtain ⟨o,e3,ho⟩:=EW r80 r81;refine aL (by grind) e3 ?_;right;rename_i t H11 hs11;have z6:Sep (tu t (Rw.tl (.hop r6 o))::_) _:=hs11.toT;exact q t (.hop r6 o) _ ⟨⟨by omega,by omega⟩,ho⟩ ((aj (n:=m+10) (z6.pull (A:=hand h _) (by symm)) nofun).sub (by ac_nf))
def yH {t:Addr}(r:Rw)(ro:Ro K R)(hk:5<=k)(ok:r.ok)(z:Sep (tu t r.tl::O) H)(q:∀ d H',Sep (nc R d r::tu t r.tl::O) H'->Q (.ref d) H'):ab tab R k qv [.ref t] H Q E:=by
 refine wc (d:=jd) nofun rfl rfl ?_;cases r with
 |lg w=>
  have f:∀ x ∈ ([("set":Str),"add","take","read","write","hop"]),d4 (.str w.s) (.str x)=false:=by cases w<;>decide+kernel
  right;refine ar (f "set" (by decide)) ?_;right;refine ar (f "add" (by decide)) ?_;right;refine ar (f "take" (by decide)) ?_;right;refine ar (f "read" (by decide)) ?_;right;refine ar (f "write" (by decide)) ?_;right;refine ar (f "hop" (by decide)) ?_;right;exact FK w nofun z q
 |hop n o=>
  right
  repeat walk_at "sc"
  intro d dx g1 g2 g3;exact Im ro nofun ok.1.1 ok.1.2 ok.2 (gk z g1 g2 g3) (λH2 z2=>⟨rfl,q d H2 z2⟩)
 |sp s=>
  cases s with
  |set n i=>
   right
   repeat walk_at "sc"
   intro d dx g1 g2 g3;exact Ja ro nofun ok.1 ok.2 (gk z g1 g2 g3) (λH2 z2=>⟨rfl,q d H2 z2⟩)
  |add n i=>
   right
   repeat walk_at "sc"
   intro d dx g1 g2 g3;exact Jd ro nofun ok.1 ok.2 (gk z g1 g2 g3) (λH2 z2=>⟨rfl,q d H2 z2⟩)
  |take n m=>
   right
   repeat walk_at "sc"
   intro d dx g1 g2 g3;exact Ig ro nofun (gk z g1 g2 g3) (λH2 z2=>⟨rfl,q d H2 z2⟩)
  |read n=>
   right
   repeat walk_at "sc"
   intro d dx g1 g2 g3;exact Hz ro nofun (gk z g1 g2 g3) (λH2 z2=>⟨rfl,q d H2 z2⟩)
  |write n=>
   right
   repeat walk_at "sc"
   intro d dx g1 g2 g3;exact Jq ro nofun (gk z g1 g2 g3) (λH2 z2=>⟨rfl,q d H2 z2⟩)
variable {f:List Int->Out}
def zS {cs:List Int}{j:Int}{d:Str}(hf:∀ l,f l≠.no d c) (h:hm cs ws i j f=.no d c):d="look"\/d="put":=by
 unfold hm at h
 split at h
 ·split at h
  ·exact absurd h (hf _)
  ·cases h;exact .inr rfl
 ·cases h;exact .inl rfl
def zg {cs:List Int}{d:Str}(h:c8 wd x cs ws=.no d c):d="look"\/d="put":=by
 cases wd
 ·have h:c4 x cs ws=.no d c:=h;unfold c4 at h
  split at h
  ·cases h
  ·exact zS (λ_ z=>by cases z) h
 ·have h:cV x cs ws=.no d c:=h;unfold cV at h
  split at h
  ·cases h
  ·split at h
   ·cases h
   ·cases h;exact .inr rfl
 ·have h:c6 x cs ws=.no d c:=h;unfold c6 at h
  split at h
  ·cases h
  ·split at h
   ·split at h<;>cases h
   ·cases h;exact .inl rfl
 ·have h:bI x cs ws=.no d c:=h;unfold bI at h
  split at h
  ·cases h
  ·split at h
   ·split at h
    ·split at h<;>cases h
    ·cases h;exact .inl rfl
   ·cases h;exact .inl rfl
 ·have h:bH x cs ws=.no d c:=h;unfold bH at h
  split at h
  ·cases h
  ·split at h
   ·exact zS (λ_ z=>by cases z) h
   ·exact zS (λ_ z=>by cases z) h
 ·have h:cY x cs ws=.no d c:=h;unfold cY at h
  split at h
  ·cases h
  ·split at h
   ·cases h
   ·unfold xm at h
    split at h
    ·split at h
     ·split at h
      ·split at h
       ·cases h
       ·cases h;exact .inr rfl
      ·cases h;exact .inr rfl
     ·cases h;exact .inl rfl
    ·cases h;exact .inl rfl
def vz {cs:List Int}{r:Rw}{d:Str}(h:eI x cs ws r=.no d c):d="look"\/d="put":=by
 have gv:∀ {b:Bn}{i:Int},jJ (bc x cs b i)≠.no d c:=λ{b i} e=>by
  unfold bc at e
  split at e<;>cases e
 cases r with
 |lg w=>
  have h:ofM (c8 w x cs ws)=.no d c:=h;cases e:c8 w x cs ws with
  |on r x' cs'=>rw[e] at h;cases h
  |no d' c'=>rw[e] at h;cases h;exact zg e
 |hop n o=>cases h
 |sp s=>
  cases s with
  |set n i=>exact absurd h gv
  |add n i=>exact absurd h gv
  |take n m=>exact absurd h gv
  |read n=>
   have h:jJ (if ah ws "look" x.h=true then bc x cs n (gt cs x.h) else .no "look" x.h)=.no d c:=h
   split at h
   ·exact absurd h gv
   ·cases h;exact .inl rfl
  |write n=>
   have h:jJ (if fH (.int (x.g n))=true then (if ah ws "put" x.t=true then .on x (cs.set x.t.toNat (x.g n)) else .no "put" x.t) else .nf n (x.g n))=.no d c:=h
   split at h
   ·split at h
    ·cases h
    ·cases h;exact .inr rfl
   ·cases h
abbrev hV (O:List ay)(ss:List V)(rs:List Rw):Prop:=ss.length=rs.length/\(∀ r ∈ rs,r.ok)/\∀ (i:Nat) (r:Rw),rs[i]? =some r->∃ t Δ,ss[i]? =some (V.ref t)/\af (tu t r.tl) O Δ
def hV.more (h:hV O ss rs):hV (A::O) ss rs:=⟨h.1,h.2.1,λi r e=>by
 obtain ⟨a,Δ,e2,p⟩:=h.2.2 i r e;exact ⟨a,_,e2,.there p⟩⟩
noncomputable abbrev rM (w d p lv:Addr)(at_:Int)(x:Bx)(cs:List Int)(ws:List Str)(O:List ay):List ay:=pt w (.lst [.int at_,.ref d,.ref p,.ref lv])::ao d x::pt p (.lst (cs.map V.int))::pt lv (.lst (ws.map V.str))::O
section
variable {w d p lv SP:Addr}{at_:Int}{ss:List V}{rs:List Rw}{x:Bx}{cs:List Int}{ws:List Str}
def EK (hk:4<=k)(h0:0<=at_)(h1:at_<=ss.length)(hx:0<=x.l)(hl:cs.length=ws.length)(hs:hV O ss rs)(z:Sep (rM w d p lv at_ x cs ws (pt SP (.lst ss)::O)) H)
  (q:∀ H',Sep (rM w d p lv (mS rs at_ x cs ws).at_ (mS rs at_ x cs ws).x (mS rs at_ x cs ws).cs ws (pt SP (.lst ss)::O)) H'->Q (.str (mS rs at_ x cs ws).w) H'):ab tab R k i4 [.ref SP,.ref w] H Q E:=by
 refine wc (d:=i6) nofun rfl rfl ?_;have hl1:=hs.1;unfold mS at q;right;refine aB (λhe=>?_) (λhe=>?_)
 ·rw[List.getElem?_eq_none nofun] at q;right;exact q H z
 ·have hlt:at_.toNat<rs.length:=by omega
  have er:rs[at_.toNat]? =some rs[at_.toNat]:=getElem?_eq_getElem hlt;have ok:=hs.2.1 _ (getElem_mem hlt);generalize rs[at_.toNat]=r at er ok;obtain ⟨t,Δ,e2,pt_⟩:=hs.2.2 _ _ er;rw[er] at q;dsimp only at q;right;refine aL (i:=at_) (by grind) (aI h0 e2) ?_;right;refine zB (O:=pt w (.lst [.int at_,.ref d,.ref p,.ref lv])::pt SP (.lst ss)::O) r nofun ok hx hl (Sep.HS (z.fK (.there (.there (.there (.there (.there pt_)))))) (z.sub (by ac_nf))) (λtd H2 z2=>?_);clear z;generalize ho:eI x cs ws r=o at q z2;cases o with
  |on n x' cs'=>
   have z2:Sep (pt td (.tup [.str "on",.int n,.int 0])::tu t r.tl::ao d x'::pt p (.lst (cs'.map V.int))::pt lv (.lst (ws.map V.str))::pt w (.lst [.int at_,.ref d,.ref p,.ref lv])::pt SP (.lst ss)::O) H2:=z2;right
   repeat walk_at "sc"
   rename_i H3 z3;rw[show min (ss.length:Int) (at_+n)=min (at_+n) rs.length by rw[Int.min_comm,hl1]] at z3;exact q H3 (z3.sub (by ac_nf))
  |no dd c=>
   have z2:Sep (pt td (.tup [.str dd,.int c,.int 0])::tu t r.tl::ao d x::pt p (.lst (cs.map V.int))::pt lv (.lst (ws.map V.str))::pt w (.lst [.int at_,.ref d,.ref p,.ref lv])::pt SP (.lst ss)::O) H2:=z2;right;refine ar (by rcases vz ho with rfl|rfl<;>decide+kernel) ?_;right;exact q H2 (z2.sub (by ac_nf))
  |nf n i=>
   have z2:Sep (pt td (.tup [.str "fit",.str n.nm,.int i])::tu t r.tl::ao d x::pt p (.lst (cs.map V.int))::pt lv (.lst (ws.map V.str))::pt w (.lst [.int at_,.ref d,.ref p,.ref lv])::pt SP (.lst ss)::O) H2:=z2;right
   repeat walk_at "sc"
   exact q H2 (z2.sub (by ac_nf))
end
section
variable {m l s b:Addr}{at_:Int}{ds:List V}{rs:List Rw}{x:Bx}{cs:List Int}{ws:List Str}
def HN {t t2 t1 t3 l1 l3:Addr}(h1:H t=some (.tup [.int at_,.ref t1,.ref l1]))(h2:H t2=some (.tup [.int at_,.ref t3,.ref l3]))(ea:gE R.K H 2 (.ref t1) (.ref t3) true)(eb:gE R.K H 2 (.ref l1) (.ref l3) true):gE R.K H 3 (.ref t) (.ref t2) true:=
 zt (n:=1) h1 h2 rfl λj x y e1 e2=>by
  rcases j with _|_|_|j
  ·cases e1;cases e2;exact ku (t:="int") rfl
  ·cases e1;cases e2;exact ea
  ·cases e1;cases e2;exact eb
  ·simp at e1
end
def set_same {l:List α}{a:α}(h:l[n]? =some a):l.set n a=l:=by
 apply List.ext_getElem?;intro i;rw[List.getElem?_set]
 split
 ·rename_i e;subst e;rw[h]
  split
  ·rfl
  ·rename_i h2;exact absurd (List.getElem?_eq_some_iff.mp h).1 h2
 ·rfl
def aa {A:ay}:∀ {L O Δ:List ay},af A O Δ->af A (L++O) (L++Δ)
 | [],_,_,h=>h
 |B::L,_,_,h=>.there (aa h)
def bg {α:Type}{f:α->ay}{x:α}:∀ {l:List α},x ∈ l->∃ Δ,∀ O,af (f x) (l.map f++O) (Δ++O)
 |y::l,h=>by
  rcases mem_cons.mp h with rfl|h
  ·exact ⟨l.map f,λO=>.here⟩
  ·obtain ⟨Δ,hp⟩:=bg (f:=f) h;exact ⟨f y::Δ,λO=>.there (hp O)⟩
abbrev rX (R:Rt)(p:Addr×Rw):ay:=nc R p.1 p.2
abbrev iy (p:Addr×Rw):ay:=tu p.1 p.2.tl
abbrev d5 (p:Addr×Rw):V:=.ref p.1
def n9 {L:List (Addr×Rw)}(h:L.map (·.2)=rs):gC R (L.reverse.map (rX R)++O) (L.map d5) rs:=by
 subst h;refine ⟨by simp,λi r e=>?_⟩;rw[getElem?_map] at e;obtain ⟨⟨a,r'⟩,g,rfl⟩:=Option.map_eq_some_iff.mp e;obtain ⟨Δ,hp⟩:=bg (f:=rX R) (x:=(a,r')) (l:=L.reverse) (by have:=mem_of_getElem? g;simpa using this);exact ⟨a,_,by rw[getElem?_map,g];rfl,hp O⟩
def qj {S:List (Addr×Rw)}(h:S.map (·.2)=rs)(ok:∀ r ∈ rs,Rw.ok r):hV (S.reverse.map iy++O) (S.map d5) rs:=by
 refine ⟨by rw[<-h];simp,ok,λi r e=>?_⟩;subst h;rw[getElem?_map] at e;obtain ⟨⟨a,r'⟩,g,rfl⟩:=Option.map_eq_some_iff.mp e;obtain ⟨Δ,hp⟩:=bg (f:=iy) (x:=(a,r')) (l:=S.reverse) (by have:=mem_of_getElem? g;simpa using this);exact ⟨a,_,by rw[getElem?_map,g];rfl,hp O⟩
section
variable {d p lv SP:Addr}{at_:Int}{ss:List V}{rs:List Rw}{x:Bx}{cs:List Int}{ws:List Str}
end
def lC {l:Int}:fin l=0\/fin l=1:=by
 unfold fin
 split
 ·exact .inr rfl
 ·exact .inl rfl
abbrev idx (wd:Wd)(x:Bx):Int:=match wd with
 | .fill=>x.t
 | .shift=>if x.t<=x.h then x.h else x.h+x.l-1
 |_=>x.h
abbrev dir (wd:Wd)(x:Bx):Int:=match wd with
 | .shift=>if x.t<=x.h then 1 else -1
 | .turn=>1
 |_=>x.w
variable {x':Bx}
def yh {cs:List Int}{j:Int}(h:hm cs ws i j f=.on r x' cs'):ah ws "look" i=true/\ah ws "put" j=true/\f (cs.set j.toNat (gt cs i))=.on r x' cs':=by
 unfold hm at h
 by_cases e:ah ws "look" i=true
 ·rw[if_pos e] at h
  by_cases e2:ah ws "put" j=true
  ·rw[if_pos e2] at h;exact ⟨e,e2,h⟩
  ·rw[if_neg e2] at h;cases h
 ·rw[if_neg e] at h;cases h
def Ei {cs:List Int}(h:c8 wd x cs ws=.on r x' cs'):
  (r=0\/r=1)/\x'.w=x.w/\(r=0->0<=idx wd x/\idx wd x<ws.length/\idx wd x'=idx wd x+dir wd x/\dir wd x'=dir wd x):=by
 obtain ⟨hh,t,l,w,s,m⟩:=x;cases wd
 ·have h:c4 ⟨hh,t,l,w,s,m⟩ cs ws=.on r x' cs':=h;unfold c4 at h;dsimp only at h
  split at h
  ·cases h;exact ⟨.inr rfl,rfl,λz=>by cases z⟩
  ·obtain ⟨m1,m2,h⟩:=yh h;cases h;exact ⟨lC,rfl,λ_=>⟨(ak m1).1,(ak m1).2,rfl,rfl⟩⟩
 ·have h:cV ⟨hh,t,l,w,s,m⟩ cs ws=.on r x' cs':=h;unfold cV at h;dsimp only at h
  split at h
  ·cases h;exact ⟨.inr rfl,rfl,λz=>by cases z⟩
  ·split at h
   ·rename_i m1;cases h;exact ⟨lC,rfl,λ_=>⟨(ak m1).1,(ak m1).2,rfl,rfl⟩⟩
   ·cases h
 ·have h:c6 ⟨hh,t,l,w,s,m⟩ cs ws=.on r x' cs':=h;unfold c6 at h;dsimp only at h
  split at h
  ·cases h;exact ⟨.inr rfl,rfl,λz=>by cases z⟩
  ·split at h
   ·rename_i m1
    split at h
    ·cases h;exact ⟨.inr rfl,rfl,λz=>by cases z⟩
    ·cases h;exact ⟨lC,rfl,λ_=>⟨(ak m1).1,(ak m1).2,rfl,rfl⟩⟩
   ·cases h
 ·have h:bI ⟨hh,t,l,w,s,m⟩ cs ws=.on r x' cs':=h;unfold bI at h;dsimp only at h
  split at h
  ·cases h;exact ⟨.inr rfl,rfl,λz=>by cases z⟩
  ·split at h
   ·rename_i m1
    split at h
    ·split at h
     ·cases h;exact ⟨lC,rfl,λ_=>⟨(ak m1).1,(ak m1).2,rfl,rfl⟩⟩
     ·cases h;exact ⟨.inr rfl,rfl,λz=>by cases z⟩
    ·cases h
   ·cases h
 ·have h:bH ⟨hh,t,l,w,s,m⟩ cs ws=.on r x' cs':=h;unfold bH at h;dsimp only at h
  split at h
  ·cases h;exact ⟨.inr rfl,rfl,λz=>by cases z⟩
  ·split at h
   ·rename_i e;obtain ⟨m1,m2,h⟩:=yh h;cases h;refine ⟨lC,rfl,λ_=>?_⟩;have g:=ak m1;unfold idx dir;dsimp only;rw[if_pos e,if_pos e,if_pos nofun,if_pos nofun];exact ⟨g.1,g.2,rfl,rfl⟩
   ·rename_i e;obtain ⟨m1,m2,h⟩:=yh h;cases h;refine ⟨lC,rfl,λ_=>?_⟩;have g:=ak m1;unfold idx dir;dsimp only;rw[if_neg e,if_neg e];exact ⟨g.1,g.2,by omega,rfl⟩
 ·have h:cY ⟨hh,t,l,w,s,m⟩ cs ws=.on r x' cs':=h;unfold cY at h;dsimp only at h
  split at h
  ·cases h;exact ⟨.inr rfl,rfl,λz=>by cases z⟩
  ·split at h
   ·cases h;exact ⟨.inr rfl,rfl,λz=>by cases z⟩
   ·unfold xm at h
    split at h
    ·rename_i m1
     split at h
     ·split at h
      ·split at h
       ·cases h;exact ⟨lC,rfl,λ_=>⟨(ak m1).1,(ak m1).2,rfl,rfl⟩⟩
       ·cases h
      ·cases h
     ·cases h
    ·cases h
def hV.set {i:Nat}{t:Addr}{r:Rw}(h:hV O ss rs)(hi:i<rs.length)(ok:r.ok)(p:af (tu t r.tl) O Δ):hV O (ss.set i (.ref t)) (rs.set i r):=by
 refine ⟨by rw[length_set,length_set];exact h.1,λr' hr=>?_,λj r' e=>?_⟩
 ·rcases mem_or_eq_of_mem_set hr with hr|rfl
  ·exact h.2.1 _ hr
  ·exact ok
 ·by_cases hj:i=j
  ·subst hj;rw[getElem?_set_self hi] at e;cases e;exact ⟨t,Δ,getElem?_set_self (by rw[h.1];exact hi),p⟩
  ·rw[getElem?_set_ne hj] at e;obtain ⟨a,Δ',e2,pp⟩:=h.2.2 j r' e;exact ⟨a,Δ',by rw[getElem?_set_ne hj];exact e2,pp⟩
def A6 {cs:List Int}{r:Rw}{n:Int}(ok:r.ok)(h:eI x cs ws r=.on n x' cs'):0<=n:=by
 cases r with
 |lg w=>
  have h:ofM (c8 w x cs ws)=.on n x' cs':=h;cases e:c8 w x cs ws with
  |no d c=>rw[e] at h;cases h
  |on r y ys=>
   rw[e] at h;cases h;rcases (Ei e).1 with rfl|rfl<;>decide
 |hop m o=>
  cases h;have:=ok.1;cases o with
  |none=>show 0<=1+m;omega
  |some i=>
   show 0<=(if i=x.m then 1+m else 1)
   split<;>omega
 |sp s=>
  have h:jJ (jQ x cs ws s)=.on n x' cs':=h;cases e:jQ x cs ws s with
  |on y ys=>rw[e] at h;cases h;decide
  |no d c=>rw[e] at h;cases h
  |nf b i=>rw[e] at h;cases h
def HX {cs:List Int}(h0:0<=at_)(h1:at_<=rs.length)(hn:∀ r ∈ rs,Rw.ok r):0<=(mS rs at_ x cs ws).at_/\(mS rs at_ x cs ws).at_<=rs.length/\((mS rs at_ x cs ws).w="on"\/((mS rs at_ x cs ws).w="end"\/(mS rs at_ x cs ws).w="stop")/\(mS rs at_ x cs ws).at_=at_/\(mS rs at_ x cs ws).x=x/\(mS rs at_ x cs ws).cs=cs):=by
 unfold mS;cases e:rs[at_.toNat]? with
 |none=>exact ⟨h0,h1,.inr ⟨.inl rfl,rfl,rfl,rfl⟩⟩
 |some r=>
  have ok:=hn r (mem_of_getElem? e);dsimp only;cases ho:eI x cs ws r with
  |no d c=>exact ⟨h0,h1,.inr ⟨.inr rfl,rfl,rfl,rfl⟩⟩
  |nf b i=>exact ⟨h0,h1,.inr ⟨.inr rfl,rfl,rfl,rfl⟩⟩
  |on n x' cs'=>
   have hn0:0<=n:=A6 ok ho;refine ⟨?_,?_,.inl rfl⟩
   ·show 0<=min (at_+n) (rs.length:Int)
    omega
   ·show min (at_+n) (rs.length:Int)<=rs.length
    omega
section
variable {m l s b:Addr}{at_:Int}{ds:List V}{rs:List Rw}{x:Bx}{cs:List Int}{ws:List Str}
end
def zV {cs:List Int}(hx:0<=x.l)(h:c8 wd x cs ws=.on r x' cs'):0<=x'.l/\cs'.length=cs.length:=by
 obtain ⟨hh,t,l,w,s,m⟩:=x;dsimp only at hx;cases wd<;>simp only[c8,c4,cV,c6,bI,bH,cY,hm,xm] at h<;>repeat' (first|(cases h;exact ⟨by dsimp only;omega,by simp only[length_set]⟩)|(cases h;done)|split at h)
def gS {cs:List Int}{b:Bn}(hx:0<=x.l)(h:bc x cs b i=.on x' cs'):0<=x'.l/\cs'.length=cs.length:=by
 unfold bc at h
 by_cases e:a9 b i=true
 ·rw[if_pos e] at h;cases h;refine ⟨?_,rfl⟩;cases b
  ·exact hx
  ·exact hx
  ·have e:(decide (0<=i)&&decide (i<=1000000000))=true:=e;have e:0<=i/\i<=1000000000:=by simpa using e
   exact e.1
  ·exact hx
  ·exact hx
  ·exact hx
 ·rw[if_neg e] at h;cases h
def vE {cs:List Int}{s:Sp}(hx:0<=x.l)(h:jQ x cs ws s=.on x' cs'):0<=x'.l/\cs'.length=cs.length:=by
 cases s with
 |set b i=>exact gS hx h
 |add b i=>exact gS hx h
 |take b c=>exact gS hx h
 |read b=>
  have h:(if ah ws "look" x.h=true then bc x cs b (gt cs x.h) else .no "look" x.h)=.on x' cs':=h
  by_cases e:ah ws "look" x.h=true
  ·rw[if_pos e] at h;exact gS hx h
  ·rw[if_neg e] at h;cases h
 |write b=>
  have h:(if fH (.int (x.g b))=true then (if ah ws "put" x.t=true then .on x (cs.set x.t.toNat (x.g b)) else .no "put" x.t) else .nf b (x.g b))=vX.on x' cs':=h
  by_cases e:fH (.int (x.g b))=true
  ·rw[if_pos e] at h
   by_cases e2:ah ws "put" x.t=true
   ·rw[if_pos e2] at h;cases h;exact ⟨hx,length_set ..⟩
   ·rw[if_neg e2] at h;cases h
  ·rw[if_neg e] at h;cases h
def vy {cs:List Int}{r:Rw}{n:Int}(hx:0<=x.l)(h:eI x cs ws r=.on n x' cs'):0<=x'.l/\cs'.length=cs.length:=by
 cases r with
 |lg w=>
  have h:ofM (c8 w x cs ws)=.on n x' cs':=h;cases e:c8 w x cs ws with
  |no d c=>rw[e] at h;cases h
  |on r y ys=>
   rw[e] at h;cases h;exact zV hx e
 |hop m o=>cases h;exact ⟨hx,rfl⟩
 |sp s=>
  have h:jJ (jQ x cs ws s)=.on n x' cs':=h;cases e:jQ x cs ws s with
  |on y ys=>rw[e] at h;cases h;exact vE hx e
  |no d c=>rw[e] at h;cases h
  |nf b i=>rw[e] at h;cases h
def oY {cs:List Int}(hx:0<=x.l):0<=(mS rs at_ x cs ws).x.l/\(mS rs at_ x cs ws).cs.length=cs.length:=by
 unfold mS;cases e:rs[at_.toNat]? with
 |none=>exact ⟨hx,rfl⟩
 |some r=>
  dsimp only;cases ho:eI x cs ws r with
  |no d c=>exact ⟨hx,rfl⟩
  |nf b i=>exact ⟨hx,rfl⟩
  |on n x' cs'=>exact vy hx ho
section
variable {w d p lv SP:Addr}{at_:Int}{ss:List V}{rs:List Rw}{x:Bx}{cs:List Int}{ws:List Str}
end
def Sep.mv:∀ {L P Δ O:List ay}{H:Hp},Sep (P++(Δ++(L++O))) H->Sep (P++(L++(Δ++O))) H
 | [],_,_,_,_,z=>z
 |A::L,P,Δ,O,H,z=>(Sep.mv (L:=L) (P:=A::P) (Δ:=Δ) (O:=O) (z.pull (aa (aa .here)))).push (aa .here)
def aK {α:Type}{f:α->ay}{x:α}:∀ {l:List α}{i:Nat},l[i]? =some x->∀ {O:List ay},af (f x) (l.map f++O) ((l.eraseIdx i).map f++O)
 |y::l,0,h,O=>by cases h;exact .here
 |y::l,i+1,h,O=>.there (aK (l:=l) (i:=i) h)
def k8 {α:Type}{f:α->ay}{x y:α}:∀ {l:List α}{i:Nat},l[i]? =some x->∀ {O:List ay},af (f y) ((l.set i y).map f++O) ((l.eraseIdx i).map f++O)
 |z::l,0,h,O=>.here
 |z::l,i+1,h,O=>.there (k8 (l:=l) (i:=i) h)
def v5 {b:Addr}{j i2 j2:Int}(hk:1<=k)(z:Sep O H)(e1:H a=some (.tup [.int i,.int j]))(e2:H b=some (.tup [.int i2,.int j2]))(hd:min j j2<=max i i2)(q:Q .non H):ab tab R k zG [.ref a,.ref b] H Q E:=by
 refine wc (d:=rG) nofun rfl rfl ?_;right;refine cS e1 rfl ?_;right;refine cS e2 rfl ?_;right;refine cS e1 rfl ?_;right;refine cS e2 rfl ?_;right;refine ax (λh=>absurd h nofun) (λh=>?_);right;exact q
def se (h:n<=xs.length):fg xs none (some (n:Int))=xs.take n:=by
 unfold fg;show (xs.drop 0).take ((if (n:Int)<0 then ((n:Int)+(xs.length:Int)).toNat else min (n:Int).toNat xs.length)-0)=_;rw[if_neg nofun,Int.toNat_natCast,Nat.min_eq_left h]
 rfl
def pZ (h:n<=xs.length):fg xs (some (n:Int)) none=xs.drop n:=by
 unfold fg;show (xs.drop (if (n:Int)<0 then ((n:Int)+(xs.length:Int)).toNat else min (n:Int).toNat xs.length)).take (xs.length-(if (n:Int)<0 then ((n:Int)+(xs.length:Int)).toNat else min (n:Int).toNat xs.length))=_;rw[if_neg nofun,Int.toNat_natCast,Nat.min_eq_left h];exact take_of_length_le (by rw[length_drop];omega)
def y0 {m:Nat}(h:n<=xs.length)(h2:m<=xs.length):fg xs (some (n:Int)) (some (m:Int))=(xs.drop n).take (m-n):=by
 unfold fg;show (xs.drop (if (n:Int)<0 then ((n:Int)+(xs.length:Int)).toNat else min (n:Int).toNat xs.length)).take ((if (m:Int)<0 then ((m:Int)+(xs.length:Int)).toNat else min (m:Int).toNat xs.length)-(if (n:Int)<0 then ((n:Int)+(xs.length:Int)).toNat else min (n:Int).toNat xs.length))=_;rw[if_neg (by omega:¬ (n:Int)<0),if_neg (by omega:¬ (m:Int)<0),Int.toNat_natCast,Int.toNat_natCast,Nat.min_eq_left h,Nat.min_eq_left h2]
structure Pt where
 p:Addr
 i:Int
 j:Int
abbrev cM (q:Pt):V:=.ref q.p
abbrev dz (q:Pt):ay:=tu q.p [.int q.i,.int q.j]
abbrev By (a b:Pt):Prop:=min a.j b.j<=max a.i b.i
def Cd {L:List Pt}(hk:2<=k)(hn:L.length<=4)(z:Sep O H)(p:af (pt l (.lst (L.map cM))) O Δ)(ht:∀ q ∈ L,∃ Δ,af (dz q) O Δ) (hd:∀ (n m:Nat) (a b:Pt),n<m->L[n]? =some a->L[m]? =some b->By a b) (q:∀ H',Sep O H'->Q (.bl true) H'):ab tab R k Bg [.ref l] H Q E:=by
 refine wc (d:=uH) nofun rfl rfl ?_;right;refine CO (z.get p) ?_;refine jV (xs:=L.map cM) (λj U H=>∃ u v w,U=[some (.ref l),u,v,w]/\Sep O H) ⟨none,none,none,rfl,z⟩ ?_ ?_ ?_
 ·rintro j U H ⟨u,v,w,rfl,hs⟩;exact hs.get p
 ·rintro j x T U H hx ⟨u,v,w,rfl,hs⟩ hT;rw[getElem?_map] at hx;obtain ⟨b,eb,rfl⟩:=Option.map_eq_some_iff.mp hx;have hs4:=hs.g6 (xs:=[.int j,cM b]) hT;left;refine ⟨T,_,rfl,.inl (aZ.of hs4.atT),rfl,?_⟩;generalize upd H T _=H4 at hs4⊢;right;refine GW hs4 (hs4.get (.there p)) (λP H5 hs5=>?_);have hj:j<L.length:=(List.getElem?_eq_some_iff.mp eb).1;rw[se (by rw[length_map];omega)] at hs5;obtain ⟨Δb,pb⟩:=ht b (mem_of_getElem? eb);clear hs4 hs;right;refine cy (xs:=(L.map cM).take j) (λi U H=>∃ w,U=[some (.ref l),some (.int j),some (cM b),w]/\Sep (pt P (.lst ((L.map cM).take j))::tu T [.int j,cM b]::O) H) ⟨_,rfl,hs5⟩ ?_ ?_ ?_
  ·rintro i U H ⟨w,rfl,hs⟩;exact aS.of (hs.get .here)
  ·rintro i x U H hx ⟨w,rfl,hs⟩;rw[getElem?_take] at hx
   split at hx
   ·rename_i hij;rw[getElem?_map] at hx;obtain ⟨a,ea,rfl⟩:=Option.map_eq_some_iff.mp hx;obtain ⟨Δa,pa⟩:=ht a (mem_of_getElem? ea);right;refine v5 nofun hs (hs.fK (.there (.there pa))) (hs.fK (.there (.there pb))) (hd i j a b hij ea eb) ?_;refine bp ?_;refine ar rfl ?_;right;exact ⟨_,rfl,hs⟩
   ·cases hx
  ·rintro U H ⟨w,rfl,hs⟩;right;exact ⟨_,_,_,rfl,hs.drop.drop⟩
 ·rintro U H ⟨u,v,w,rfl,hs⟩;right;exact q _ hs
structure Mh where
 t:Addr
 i:Int
 j:Int
 dl:Addr
 b:Addr
 rs:List Rw
 x:Bx
abbrev jW (q:Mh):V:=.ref q.t
abbrev pf (q:Mh):ay:=tu q.t [.int q.i,.int q.j,.ref q.dl,.ref q.b]
def rp {t:Addr}(ro:Ro K R)(hk:1<=k)(e:H t=some (.tup xs))(hl:xs.length=4)(q:Q (.bl true) H):ab tab R k rg [.ref t] H Q E:=by
 refine wc (d:=je) nofun rfl rfl ?_;left;refine cn (t:="tuple") (ES e) rfl ?_;right;refine ur e ?_;left;simp only[ro.g_THINGS_OF_A_MEMBER];right;rw[hl];exact q
def lT {L:List Mh}(ro:Ro K R)(hk:2<=k)(n0:1<=L.length)(n1:L.length<=4)(z:Sep O H)(p:af (pt l (.lst (L.map jW))) O Δ)(ht:∀ q ∈ L,∃ Δ,af (pf q) O Δ) (q:∀ H',Sep O H'->Q (.bl true) H'):ab tab R k lN [.ref l] H Q E:=by
 refine wc (d:=fQ) nofun rfl rfl ?_;left;refine cn (t:="list") (vY (z.get p)) rfl ?_;right;refine gI (z.get p) ?_;rw[length_map];right;refine ax (λh=>?_) (λh=>absurd nofun h);left;simp only[ro.g_MOST_MEMBERS];right;refine ax (λh=>?_) (λh=>absurd nofun h);right;refine GP (z.get p) ?_;refine lx (xs:=L.map jW) (by rw[length_map];omega) (λD ys H=>ys=List.replicate ys.length (.bl true)/\Sep (pt D (.lst ys)::O) H) (λD ys H hI=>aS.of (hI.2.get (.there p))) (λD hD=>⟨rfl,z.new (o:=.lst []) hD⟩) (λD ys y H hy hI=>?_) (λD ys H hl hI=>?_)
 ·obtain ⟨e,zz⟩:=hI;rw[getElem?_map] at hy;obtain ⟨o,eo,rfl⟩:=Option.map_eq_some_iff.mp hy;obtain ⟨Δo,po⟩:=ht o (mem_of_getElem? eo);have hlt:=(List.getElem?_eq_some_iff.mp eo).1;right;refine rp ro nofun (zz.fK (.there po)) rfl ?_;refine pj.mk zz.at nofun ⟨?_,zz.set rfl⟩;rw[length_append,length_singleton,List.replicate_succ',<-e]
 ·obtain ⟨e,zz⟩:=hI;right;refine zL (K:=R.K) (bs:=List.replicate ys.length true) rfl (by rw[map_replicate,<-e];exact zz.at) ?_;right;rw[show (List.replicate ys.length true).all id=true by simp];exact q _ zz.drop
def vn {p:Addr}{j:Int}(hk:3<=k)(e:H p=some (.tup [.int i,.int j]))(h0:0<=i)(h1:i<j)(h2:j<=n)(q:Q (.bl true) H):ab tab R k wj [.ref p,.int n] H Q E:=by
 refine wc (d:=mX) nofun rfl rfl ?_;right;refine cS e rfl ?_;right;refine cS e rfl ?_;right;refine rO (t:="int") (u:="int") nofun rfl rfl ?_;refine aN (by simp[cX,h0,h2,Int.le_of_lt h1]) ?_;right;refine cS e rfl ?_;right;refine cS e rfl ?_;right;dsimp only;rw[decide_eq_true h1];exact q
abbrev ij (q:Pt):Int×Int:=(q.i,q.j)
abbrev Bu (q:Mh):Int×Int:=(q.i,q.j)
abbrev JW (a b:Mh):Prop:=min a.j b.j<=max a.i b.i
def xq {L':List Pt}{L:List Mh}(e:L'.map ij=L.map Bu){a:Pt}(h:L'[n]? =some a):∃ b,L[n]? =some b/\a.i=b.i/\a.j=b.j:=by
 have h2:(L'.map ij)[n]? =(L.map Bu)[n]? :=by rw[e]
 rw[getElem?_map,getElem?_map,h] at h2;obtain ⟨b,e1,e2⟩:=Option.map_eq_some_iff.mp h2.symm;exact ⟨b,e1,(congrArg (·.1) e2).symm,(congrArg (·.2) e2).symm⟩
def cA {L:List α}{o:α}(h:L[n]? =some o):L.take (n+1)=L.take n++[o]:=by
 rw[take_succ,h]
 rfl
def cB {f:α->ay}{x:α}{l:List α}:af (f x) ((l++[x]).map f++O) (l.map f++O):=by
 rw[map_append,append_assoc];exact aa .here
def tM {L:List Mh}(ro:Ro K R)(hk:4<=k)(n0:1<=L.length)(n1:L.length<=4)(z:Sep O H)(p:af (pt l (.lst (L.map jW))) O Δ)(ht:∀ q ∈ L,∃ Δ,af (pf q) O Δ) (hp:∀ q ∈ L,0<=q.i/\q.i<q.j/\q.j<=n) (hd:∀ (n m:Nat) (a b:Mh),n<m->L[n]? =some a->L[m]? =some b->JW a b)
  (q:∀ P (L':List Pt) H',L'.map ij=L.map Bu->Sep (pt P (.lst (L'.map cM))::(L'.map dz++O)) H'->Q (.ref P) H'):ab tab R k su [.ref l,.int n] H Q E:=by
 refine wc (d:=lj) nofun rfl rfl ?_;right;refine lT ro nofun n0 n1 z p ht (λH1 z1=>?_);right;rename_i P H2 z2;refine CO (z2.get (.there p)) ?_;refine jV (xs:=L.map jW) (λj U H=>∃ u v w,∃ L':List Pt,U=[some (.ref l),some (.int n),some (.ref P),u,v,w]/\L'.map ij=(L.take j).map Bu/\Sep (pt P (.lst (L'.map cM))::(L'.map dz++O)) H) ⟨none,none,none,[],rfl,rfl,z2⟩ ?_ ?_ ?_
 ·rintro j U H ⟨u,v,w,L',rfl,e,hs⟩;exact hs.get (.there (aa p))
 ·rintro j x T U H hx ⟨u,v,w,L',rfl,e,hs⟩ hT;rw[getElem?_map] at hx;obtain ⟨b,eb,rfl⟩:=Option.map_eq_some_iff.mp hx;have hj:=(List.getElem?_eq_some_iff.mp eb).1;obtain ⟨Δb,pb⟩:=ht b (mem_of_getElem? eb);obtain ⟨b0,b1,b2⟩:=hp b (mem_of_getElem? eb);have hs4:=hs.g6 (xs:=[.int j,jW b]) hT;left;refine ⟨T,_,rfl,.inl (aZ.of hs4.atT),rfl,?_⟩;generalize upd H T _=H4 at hs4⊢;right;refine cS (hs4.fK (.there (.there (aa pb)))) rfl ?_;right;refine cS (hs4.fK (.there (.there (aa pb)))) rfl ?_;right;rename_i X H5 hs5;refine vn (n:=n) nofun hs5.at b0 b1 b2 ?_;refine ar rfl ?_;clear hs4 hs;right;rename_i Y H6 hs6;have hl':L'.length=j:=by
   have:=congrArg List.length e;rw[length_map,length_map,length_take] at this
   omega
  refine nv hs6 (hs6.get (.there (.there (.there .here)))) hs6.at (by rw[length_map,length_singleton];omega) (λZ H7 hs7=>?_);have e':(L'++[(⟨X,b.i,b.j⟩:Pt)]).map ij=(L.take (j+1)).map Bu:=by
   rw[cA eb,map_append,map_append,e]
   rfl
  have hs8:Sep (tu X [.int b.i,.int b.j]::pt P (.lst (L'.map cM))::pt Z (.lst (L'.map cM++[.ref X]))::(L'.map dz++O)) H7:=(hs7.pull (.there (.there .here))).toT.sub (by ac_nf);have hs9:Sep (pt P (.lst (L'.map cM))::pt Z (.lst ((L'++[(⟨X,b.i,b.j⟩:Pt)]).map cM))::((L'++[(⟨X,b.i,b.j⟩:Pt)]).map dz++O)) H7:=Sep.push (.there (.there cB)) (by rw[map_append];exact hs8);clear hs5 hs6 hs7 hs8;right;refine Cd (L:=L'++[(⟨X,b.i,b.j⟩:Pt)]) nofun (by rw[length_append,length_singleton];omega) hs9 (.there .here) (λa ha=>?_) (λn m a a2 hn h1 h2=>?_) (λH8 hs10=>?_)
  ·obtain ⟨Δ,hp⟩:=bg (f:=dz) ha;exact ⟨_,.there (.there (hp O))⟩
  ·obtain ⟨c,c1,c2,c3⟩:=xq e' h1;obtain ⟨d,d1,d2,d3⟩:=xq e' h2;have g1:L[n]? =some c:=by
    rw[getElem?_take] at c1
    split at c1
    ·exact c1
    ·cases c1
   have g2:L[m]? =some d:=by
    rw[getElem?_take] at d1
    split at d1
    ·exact d1
    ·cases d1
   have:=hd n m c d hn g1 g2;unfold JW at this;unfold By
   omega
  ·refine ar rfl ?_;right;refine ⟨P,_,rfl,hs10.at,?_⟩;right;refine ⟨_,hs10.at,rD hs10 .here (by rw[length_map];omega) (λH9 hs11=>?_)⟩;right;refine ⟨_,_,_,L'++[⟨X,b.i,b.j⟩],rfl,e',?_⟩;have hs12:=(hs11.pull (.there .here)).drop;rw[map_append];exact hs12
 ·rintro U H ⟨u,v,w,L',rfl,e,hs⟩;right;rw[length_map,take_length] at e;exact q P L' _ e hs
abbrev pT (R:Rt)(q:Mh):ay:=bx λL:List (Addr×Rw)=>pt q.dl (.lst (L.map d5))::aM R q.b q.x::pu (L.map (·.2)=q.rs)::L.reverse.map (rX R)
def KY {q:Mh}(z:Sep (pT R q::O) H):∃ L:List (Addr×Rw),L.map (·.2)=q.rs/\Sep (pt q.dl (.lst (L.map d5))::aM R q.b q.x::(L.reverse.map (rX R)++O)) H:=by
 obtain ⟨L,z1⟩:=iT z;have z2:=z1.pull (.there (.there .here));exact ⟨L,z2.pure,z2.drop⟩
def Kr {q:Mh}{L:List (Addr×Rw)}(e:L.map (·.2)=q.rs)(z:Sep (pt q.dl (.lst (L.map d5))::aM R q.b q.x::(L.reverse.map (rX R)++O)) H):Sep (pT R q::O) H:=hJ L (Sep.push (.there (.there .here)) (Sep.tS e z))
structure Mm where
 m:Addr
 at_:Int
 rs:List Rw
 x:Bx
 cs:List Int
 ws:List Str
abbrev cO (q:Mm):V:=.ref q.m
abbrev bM (R:Rt)(q:Mm):ay:=bx λe:Addr×Addr×Addr×List (Addr×Rw)=>rW R q.m e.1 e.2.1 e.2.2.1 q.at_ (e.2.2.2.map d5)::aY R e.2.1 q.cs q.ws::aM R e.2.2.1 q.x::pu (e.2.2.2.map (·.2)=q.rs)::e.2.2.2.reverse.map (rX R)
variable {q:Mm}
def Ca (z:Sep (bM R q::O) H):∃ (l s b:Addr) (L:List (Addr×Rw)),L.map (·.2)=q.rs/\Sep (rW R q.m l s b q.at_ (L.map d5)::aY R s q.cs q.ws::aM R b q.x::(L.reverse.map (rX R)++O)) H:=by
 obtain ⟨⟨l,s,b,L⟩,z1⟩:=iT z;have z2:=z1.pull (.there (.there (.there .here)));exact ⟨l,s,b,L,z2.pure,z2.drop⟩
def B4 {s b:Addr}{L:List (Addr×Rw)}(e:L.map (·.2)=q.rs)(z:Sep (rW R q.m l s b q.at_ (L.map d5)::aY R s q.cs q.ws::aM R b q.x::(L.reverse.map (rX R)++O)) H):Sep (bM R q::O) H:=hJ (l,s,b,L) (Sep.push (.there (.there (.there .here))) (Sep.tS e z))
def pe {p:Addr}{cs:List Int}{q:Mh}{i j:Nat}{Δ1:List ay}(ro:Ro K R)(hk:7<=k)(n0:1<=q.rs.length)(n1:q.rs.length<=24)(hij:i<j)(hj:j<=cs.length)(c60:cs.length<=60)(hc:c7 cs)(z:Sep (pT R q::pt C (.lst (cs.map V.int))::O) H)(p1:af (tu p [.int i,.int j]) O Δ1)(p2:af (pf q) O Δ2)
  (h:∀ m H',Sep (bM R ⟨m,0,q.rs,q.x,(cs.drop i).take (j-i),List.replicate (j-i) "open"⟩::pt C (.lst (cs.map V.int))::O) H'->Q (.ref m) H'):ab tab R k iw [.ref C,.ref p,.ref q.t] H Q E:=by
 refine wc (d:=gX) nofun rfl rfl ?_;obtain ⟨L,eL,z1⟩:=KY z;clear z;right;refine cS (z1.fK (.there (.there (aa (.there p2))))) rfl ?_;right;refine cS (z1.fK (.there (.there (aa (.there p1))))) rfl ?_;right;refine cS (z1.fK (.there (.there (aa (.there p1))))) rfl ?_;right;refine GW z1 (z1.get (.there (.there (aa .here)))) (λS H2 z2=>?_);rw[y0 (by rw[length_map];omega) (by rw[length_map];omega),<-map_drop,<-map_take] at z2;have el:((cs.drop i).take (j-i)).length=j-i:=by rw[length_take,length_drop];omega
 right;intro a dx g1 g2 g3;refine oo ro nofun nofun nofun (λy hy=>hc y (List.mem_of_mem_drop (mem_of_mem_take hy))) (gk z2 g1 g2 g3) .here (λH3 z3=>⟨rfl,?_⟩);rw[el] at z3;right;refine cS (z3.fK (.there (.there (.there (.there (aa (.there p2))))))) rfl ?_;right;intro m dx3 g1 g2 g3;have hrow:=n9 (R:=R) (O:=pt C (.lst (cs.map V.int))::O) eL;have hlen:=hrow.1;refine vJ (l:=q.dl) (s:=a) (b:=q.b) (x:=q.x) (at_:=0) (ds:=L.map d5) ro nofun nofun nofun nofun nofun (.there (.there .here)) .here (.there (.there (.there .here))) (gC.all hrow.more.more.more.more) (gk z3 g1 g2 g3) (λl2 s2 b2 H7 z7=>⟨rfl,?_⟩);refine h m H7 (B4 (l:=l2) (s:=s2) (b:=b2) eL ?_);exact z7.sub (by ac_nf)
@[irreducible] noncomputable def wM (I:Addr->List V->Hp->Prop) (D:Addr) (ys:List V) (rest:St) (x y:Option V):VK:=λv H3=>∃ zs,H3 D=some (.lst zs)/\zs.length<sizeLine/\∃ ys2 x2 x3,x::y::rest=x2::x3::rest/\ys2.length=ys.length+1/\I D ys2 (upd H3 D (.lst (zs++[v])))
def wM.mk {I:Addr->List V->Hp->Prop}{D:Addr}{ys:List V}{rest:St}{x y:Option V}{H3:Hp}(h1:H3 D=some (.lst ys))(hl:ys.length<=999)(h2:I D (ys++[v]) (upd H3 D (.lst (ys++[v])))):wM I D ys rest x y v H3:=
 by unfold wM;exact ⟨ys,h1,dq nofun,ys++[v],x,y,rfl,by simp,h2⟩
def zm {te:TE}{b:Addr}{ys:List V}{rest:St}{tp1 tp2:Bool}(hn:xs.length=ys.length)(I:Addr->List V->Hp->Prop)(hl:∀ D zs H,I D zs H->Sq R.K tp1 H a xs/\Sq R.K tp2 H b ys) (h0:∀ D,H D=none->I D [] (upd H D (.lst [])))
  (hs:∀ D zs x y T H',xs[zs.length]? =some x->ys[zs.length]? =some y->I D zs H'->H' T=none->te (some x::some y::rest) (upd H' T (.tup [x,y])) (wM I D zs rest (some x) (some y)))
  (hd:∀ D zs H',zs.length=xs.length->I D zs H'->Q (.ref D) H'):LCt R.K 2 te (G4 R.K tp1 a tp2 b) (none::none::rest) H Q:=by
 unfold LCt;intro D hD;refine ⟨λi m σ' H'=>m=xs.length-i/\i<=xs.length/\∃ ys x0 x1,σ'=x0::x1::rest/\ys.length=i/\I D ys H',⟨xs.length,by simp,Nat.zero_le _,[],none,none,rfl,rfl,h0 D hD⟩,λi m σ' H' ⟨e,hi,zs,x0,x1,e1,e2,h⟩=>?_⟩;subst e1 e2;obtain ⟨g1,g2⟩:=hl D zs H' h
 by_cases hlt:zs.length<xs.length
 ·refine .inr ⟨⟨xs,ys,xs[zs.length],ys[zs.length]'(hn▸hlt),g1,g2,getElem?_eq_getElem hlt,getElem?_eq_getElem (hn▸hlt)⟩,λσ2 H2=>∃ ys2 x2 x3,σ2=x2::x3::rest/\ys2.length=zs.length+1/\I D ys2 H2,λσ2 H2 ⟨ys2,x2,x3,f1,f2,f3⟩=>⟨xs.length-(zs.length+1),by omega,rfl,hlt,ys2,x2,x3,f1,f2,f3⟩,λx H'' y=>?_⟩;obtain ⟨T,v,v',hT,rfl,rfl,hy,hy'⟩:=y;have z:=hs D zs v v' T H' (hy xs g1) (hy' ys g2) h hT;refine ⟨T,[v,v'],rfl,aZ.of av,rfl,rfl,?_⟩;unfold wM at z;exact ⟨λ_=>z,λe=>nomatch e⟩
 ·have:zs.length=xs.length:=by omega
  exact .inl ⟨⟨xs,ys,g1,g2,.inl (Nat.le_of_eq this.symm)⟩,hd D zs H' this h⟩
abbrev BW (q:Mm):Mm:={ q with m:=0 }
abbrev uz (cs:List Int)(q:Mh):Mm:=⟨0,0,q.rs,q.x,(cs.drop q.i.toNat).take (q.j.toNat-q.i.toNat),List.replicate (q.j.toNat-q.i.toNat) "open"⟩
def Cb {L:List α}{o:α}(h:L[n]? =some o):L.drop n=o::L.drop (n+1):=by
 obtain ⟨hl,e⟩:=List.getElem?_eq_some_iff.mp h;rw[List.drop_eq_getElem_cons hl,e]
abbrev K3 (n:Nat)(q:Mh):Prop:=(0<=q.i/\q.i<q.j/\q.j<=n)/\1<=q.rs.length/\q.rs.length<=24
def Sep.cut {A B:List ay}(z:Sep (A++(B++O)) H):Sep (A++O) H:=by
 induction B with
 |nil=>exact z
 |cons X B ih=>exact ih (z.pull (aa .here)).drop
section
variable {C l pl:Addr}{cs:List Int}{L:List Mh}{P:List Pt}
def oa {te:TE}(ro:Ro K R)(hk:7<=k)(n1:L.length<=4)(ok:∀ q ∈ L,K3 cs.length q) (c60:cs.length<=60) (hc:c7 cs) (eP:P.map ij=L.map Bu)
  (hte:∀ {v w:V}{H:Hp}{Q:VK},ab tab R k iw [.ref C,v,w] H Q (λ_ _=>False)->te [some v,some w,some (.ref C)] H Q) (hP:∀ a ∈ P,∃ Δ,af (dz a) O Δ)
  (z:Sep (pt C (.lst (cs.map V.int))::pt l (.lst (L.map jW))::pt pl (.lst (P.map cM))::(L.map (pT R)++(L.map pf++O))) H)
  (q:∀ D (M:List Mm) H',M.map BW=L.map (uz cs)->Sep (pt D (.lst (M.map cO))::pt pl (.lst (P.map cM))::(M.map (bM R)++O)) H'->Q (.ref D) H'):LCt R.K 2 te (G4 R.K false pl false l) (none::none::[some (.ref C)]) H Q:=by
 have hlP:P.length=L.length:=by
  have:=congrArg List.length eP
  rwa [length_map,length_map] at this
 refine zm (xs:=P.map cM) (ys:=L.map jW) (by rw[length_map,length_map];exact hlP) (λD ys H=>∃ M:List Mm,ys=M.map cO/\M.map BW=(L.take M.length).map (uz cs)/\Sep (pt D (.lst ys)::pt C (.lst (cs.map V.int))::pt l (.lst (L.map jW))::pt pl (.lst (P.map cM))::(M.map (bM R)++((L.drop M.length).map (pT R)++(L.map pf++O)))) H) (λD ys H ⟨M,_,_,zz⟩=>⟨aS.of (zz.get (.there (.there (.there .here)))),aS.of (zz.get (.there (.there .here)))⟩) (λD hD=>⟨[],rfl,rfl,z.new (o:=.lst []) hD⟩) (λD ys x y T H hx hy hI hT=>?_) (λD ys H hl hI=>?_)
 ·obtain ⟨M,rfl,e2,zz⟩:=hI;rw[length_map,getElem?_map] at hx hy;obtain ⟨pp,ep,rfl⟩:=Option.map_eq_some_iff.mp hx;obtain ⟨o,eo,rfl⟩:=Option.map_eq_some_iff.mp hy;obtain ⟨⟨o0,o1,o2⟩,r0,r1⟩:=ok o (mem_of_getElem? eo);have hn:=(List.getElem?_eq_some_iff.mp eo).1;obtain ⟨o',eo',ei,ej⟩:=xq eP ep;rw[eo] at eo';cases eo';have z2:=(zz.g6 (xs:=[cM pp,jW o]) hT).drop;generalize upd H T _=H2 at z2;rw[Cb eo] at z2;have z3:=(z2.pull (.there .here)).pull (.there (.there (.there (.there (aa .here)))));obtain ⟨Δ1,p1⟩:=hP pp (mem_of_getElem? ep);obtain ⟨Δ2,p2⟩:=bg (f:=pf) (mem_of_getElem? eo);have p1':af (tu pp.p [.int ((o.i.toNat:Nat):Int),.int ((o.j.toNat:Nat):Int)]) O Δ1:=by
   have e:dz pp=tu pp.p [.int ((o.i.toNat:Nat):Int),.int ((o.j.toNat:Nat):Int)]:=by
    show tu pp.p [.int pp.i,.int pp.j]=_;rw[ei,ej,Int.toNat_of_nonneg o0,Int.toNat_of_nonneg nofun]
   rw[<-e];exact p1
  refine hte (pe (i:=o.i.toNat) (j:=o.j.toNat) (q:=o) ro hk r0 r1 nofun nofun c60 hc z3 (p:=pp.p) (.there (.there (.there (aa (aa (aa p1')))))) (.there (.there (.there (aa (aa (p2 _)))))) (λm H3 z4=>?_));have z5:=(z4.pull (.there (.there .here))).set (o':=.lst (M.map cO++[.ref m])) rfl;refine wM.mk (z4.get (.there (.there .here))) (by rw[length_map];omega) ⟨M++[⟨m,0,o.rs,o.x,(cs.drop o.i.toNat).take (o.j.toNat-o.i.toNat),List.replicate (o.j.toNat-o.i.toNat) "open"⟩],by rw[map_append];rfl,?_,?_⟩
  ·rw[length_append,length_singleton,cA eo,map_append,map_append,e2]
   rfl
  ·rw[length_append,length_singleton];exact Sep.push (.there (.there (.there (.there cB)))) (z5.pull (.there .here))
 ·obtain ⟨M,rfl,e2,zz⟩:=hI;rw[length_map,length_map,hlP] at hl;rw[hl,take_length] at e2;refine q D M H e2 ?_;rw[hl,List.drop_length] at zz;have z2:=(zz.pull (.there .here)).drop;have z3:=(z2.pull (.there .here)).drop;exact Sep.cut (A:=pt D _::pt pl _::M.map (bM R)) (B:=L.map pf) z3
end
abbrev cq (R:Rt)(c:Addr)(cs:List Int)(ws:List Str)(P:List (Int×Int))(ms:List V):ay:=bx λe:Addr×Addr×Addr×Addr×List Pt=>pt c (.ins (R.cad bR) e.1 [("ground",.ref e.2.1),("parts",.ref e.2.2.1),("machines",.ref e.2.2.2.1)])::pt e.1 (.own c)::pt e.2.2.1 (.lst (e.2.2.2.2.map cM))::pt e.2.2.2.1 (.lst ms)::aY R e.2.1 cs ws::pu (e.2.2.2.2.map ij=P)::e.2.2.2.2.map dz
section
variable {c:Addr}{cs:List Int}{ws:List Str}{P:List (Int×Int)}{ms:List V}
def BS (z:Sep (cq R c cs ws P ms::O) H):∃ (dx gr pl ml:Addr) (L:List Pt),L.map ij=P/\Sep (pt c (.ins (R.cad bR) dx [("ground",.ref gr),("parts",.ref pl),("machines",.ref ml)])::pt dx (.own c)::pt pl (.lst (L.map cM))::pt ml (.lst ms)::aY R gr cs ws::(L.map dz++O)) H:=by
 obtain ⟨⟨dx,gr,pl,ml,L⟩,z1⟩:=iT z;have z2:=z1.pull (.there (.there (.there (.there (.there .here)))));exact ⟨dx,gr,pl,ml,L,z2.pure,z2.drop⟩
def Hg {gr pl ml:Addr}{L:List Pt}(e:L.map ij=P)(z:Sep (pt c (.ins (R.cad bR) dx [("ground",.ref gr),("parts",.ref pl),("machines",.ref ml)])::pt dx (.own c)::pt pl (.lst (L.map cM))::pt ml (.lst ms)::aY R gr cs ws::(L.map dz++O)) H):Sep (cq R c cs ws P ms::O) H:=hJ (dx,gr,pl,ml,L) (Sep.push (.there (.there (.there (.there (.there .here))))) (Sep.tS e z))
def cg:Ob R (cq R c cs ws P ms) c bR ["ground","parts","machines"]:=by
 rintro H D ⟨⟨dx,gr,pl,ml,L⟩,D1,D2,_,_,_,⟨_,h⟩,_⟩;exact ⟨dx,_,h,rfl⟩
def Cf (hk:1<=k)(z:Sep O H)(p:af (aY R a cs ws) O Δ)(q:Q (.int cs.length) H):ab tab R k gB [.ref a] H Q E:=by
 obtain ⟨hok,z2⟩:=jg (z.pull p);refine ya hk z2 ?_;rw[length_map];exact q
def rF {L:List Mh}(ro:Ro K R)(hk:9<=k)(n0:1<=L.length)(n1:L.length<=4)(ok:∀ q ∈ L,K3 cs.length q) (hd:∀ (n m:Nat) (a b:Mh),n<m->L[n]? =some a->L[m]? =some b->JW a b) (c0:1<=cs.length) (c60:cs.length<=60) (hc:c7 cs)
  (z:Sep (pt c (.ins (R.cad bR) dx [])::pt dx (.own c)::pt C (.lst (cs.map V.int))::pt l (.lst (L.map jW))::(L.map (pT R)++(L.map pf++O))) H)
  (q:∀ (M:List Mm) H',M.map BW=L.map (uz cs)->Sep (cq R c cs (List.replicate cs.length "open") (L.map Bu) (M.map cO)::(M.map (bM R)++O)) H'->Q .non H'):ab tab R k jT [.ref c,.ref C,.ref l] H Q E:=by
 refine wc (d:=dO) nofun rfl rfl ?_;right;intro a dx2 g1 g2 g3;refine oo (a:=C) ro nofun c0 c60 hc (gk z g1 g2 g3) (.there (.there .here)) (λH2 z2=>⟨rfl,?_⟩);right;rename_i H3 z3;refine ae bJ z3 (by symm) rfl rfl ?_;left;refine Cf nofun z3 (by symm) ?_;right;have z4:Sep (pt l (.lst (L.map jW))::aY R a cs (List.replicate cs.length "open")::pt c (.ins (R.cad bR) dx [("ground",.ref a)])::pt dx (.own c)::pt C (.lst (cs.map V.int))::(L.map (pT R)++(L.map pf++O))) H3:=z3.sub (by ac_nf);refine tM (n:=cs.length) (L:=L) ro nofun n0 n1 z4 .here (λa ha=>?_) (λq hq=>(ok q hq).1) hd (λpl P H5 eP z5=>?_)
 ·obtain ⟨Δ,hp⟩:=bg (f:=pf) ha;exact ⟨_,.there (.there (.there (.there (.there (aa (hp O))))))⟩
 have z6:Sep (pt pl (.lst (P.map cM))::pt l (.lst (L.map jW))::aY R a cs (List.replicate cs.length "open")::pt c (.ins (R.cad bR) dx [("ground",.ref a)])::pt dx (.own c)::pt C (.lst (cs.map V.int))::(P.map dz++(L.map (pT R)++(L.map pf++O)))) H5:=Sep.mv (P:=[_]) (Δ:=P.map dz) (L:=[_,_,_,_,_]) z5;clear z z2 z3 z4 z5;right;rename_i H6 z7;have z8:Sep (pt C (.lst (cs.map V.int))::pt l (.lst (L.map jW))::pt pl (.lst (P.map cM))::aY R a cs (List.replicate cs.length "open")::pt c (.ins (R.cad bR) dx [("ground",.ref a),("parts",.ref pl)])::pt dx (.own c)::(P.map dz++(L.map (pT R)++(L.map pf++O)))) H6:=z7.sub (by ac_nf);have z9:Sep (pt C (.lst (cs.map V.int))::pt l (.lst (L.map jW))::pt pl (.lst (P.map cM))::(L.map (pT R)++(L.map pf++(aY R a cs (List.replicate cs.length "open")::pt c (.ins (R.cad bR) dx [("ground",.ref a),("parts",.ref pl)])::pt dx (.own c)::(P.map dz++O))))) H6:=by
  have:=Sep.mv (P:=[_,_,_]) (Δ:=aY R a cs (List.replicate cs.length "open")::pt c (.ins (R.cad bR) dx [("ground",.ref a),("parts",.ref pl)])::pt dx (.own c)::P.map dz) (L:=L.map (pT R)++L.map pf) (O:=O) (H:=H6) (by rw[append_assoc];exact z8);rw[append_assoc] at this;exact this
 clear z6 z7 z8;refine FU (tp1:=false) (tp2:=false) (aS.of (z9.get (.there (.there .here)))) (aS.of (z9.get (.there .here))) ?_;refine oa (C:=C) (k:=k-1) ro nofun n1 ok c60 hc eP (λ{v w H Q} h=>?_) (λa ha=>?_) z9 (λml M H7 eM z10=>?_)
 ·right;exact h
 ·obtain ⟨Δ,hp⟩:=bg (f:=dz) ha;exact ⟨_,.there (.there (.there (hp O)))⟩
 have z11:Sep (pt ml (.lst (M.map cO))::pt pl (.lst (P.map cM))::aY R a cs (List.replicate cs.length "open")::pt c (.ins (R.cad bR) dx [("ground",.ref a),("parts",.ref pl)])::pt dx (.own c)::(P.map dz++(M.map (bM R)++O))) H7:=Sep.mv (P:=[_,_]) (Δ:=M.map (bM R)) (L:=aY R a cs (List.replicate cs.length "open")::pt c (.ins (R.cad bR) dx [("ground",.ref a),("parts",.ref pl)])::pt dx (.own c)::P.map dz) z10;clear z9 z10;right;rename_i H8 z12;refine q M H8 eM (Hg (dx:=dx) (gr:=a) (pl:=pl) (ml:=ml) eP ?_);exact z12.sub (by ac_nf)
end
section
variable {c m:Addr}{cs:List Int}{ws:List Str}{P:List (Int×Int)}{ms:List V}{i:Nat}
def cL (hk:2<=k)(hi:i<ms.length)(z:Sep O H)(p:af (cq R c cs ws P ms) O Δ)(h:Q .non H):ab tab R k cu [.ref c,.int i] H Q E:=by
 refine wc (d:=bb) nofun rfl rfl ?_;obtain ⟨dx,gr,pl,ml,L,eL,z1⟩:=BS (z.pull p);right;refine aF (t:="int") nofun rfl ?_;right;refine ax (λh1=>?_) (λh=>absurd nofun h);right;exact h
def hG (hk:3<=k)(hi:ms[i]? =some (.ref m))(z:Sep O H)(p:af (cq R c cs ws P ms) O Δ)(h:Q (.ref m) H):ab tab R k cW [.ref c,.int i] H Q E:=by
 refine wc (d:=bC) nofun rfl rfl ?_;obtain ⟨dx,gr,pl,ml,L,eL,z1⟩:=BS (z.pull p);right;refine ae cg z p rfl rfl ?_;left;refine cL nofun (List.getElem?_eq_some_iff.mp hi).1 z p ?_;right;refine aL (z1.get (by symm)) (aI nofun (by rw[Int.toNat_natCast];exact hi)) ?_;right;exact h
end
abbrev xb (q:Mm):Prop:=0<=q.at_/\q.at_<=q.rs.length/\∀ r ∈ q.rs,Rw.ok r
abbrev AY (q:Mm):Mm:=⟨q.m,(mS q.rs q.at_ q.x q.cs q.ws).at_,q.rs,(mS q.rs q.at_ q.x q.cs q.ws).x,(mS q.rs q.at_ q.x q.cs q.ws).cs,q.ws⟩
section
variable {c:Addr}{cs:List Int}{ws:List Str}{P:List (Int×Int)}{ms:List V}{i:Nat}{q:Mm}
def oy:Ob R (bM R q) q.m aU ["deeds","store","boxes","at"]:=by
 rintro H D ⟨⟨l,s,b,L⟩,D1,D2,_,_,_,⟨dx,D3,D4,_,_,_,⟨_,h⟩,_⟩,_⟩;exact ⟨dx,_,h,rfl⟩
def Bk (ro:Ro K R)(hk:12<=k)(hi:ms[i]? =some (.ref q.m))(ok:xb q)(z:Sep (bM R q::cq R c cs ws P ms::O) H)
  (h:∀ H',Sep (bM R (AY q)::cq R c cs ws P ms::O) H'->Q (.str (mS q.rs q.at_ q.x q.cs q.ws).w) H'):ab tab R k rL [.ref c,.int i] H Q E:=by
 refine wc (d:=d8) nofun rfl rfl ?_;right;refine ae cg z (.there .here) rfl rfl ?_;left;refine hG nofun hi z (.there .here) ?_;refine ae oy z .here rfl rfl ?_;obtain ⟨l,s,b,L,eL,z1⟩:=Ca z;left;have e:=(n9 (R:=R) (O:=cq R c cs ws P ms::O) eL).1;refine Dd ro nofun ok.1 (by rw[e];exact ok.2.1) (n9 eL) z1 (λH2 z2=>h H2 ?_);exact B4 (q:=AY q) eL z2
def Ao (ro:Ro K R)(hk:4<=k)(hi:ms[i]? =some (.ref q.m))(z:Sep (bM R q::cq R c cs ws P ms::O) H)
  (h:∀ t t1 l1 H',Sep (pt t (.tup [.int q.at_,.ref t1,.ref l1])::pt l1 (.lst (q.cs.map V.int))::tu t1 (q.x.ls.map V.int)::bM R q::cq R c cs ws P ms::O) H'->Q (.ref t) H'):ab tab R k nX [.ref c,.int i] H Q E:=by
 refine wc (d:=dI) nofun rfl rfl ?_;right;refine ae cg z (.there .here) rfl rfl ?_;left;refine hG nofun hi z (.there .here) ?_;refine ae oy z .here rfl rfl ?_;obtain ⟨l,s,b,L,eL,z1⟩:=Ca z;left;refine pY ro nofun z1 (λt t1 l1 H2 z2=>h t t1 l1 H2 ?_);have z2':Sep (rW R q.m l s b q.at_ (L.map d5)::aY R s q.cs q.ws::aM R b q.x::pt t (.tup [.int q.at_,.ref t1,.ref l1])::pt l1 (.lst (q.cs.map V.int))::tu t1 (q.x.ls.map V.int)::(L.reverse.map (rX R)++(cq R c cs ws P ms::O))) H2:=z2.sub (by ac_nf);have z3:Sep (bM R q::pt t (.tup [.int q.at_,.ref t1,.ref l1])::pt l1 (.lst (q.cs.map V.int))::tu t1 (q.x.ls.map V.int)::cq R c cs ws P ms::O) H2:=B4 (l:=l) (s:=s) (b:=b) (L:=L) eL (Sep.mv (P:=[_,_,_]) (Δ:=[_,_,_]) (L:=L.reverse.map (rX R)) z2');exact z3.sub (by ac_nf)
end
def yl (ro:Ro K R)(hk:2<=k)(z:Sep O H)(p:af (bM R q) O Δ)
  (h:∀ t t1 l1 H',Sep (pt t (.tup [.int q.at_,.ref t1,.ref l1])::pt l1 (.lst (q.cs.map V.int))::tu t1 (q.x.ls.map V.int)::O) H'->Q (.ref t) H'):ab tab R k dX [.ref q.m] H Q E:=by
 obtain ⟨l,s,b,L,eL,z1⟩:=Ca (z.pull p);refine pY ro hk z1 (λt t1 l1 H2 z2=>h t t1 l1 H2 ?_);have z2':Sep (rW R q.m l s b q.at_ (L.map d5)::aY R s q.cs q.ws::aM R b q.x::pt t (.tup [.int q.at_,.ref t1,.ref l1])::pt l1 (.lst (q.cs.map V.int))::tu t1 (q.x.ls.map V.int)::(L.reverse.map (rX R)++Δ)) H2:=z2.sub (by ac_nf);have z3:Sep (bM R q::pt t (.tup [.int q.at_,.ref t1,.ref l1])::pt l1 (.lst (q.cs.map V.int))::tu t1 (q.x.ls.map V.int)::Δ) H2:=B4 (l:=l) (s:=s) (b:=b) (L:=L) eL (Sep.mv (P:=[_,_,_]) (Δ:=[_,_,_]) (L:=L.reverse.map (rX R)) z2');exact Sep.push (.there (.there (.there p))) z3
abbrev kc (cs:List Int)(P:List (Int×Int))(M:List Mm):Nat->List Int
 |0=>cs
 |n+1=>match P[n]?,M[n]? with
  |some p,some q=>(kc cs P M n).take p.1.toNat++q.cs++(kc cs P M n).drop p.2.toNat
  |_,_=>kc cs P M n
abbrev Fn (n:Nat)(P:List (Int×Int))(M:List Mm):Prop:=P.length=M.length/\∀ (i:Nat) (p:Int×Int) (q:Mm),P[i]? =some p->M[i]? =some q->0<=p.1/\p.2<=n/\p.1+q.cs.length=p.2
def j5 {cs:List Int}{P:List (Int×Int)}{M:List Mm}(f:Fn cs.length P M):∀ n,(kc cs P M n).length=cs.length
 |0=>rfl
 |n+1=>by
  have ih:=j5 f n;unfold kc
  split
  ·rename_i p q e1 e2;obtain ⟨a,b,c⟩:=f.2 n p q e1 e2;rw[length_append,length_append,length_take,length_drop,ih]
   omega
  ·exact ih
variable {M:List Mm}
def yQ {c:Addr}{cs:List Int}{P:List (Int×Int)}(ro:Ro K R)(hk:4<=k)(c60:cs.length<=60)(n1:M.length<=4)(f:Fn cs.length P M)(z:Sep (cq R c cs ws P (M.map cO)::(M.map (bM R)++O)) H)
  (h:∀ A H',Sep (pt A (.lst ((kc cs P M M.length).map V.int))::cq R c cs ws P (M.map cO)::(M.map (bM R)++O)) H'->Q (.ref A) H'):ab tab R k oB [.ref c] H Q E:=by
 refine wc (d:=ic) nofun rfl rfl ?_;obtain ⟨dx,gr,pl,ml,L,eL,z1⟩:=BS z;have hlL:L.length=M.length:=by
  have:=congrArg List.length eL;rw[length_map] at this;rw[this];exact f.1
 clear z;right;refine ae bJ z1 (by symm) rfl rfl ?_;left;refine uj nofun z1 (by symm) (λA H2 z2=>?_);clear z1;right;refine FU (tp1:=false) (tp2:=false) (aS.of (z2.get (by symm))) (aS.of (z2.get (by symm))) ?_;refine ui (xs:=L.map cM) (ys:=M.map cO) (λj U H=>∃ A u v,U=[some (.ref c),some (.ref A),u,v]/\Sep (pt A (.lst ((kc cs P M j).map V.int))::pt c (.ins (R.cad bR) dx [("ground",.ref gr),("parts",.ref pl),("machines",.ref ml)])::pt dx (.own c)::pt pl (.lst (L.map cM))::pt ml (.lst (M.map cO))::aY R gr cs ws::(L.map dz++(M.map (bM R)++O))) H) (by rw[length_map,length_map,hlL]) ⟨A,none,none,rfl,z2⟩ ?_ ?_ ?_
 ·rintro j U H ⟨A,u,v,rfl,zz⟩;exact ⟨aS.of (zz.get (by symm)),aS.of (zz.get (by symm))⟩
 ·rintro j x y T U H hx hy ⟨A,u,v,rfl,zz⟩ hT;rw[getElem?_map] at hx hy;obtain ⟨pp,ep,rfl⟩:=Option.map_eq_some_iff.mp hx;obtain ⟨q,eq,rfl⟩:=Option.map_eq_some_iff.mp hy;have eP:P[j]? =some (ij pp):=by rw[<-eL,getElem?_map,ep];rfl
  obtain ⟨f0,f1,f2⟩:=f.2 j _ q eP eq;have fl:=j5 f j;have e3:kc cs P M (j+1)=(kc cs P M j).take pp.i.toNat++q.cs++(kc cs P M j).drop pp.j.toNat:=by
   show (match P[j]?,M[j]? with
    |some p,some q=>(kc cs P M j).take p.1.toNat++q.cs++(kc cs P M j).drop p.2.toNat
    |_,_=>kc cs P M j)=_
   rw[eP,eq]
   rfl
  have hs4:=zz.g6 (xs:=[cM pp,cO q]) hT;obtain ⟨Δ1,p1⟩:=bg (f:=dz) (mem_of_getElem? ep);obtain ⟨Δ2,p2⟩:=bg (f:=bM R) (mem_of_getElem? eq);left;refine ⟨T,_,rfl,.inl (aZ.of hs4.atT),rfl,?_⟩;generalize upd H T _=H4 at hs4⊢;have z5:=hs4.drop;clear hs4 zz;right;refine cS (z5.fK (.there (.there (.there (.there (.there (.there (p1 _))))))) ) rfl ?_;right;rename_i B H6 z6;have g1:pp.i=((pp.i.toNat:Nat):Int):=(Int.toNat_of_nonneg f0).symm;have g2:pp.j=((pp.j.toNat:Nat):Int):=(Int.toNat_of_nonneg (by have:(ij pp).1+(q.cs.length:Int)=(ij pp).2:=f2;have:(ij pp).2=pp.j:=rfl;omega)).symm;have g3:pp.j.toNat<=cs.length:=by have:pp.j<=(cs.length:Int):=f1;omega
  have g4:pp.i.toNat+q.cs.length=pp.j.toNat:=by have:pp.i+(q.cs.length:Int)=pp.j:=f2;omega
  rw[g1,se (by rw[length_map];omega),<-map_take] at z6;refine ae oy z6 (.there (.there (.there (.there (.there (.there (.there (aa (p2 _)))))))) ) rfl rfl ?_;left;refine yl ro nofun z6 (.there (.there (.there (.there (.there (.there (.there (aa (p2 _)))))))) ) (λt t1 l1 H7 z7=>?_);clear z5;refine cS z7.at rfl ?_;right;refine nv z7 (z7.get (.there (.there (.there .here)))) (z7.get (.there .here)) (by rw[length_map,length_map,length_take];omega) (λC1 H8 z8=>?_);right;refine cS (z8.fK (.there (.there (.there (.there (.there (.there (.there (.there (.there (.there (.there (p1 _)))))))))))) ) rfl ?_;right;rename_i D2 H9 z9;rw[g2,pZ (by rw[length_map];omega),<-map_drop] at z9;refine nv z9 (z9.get (.there .here)) z9.at (by simp only[length_append,length_map,length_take,length_drop];omega) (λA2 H10 z10=>?_);right;refine ⟨A2,_,_,rfl,?_⟩;rw[e3,map_append,map_append];exact z10.sub (by ac_nf)
 ·rintro U H ⟨A,u,v,rfl,zz⟩;right;rw[length_map,hlL] at zz;refine h A _ ?_;exact (Hg (dx:=dx) (gr:=gr) (pl:=pl) (ml:=ml) eL (O:=pt A _::(M.map (bM R)++O)) (Sep.push (.there (.there (.there (.there (.there (aa .here)))))) zz)).pull (.there .here)
def DS:(3:Int)*10 ^ Int.toNat 8=300000000:=by decide
def Mj {a b c d e:V}(ha:P a)(hb:P b)(hc:P c)(hd:P d)(he:P e):∀ v ∈ [a,b,c,d,e],P v:=λv hv=>by
 simp only[mem_cons,not_mem_nil,or_false] at hv;rcases hv with rfl|rfl|rfl|rfl|rfl<;>assumption
def Mf {a b c d e f:V}(ha:P a)(hb:P b)(hc:P c)(hd:P d)(he:P e)(hf:P f):∀ v ∈ [a,b,c,d,e,f],P v:=λv hv=>by
 simp only[mem_cons,not_mem_nil,or_false] at hv;rcases hv with rfl|rfl|rfl|rfl|rfl|rfl<;>assumption
def Aj {M:Int}(hk:2<=k)(s:Sep (hand h m::O) H)(hm:m<=1099510000000)(hM0:1<=M)(hM1:M<=60)(q:∀ p ns H',1<=ns.length->(ns.length:Int)<=M->c7 ns->Sep (pt p (.lst (ns.map V.int))::hand h (m+300)::O) H'->Q (.ref p) H'):ab tab R k pI [.ref h,.int M] H Q E:=by
 refine wc (d:=gU) nofun rfl rfl ?_;walk_at "gd";rename_i mn H2 mn0 mn1 hs2;refine ph (n:=(1+mn).toNat) nofun (λD ys H=>∃ ns:List Int,ys=ns.map V.int/\c7 ns/\Sep (pt D (.lst ys)::hand h (m+2+4*((ys.length:Nat):Int))::O) H) (λD hD=>⟨[],rfl,λi hi=>absurd hi (by simp),(aj ((hs2.new (o:=.lst []) hD).pull (.there .here)) (by simp)).pull (.there .here)⟩) (λD ys H hl hI=>?_) (λD ys H hl hI=>?_)
 ·obtain ⟨ns,e,hc,hs⟩:=hI;walk_at "gd";rename_i l1 H3 hs3 r1 H4 r10 r11 hs4;rw[DS] at hs4;obtain ⟨v,e2,N,rfl,N0,N1⟩:=d7 (xs:=[.int 3,.int 1000,.int 300000000]) (P:=inR 1 300000000) (r:=r1) r10 (by simpa using r11) (Lb (.mk (by decide) (by decide)) (.mk (by decide) (by decide)) (.mk (by decide) (by decide)));refine aL (by grind) e2 ?_;walk_at "gd";rename_i r2 H5 r20 r21 hs5;refine pj.mk (by grind) nofun ⟨ns++[r2],by rw[e];simp,tD hc nofun nofun,?_⟩;have hs7:=(hs5.pull (A:=pt D (.lst ys)) (by symm)).set (o':=.lst (ys++[.int r2])) rfl;refine ((aj (n:=m+2+4*(((ys++[V.int r2]).length:Nat):Int)) (hs7.pull (A:=hand h _) (by symm)) ?_).sub (by ac_nf));rw[length_append,length_singleton]
  omega
 ·obtain ⟨ns,rfl,hc,hs⟩:=hI;rw[length_map] at hl;refine q D ns H nofun nofun hc ?_;exact (aj (hs.pull (.there .here)) (by rw[length_map];omega)).pull (.there .here)
def vo {h t l w:Int}(z:Sep O H)(r:aV (pt d (.dK [])) (pt d (.dK [(.inr "here",.int h),(.inr "there",.int t),(.inr "left",.int l),(.inr "way",.int w)])) O Γ') (q:∀ H',Sep Γ' H'->Q (.ref d) H'):vm ["here","there","left","way"] d [.int h,.int t,.int l,.int w] H Q:=by
 obtain ⟨Δ,p1,p2⟩:=r.bL;unfold vm;exact ⟨z.get p1,q _ (z.put r rfl)⟩
def Ba {M:Int}(hk:2<=k)(s:Sep (hand h m::O) H)(hm:m<=1099510000000)(hM0:1<=M)(hM1:M<=60)
  (q:∀ d x H',Bx.ok x->Sep (ao d x::hand h (m+30)::O) H'->Q (.ref d) H'):ab tab R k sG [.ref h,.int M] H Q E:=by
 refine wc (d:=lz) nofun rfl rfl ?_;walk_at "gd";refine ph (n:=2) nofun (λD ys H=>∃ ns:List Int,ys=ns.map V.int/\(∀ i ∈ ns,-1000000000<=i/\i<=1000000000)/\Sep (pt D (.lst ys)::hand h (m+3*((ys.length:Nat):Int))::O) H) (λD hD=>⟨[],rfl,λi hi=>absurd hi (by simp),(aj ((s.new (o:=.lst []) hD).pull (.there .here)) (by simp)).pull (.there .here)⟩) (λD ys H hl hI=>?_) (λD ys H hl hI=>?_)
 ·obtain ⟨ns,e,hc,hs⟩:=hI;walk_at "gd";rename_i r1 H3 r10 r11 hs3 l1 H4 hs4 r2 H5 r20 r21 hs5;rw[gG] at hs5;obtain ⟨v,e2,N,rfl,N0,N1⟩:=d7 (xs:=[.int r1,.int 0,.int (M-1),.int M,.int (-1),.int 1000000000]) (P:=inR (-1000000000) 1000000000) (r:=r2) r20 (by simpa using r21) (Mf (.mk nofun nofun) (.mk (by decide) (by decide)) (.mk nofun nofun) (.mk nofun nofun) (.mk (by decide) (by decide)) (.mk (by decide) (by decide)));refine aL (by grind) e2 ?_;refine pj.mk (by grind) nofun ⟨ns++[N],by rw[e];simp,λi hi=>?_,?_⟩
  ·rcases mem_append.mp hi with hi|hi
   ·exact hc i hi
   ·rw[mem_singleton.mp hi];exact ⟨N0,N1⟩
  have hs7:=(hs5.pull (A:=pt D (.lst ys)) (by symm)).set (o':=.lst (ys++[.int N])) rfl;refine ((aj (n:=m+3*(((ys++[V.int N]).length:Nat):Int)) (hs7.pull (A:=hand h _) (by symm)) ?_).sub (by ac_nf));rw[length_append,length_singleton]
  omega
 obtain ⟨ns,rfl,hc,hs⟩:=hI;rw[length_map] at hl
 match ns,hl,hc,hs with
 | [a,b],_,hc,hs=>
  have ha:=hc a (by simp);have hb:=hc b (by simp);have hs2:Sep (hand h (m+6)::pt D (.lst [.int a,.int b])::O) H:=aj (hs.pull (.there .here)) (by simp);clear s hs;walk_at "gd";rename_i r1 H3 r10 r11 hs3 l1 H4 hs4 r2 H5 r20 r21 hs5;rw[gG] at hs5;obtain ⟨v,e2,lf,rfl,lf0,lf1⟩:=d7 (xs:=[.int r1,.int M,.int (M+1),.int 1000000000,.int 0]) (P:=inR 0 1000000000) (r:=r2) r20 (by simpa using r21) (Mj (.mk nofun nofun) (.mk nofun nofun) (.mk nofun nofun) (.mk (by decide) (by decide)) (.mk (by decide) (by decide)));refine aL (by grind) e2 ?_;right;intro d hd;have hs8:=hs5.new (o:=.dK []) hd;generalize upd H5 d (.dK [])=H8 at hs8⊢;clear hs2 hs3 hs4 hs5;walk_at "gd";rename_i w2 H9 w20 w21 hs9;refine vo hs9 (by ac_rfl) (λH10 hs10=>?_);clear hs8 hs9;walk_at "gd";rename_i l2 H11 hs11 r3 H12 r30 r31 hs12;rw[DS] at hs12;obtain ⟨v,e3,N,rfl,N0,N1⟩:=d7 (xs:=[.int 3,.int 300000000]) (P:=inR 1 300000000) (r:=r3) r30 (by simpa using r31) (JA (.mk (by decide) (by decide)) (.mk (by decide) (by decide)));refine aL (by grind) e3 ?_;clear hs10 hs11;walk_at "gd";rename_i sg H13 sg0 sg1 hs13;refine uO (k:=.inr "sign") (kvs':=[(.inr "here",.int a),(.inr "there",.int b),(.inr "left",.int lf),(.inr "way",.int (1-2*w2)),(.inr "sign",.int sg)]) hs13 (by ac_rfl) (Nat.le_of_ble_eq_true rfl) rfl (λH14 hs14=>?_);clear hs12 hs13;walk_at "gd";rename_i mt H15 mt0 mt1 hs15;refine uO (k:=.inr "met") (kvs':=[(.inr "here",.int a),(.inr "there",.int b),(.inr "left",.int lf),(.inr "way",.int (1-2*w2)),(.inr "sign",.int sg),(.inr "met",.int mt)]) hs15 (by ac_rfl) (Nat.le_of_ble_eq_true rfl) rfl (λH16 hs16=>?_);right;refine q d ⟨a,b,lf,1-2*w2,sg,mt⟩ H16 ?_ ?_
  ·refine ⟨ha,hb,⟨lf0,lf1⟩,?_,⟨?_,?_⟩,?_⟩<;>dsimp only<;>omega
  ·have z:Sep (hand h (m+6+1+1+1+1+1+1)::pt d (.dK [(.inr "here",.int a),(.inr "there",.int b),(.inr "left",.int lf),(.inr "way",.int (1-2*w2)),(.inr "sign",.int sg),(.inr "met",.int mt)])::O) H16:=hs16.sub (by ac_nf);exact (aj z nofun).pull (.there .here)
def Ek {y:V}(s:Sep O H)(r:aV (pt a (.lst xs)) (pt a (.lst (xs.take i.toNat++y::xs.drop i.toNat))) O Γ')(h0:0<=i)(h1:i<=xs.length)(hl:xs.length<=10000)(h:∀ H',Sep Γ' H'->Q .non H'):EO .insert a xs [.int i,y] H Q:=by unfold EO;exact ⟨i,y,rfl,h0,h1,hl,h _ (s.put r rfl)⟩
def yX {f:α->ay}{x:α}{l:List α}{r:Nat}:af (f x) ((l.take r++x::l.drop r).map f++O) (l.map f++O):=by
 have e:l.map f++O=(l.take r).map f++((l.drop r).map f++O):=by rw[<-append_assoc,<-map_append,take_append_drop]
 rw[e,map_append,append_assoc];exact aa .here
abbrev j3 (n:Int)(L:List Pt):Prop:=(∀ q ∈ L,0<=q.i/\q.i<q.j/\q.j<=n)/\L.Pairwise By
def By.symm {a b:Pt}(h:By a b):By b a:=by unfold By at h⊢;omega
def vt {n:Int}{L:List Pt}{x:Pt}{r:Nat}(h:j3 n L)(h0:0<=x.i)(h1:x.i<x.j)(h2:x.j<=n)(hx:∀ q ∈ L,q.j<=x.i):j3 n (L.take r++x::L.drop r):=by
 have pm:(L.take r++x::L.drop r).Perm (x::L):=by
  have:=List.perm_middle (a:=x) (l₁:=L.take r) (l₂:=L.drop r)
  rwa [take_append_drop] at this
 refine ⟨λq hq=>?_,(pm.pairwise_iff By.symm).mpr (List.pairwise_cons.mpr ⟨λq hq=>?_,h.2⟩)⟩
 ·rcases mem_cons.mp (pm.mem_iff.mp hq) with rfl|hq
  ·exact ⟨h0,h1,h2⟩
  ·exact h.1 q hq
 ·have:=hx q hq;unfold By
  omega
def xE {n:Int}(hk:2<=k)(s:Sep (hand h m::O) H)(hm:m<=1099510000000)(n0:1<=n)(n60:n<=60)
  (q:∀ D (L:List Pt) H',1<=L.length->L.length<=4->j3 n L->Sep (pt D (.lst (L.map cM))::hand h (m+30)::(L.map dz++O)) H'->Q (.ref D) H'):ab tab R k nE [.ref h,.int n] H Q E:=by
 refine wc (d:=gm) nofun rfl rfl ?_;walk_at "gd";rename_i D H1 hs1 r1 H2 r10 r11 hs2 l1 H3 hs3 r2 H4 r20 r21 hs4;obtain ⟨v,e2,lo,rfl,lo0,lo1⟩:=d7 (xs:=[.int 0,.int r1]) (P:=inR 0 (n-1)) (r:=r2) r20 (by simpa using r21) (JA (.mk (by decide) nofun) (.mk nofun nofun));refine aL (by grind) e2 ?_;have hs5:Sep (hand h (m+2)::pt D (.lst [])::O) H4:=aj (hs4.sub (Γ':=hand h _::pt D (.lst [])::O) (by ac_nf)) nofun;clear hs1 hs2 hs3 hs4 s;walk_at "gd";rename_i r3 H5 r30 r31 hs6;refine ig (λj U H=>∃ lw u v,∃ L:List Pt,U=[some (.ref h),some (.int n),some (.ref D),some (.int lw),u,v]/\0<=lw/\(∀ q ∈ L,q.j<=lw)/\(j=0->lw<n)/\(1<=j->1<=L.length)/\L.length<=j/\j3 n L/\Sep (pt D (.lst (L.map cM))::hand h (m+3+5*(j:Int))::(L.map dz++O)) H) ?_ ?_ ?_
 ·exact ⟨lo,none,none,[],rfl,lo0,λq hq=>absurd hq (by simp),λ_=>by omega,λh=>absurd h nofun,Nat.le_refl _,⟨λq hq=>absurd hq (by simp),.nil⟩,(aj hs6 nofun).pull (.there .here)⟩
 ·rintro j U H hj ⟨lw,u,v,L,rfl,g0,g1,g2,g3,g4,g5,zz⟩;walk_at "gd";refine ax (λhlt=>?_) (λhlt=>?_)
  ·walk_at "gd";rename_i l2 H6 z6 r4 H7 r40 r41 z7;obtain ⟨v2,e3,N,rfl,N0,N1⟩:=d7 (xs:=[.int (n-lw),.int (min 9 (n-lw))]) (P:=inR 1 (n-lw)) (r:=r4) r40 (by simpa using r41) (JA (.mk nofun nofun) (.mk nofun nofun));refine aL (by grind) e3 ?_;clear z6;walk_at "gd";rename_i r5 H8 r50 r51 z8;have z9:Sep (pt D (.lst (L.map cM))::hand h (m+3+5*(j:Int)+2)::(L.map dz++O)) H8:=(aj (z8.sub (Γ':=hand h _::pt D (.lst (L.map cM))::(L.map dz++O)) (by ac_nf)) nofun).pull (.there .here);clear z7 z8;refine ⟨D,_,rfl,z9.at,?_⟩;right;rw[length_map];refine n8 nofun (z9.pull (.there .here)) nofun nofun nofun (λr6 H9 r60 r61 z10=>?_);right;rename_i X H10 z11;have z12:Sep (dz ⟨X,lw,lw+1+r5⟩::pt D (.lst (L.map cM))::hand h (m+3+5*(j:Int)+2+1)::(L.map dz++O)) H10:=(z11.pull (A:=pt X _) (by symm)).toT.sub (Γ':=tu X _::pt D (.lst (L.map cM))::hand h _::(L.map dz++O)) (by ac_nf);have z13:=Sep.push (.there (.there (yX (r:=r6.toNat)))) z12;refine ⟨_,z13.at,Ek z13 .here r60 (by rw[length_map];omega) (by rw[length_map];omega) (λH11 z14=>?_)⟩;have em:(L.map cM).take r6.toNat++V.ref X::(L.map cM).drop r6.toNat=(L.take r6.toNat++(⟨X,lw,lw+1+r5⟩:Pt)::L.drop r6.toNat).map cM:=by
    rw[map_append,map_cons,map_take,map_drop]
    rfl
   rw[em] at z14;clear z9 z10 z11 z12 z13;walk_at "gd";rename_i l3 H12 z15 r7 H13 r70 r71 z16;obtain ⟨v3,e4,s,rfl,s0,s1⟩:=d7 (xs:=[.int 0,.int 0,.int 1,.int 3]) (P:=inR 0 3) (r:=r7) r70 (by simpa using r71) (Lj (.mk (by decide) (by decide)) (.mk (by decide) (by decide)) (.mk (by decide) (by decide)) (.mk (by decide) (by decide)));refine aL (by grind) e4 ?_;right;refine ⟨lw+1+r5+s,_,_,_,rfl,by omega,λq hq=>?_,λh=>absurd h nofun,λ_=>?_,?_,vt (r:=r6.toNat) (x:=⟨X,lw,lw+1+r5⟩) g5 (by dsimp only;omega) (by dsimp only;omega) (by dsimp only;omega) (λq hq=>g1 q hq),?_⟩
   ·rcases mem_append.mp hq with hq|hq
    ·have:=g1 q (mem_of_mem_take hq)
     omega
    ·rcases mem_cons.mp hq with rfl|hq
     ·dsimp only
      omega
     ·have:=g1 q (List.mem_of_mem_drop hq)
      omega
   ·rw[length_append,length_cons]
    omega
   ·rw[length_append,length_cons,length_take,length_drop]
    omega
   ·exact (aj (n:=m+3+5*(((j+1:Nat):Nat):Int)) (z16.pull (A:=hand h _) (by symm)) nofun).sub (by ac_nf)
  ·right;refine ⟨lw,_,_,L,rfl,g0,g1,λh=>absurd h nofun,λ_=>g3 nofun,by omega,g5,?_⟩;exact (aj (zz.pull (.there .here)) nofun).pull (.there .here)
 ·rintro U H ⟨lw,u,v,L,rfl,g0,g1,g2,g3,g4,g5,zz⟩;right;refine q D L H (g3 nofun) nofun g5 ?_;exact (aj (zz.pull (.there .here)) nofun).pull (.there .here)
structure Mb where
 t:Addr
 SP:Addr
 d:Addr
 i:Int
 j:Int
 S:List (Addr×Rw)
 x:Bx
abbrev bN (q:Mb):V:=.ref q.t
abbrev dA (q:Mb):Int×Int:=(q.i,q.j)
abbrev dj (a b:Int×Int):Prop:=min a.2 b.2<=max a.1 b.1
abbrev bK (q:Mb):ay:=bx λ_:Unit=>tu q.t [.int q.i,.int q.j,.ref q.SP,.ref q.d]::pt q.SP (.lst (q.S.map d5))::ao q.d q.x::q.S.reverse.map iy
def zJ {q:Mb}(z:Sep (bK q::O) H):Sep (tu q.t [.int q.i,.int q.j,.ref q.SP,.ref q.d]::pt q.SP (.lst (q.S.map d5))::ao q.d q.x::(q.S.reverse.map iy++O)) H:=let ⟨_,z⟩:=iT z;z
def C3 {q:Mb}(z:Sep (tu q.t [.int q.i,.int q.j,.ref q.SP,.ref q.d]::pt q.SP (.lst (q.S.map d5))::ao q.d q.x::(q.S.reverse.map iy++O)) H):Sep (bK q::O) H:=hJ () z
abbrev HG (n:Int)(q:Mb):Prop:=(0<=q.i/\q.i<q.j/\q.j<=n)/\(1<=q.S.length/\q.S.length<=24)/\(∀ r ∈ q.S.map (·.2),Rw.ok r)/\q.x.ok
def tG {M:Int}{cs:List Int}(hk:3<=k)(s:Sep (hand h m::pt C (.lst (cs.map V.int))::O) H)(hm:m<=1099500000000)(M0:1<=M)(M1:M<=24)(c0:1<=cs.length)(c60:cs.length<=60)
  (q:∀ D (L:List Mb) H',1<=L.length->L.length<=4->(∀ q ∈ L,HG cs.length q)->(L.map dA).Pairwise dj->Sep (pt D (.lst (L.map bN))::hand h (m+2000)::pt C (.lst (cs.map V.int))::(L.map bK++O)) H'->Q (.ref D) H'):ab tab R k lp [.ref h,.ref C,.int M] H Q E:=by
 refine wc (d:=eZ) nofun rfl rfl ?_;right;rename_i D H1 z1;rw[length_map];refine xE (m:=m) nofun (aj (z1.pull (A:=hand h m) (by symm)) nofun) nofun nofun nofun (λPL P H2 p0 p1 ok z2=>?_);have z3:Sep (pt D (.lst [])::hand h (m+30)::pt PL (.lst (P.map cM))::pt C (.lst (cs.map V.int))::(P.map dz++O)) H2:=(Sep.mv (P:=[_,_]) (Δ:=P.map dz) (L:=[_,_]) (O:=O) z2).sub (O:=pt PL (.lst (P.map cM))::hand h (m+30)::pt D (.lst [])::pt C (.lst (cs.map V.int))::(P.map dz++O)) (by ac_nf);clear z1 z2 s;right;refine cy (xs:=P.map cM) (λj U H=>∃ u v w,∃ L:List Mb,U=[some (.ref h),some (.ref C),some (.int M),some (.ref D),u,v,w]/\L.map dA=(P.take j).map ij/\(∀ q ∈ L,HG cs.length q)/\Sep (pt D (.lst (L.map bN))::hand h (m+30+290*(j:Int))::pt PL (.lst (P.map cM))::pt C (.lst (cs.map V.int))::(L.map bK++(P.map dz++O))) H) ?_ ?_ ?_ ?_
 ·exact ⟨none,none,none,[],rfl,rfl,λq hq=>absurd hq (by simp),(aj (z3.pull (.there .here)) nofun).pull (.there .here)⟩
 ·rintro j U H ⟨u,v,w,L,rfl,e,hK,zz⟩;exact aS.of (zz.get (.there (.there .here)))
 ·rintro j x U H hx ⟨u,v,w,L,rfl,e,hK,zz⟩;rw[getElem?_map] at hx;obtain ⟨pp,ep,rfl⟩:=Option.map_eq_some_iff.mp hx;have hj:=(List.getElem?_eq_some_iff.mp ep).1;have hlL:L.length=j:=by
   have:=congrArg List.length e;rw[length_map,length_map,length_take] at this
   omega
  obtain ⟨o0,o1,o2⟩:=ok.1 pp (mem_of_getElem? ep);obtain ⟨Δ1,pp1⟩:=bg (f:=dz) (mem_of_getElem? ep);left;refine ⟨pp.p,_,rfl,.inl (aZ.of (zz.fK (.there (.there (.there (.there (aa (pp1 _)))))))),rfl,?_⟩;walk_at "gd";rename_i r2 H3 r20 r21 z4;have z5:Sep (hand h (m+31+290*(j:Int))::pt D (.lst (L.map bN))::pt PL (.lst (P.map cM))::pt C (.lst (cs.map V.int))::(L.map bK++(P.map dz++O))) H3:=aj z4 nofun;clear zz z4;refine ph (n:=(1+r2).toNat) nofun (λD' ys H=>∃ S:List (Addr×Rw),ys=S.map d5/\(∀ r ∈ S.map (·.2),Rw.ok r)/\Sep (pt D' (.lst ys)::hand h (m+31+290*(j:Int)+10*((ys.length:Nat):Int))::pt D (.lst (L.map bN))::pt PL (.lst (P.map cM))::pt C (.lst (cs.map V.int))::(S.reverse.map iy++(L.map bK++(P.map dz++O)))) H) (λD hD=>⟨[],rfl,λp hp=>absurd hp (by simp),(aj ((z5.new (o:=.lst []) hD).pull (.there .here)) (by simp)).pull (.there .here)⟩) (λD' ys H hl hI=>?_) (λSP ys H hl hI=>?_)
  ·obtain ⟨S,e,ok,hs⟩:=hI;right;refine B5 nofun (hs.pull (.there .here)) nofun nofun nofun (λt r H7 o hs7=>?_);have hs8:=(hs7.pull (A:=pt D' (.lst ys)) (by symm)).set (o':=.lst (ys++[.ref t])) rfl;refine pj.mk (hs7.get (by symm)) nofun ⟨S++[(t,r)],by rw[e];simp[d5],λp hp=>?_,?_⟩
   ·rw[map_append] at hp;rcases mem_append.mp hp with hp|hp
    ·exact ok p hp
    ·rw[mem_singleton.mp hp];exact o
   ·rw[List.reverse_append,map_append,append_assoc];show Sep (pt D' _::hand h _::pt D (.lst (L.map bN))::pt PL (.lst (P.map cM))::pt C (.lst (cs.map V.int))::tu t r.tl::(S.reverse.map iy++(L.map bK++(P.map dz++O)))) _;exact (aj (n:=m+31+290*(j:Int)+10*(((ys++[V.ref t]).length:Nat):Int)) (hs8.pull (A:=hand h _) (by symm)) (by rw[length_append,length_singleton];omega)).sub (by ac_nf)
  obtain ⟨S,rfl,okS,hs6⟩:=hI;rw[length_map] at hl hs6;have z7:Sep (hand h (m+280+290*(j:Int))::pt SP (.lst (S.map d5))::pt D (.lst (L.map bN))::pt PL (.lst (P.map cM))::pt C (.lst (cs.map V.int))::(S.reverse.map iy++(L.map bK++(P.map dz++O)))) H:=aj (hs6.pull (.there .here)) nofun;clear z5 hs6;right;refine ⟨D,_,rfl,z7.get (by symm),?_⟩;right;refine Ba (M:=pp.j-pp.i) nofun z7 nofun nofun nofun (λd x H8 hx z8=>?_);right;rename_i t H9 z9;refine ⟨_,z9.get (by symm),rD z9 (by ac_rfl) (by rw[length_map];omega) (λH10 z10=>?_)⟩;right;refine ⟨_,_,_,L++[⟨t,SP,d,pp.i,pp.j,S,x⟩],rfl,?_,λq hq=>?_,?_⟩
  ·rw[cA ep,map_append,map_append,e]
   rfl
  ·rcases mem_append.mp hq with hq|hq
   ·exact hK q hq
   ·rw[mem_singleton.mp hq];exact ⟨⟨o0,o1,o2⟩,⟨by dsimp only;omega,by dsimp only;omega⟩,okS,hx⟩
  ·have z11:Sep (tu t [.int pp.i,.int pp.j,.ref SP,.ref d]::pt SP (.lst (S.map d5))::ao d x::pt D (.lst (L.map bN++[.ref t]))::hand h (m+30+290*((j+1:Nat):Int))::pt PL (.lst (P.map cM))::pt C (.lst (cs.map V.int))::(S.reverse.map iy++(L.map bK++(P.map dz++O)))) H10:=(aj (n:=m+30+290*((j+1:Nat):Int)) (z10.toT.pull (A:=hand h _) (by symm)) nofun).sub (by ac_nf);have z12:Sep (bK ⟨t,SP,d,pp.i,pp.j,S,x⟩::pt D (.lst (L.map bN++[.ref t]))::hand h (m+30+290*((j+1:Nat):Int))::pt PL (.lst (P.map cM))::pt C (.lst (cs.map V.int))::(L.map bK++(P.map dz++O))) H10:=C3 (Sep.mv (P:=[_,_,_]) (Δ:=[_,_,_,_]) (L:=S.reverse.map iy) z11);have z13:=Sep.push (.there (.there (.there (.there cB)))) z12;rw[map_append];exact z13
 ·rintro U H ⟨u,v,w,L,rfl,e,hK,zz⟩;right;rw[length_map,take_length] at e;have hl:L.length=P.length:=by
   have:=congrArg List.length e
   rwa [length_map,length_map] at this
  refine q D L H nofun nofun hK ?_ ?_
  ·rw[e];exact List.pairwise_map.mpr ok.2
  ·rw[length_map] at zz;have z4:Sep (pt D (.lst (L.map bN))::hand h (m+2000)::pt C (.lst (cs.map V.int))::(L.map bK++(P.map dz++O))) H:=(aj (n:=m+2000) (zz.pull (.there .here)) nofun).sub (by ac_nf);exact Sep.cut (A:=pt D _::hand h _::pt C _::L.map bK) (B:=P.map dz) z4
abbrev G8 (q:Mh):(Int×Int)×List Rw×Bx:=((q.i,q.j),q.rs,q.x)
abbrev yJ (q:Mb):(Int×Int)×List Rw×Bx:=((q.i,q.j),q.S.map (·.2),q.x)
abbrev DM (cs:List Int)(e:(Int×Int)×List Rw×Bx):Mm:=⟨0,0,e.2.1,e.2.2,(cs.drop e.1.1.toNat).take (e.1.2.toNat-e.1.1.toNat),List.replicate (e.1.2.toNat-e.1.1.toNat) "open"⟩
variable {L:List Mb}
def zx {G:List Mh}(e:G.map G8=L.map yJ){a:Mh}(h:G[n]? =some a):∃ b,L[n]? =some b/\G8 a=yJ b:=by
 have h2:(G.map G8)[n]? =(L.map yJ)[n]? :=by rw[e]
 rw[getElem?_map,getElem?_map,h] at h2;obtain ⟨b,e1,e2⟩:=Option.map_eq_some_iff.mp h2.symm;exact ⟨b,e1,e2.symm⟩
def Dq {o:Mb}(h:L[n]? =some o):(L.map bN)[n]? =some (.ref o.t):=by rw[getElem?_map,h];rfl
def BV {ML:Addr}{cs:List Int}(ro:Ro K R)(hk:10<=k)(n0:1<=L.length)(n1:L.length<=4)(ok:∀ q ∈ L,HG cs.length q) (hd:(L.map dA).Pairwise dj) (c0:1<=cs.length) (c60:cs.length<=60) (hc:c7 cs) (z:Sep (pt C (.lst (cs.map V.int))::pt ML (.lst (L.map bN))::(L.map bK++O)) H)
  (h:∀ c (M:List Mm) H',M.map BW=L.map (λq=>DM cs (yJ q))->Sep (cq R c cs (List.replicate cs.length "open") (L.map dA) (M.map cO)::(M.map (bM R)++(pt C (.lst (cs.map V.int))::pt ML (.lst (L.map bN))::(L.map bK++O)))) H'->Q (.ref c) H'):ab tab R k qt [.ref C,.ref ML] H Q E:=by
 refine wc (d:=jj) nofun rfl rfl ?_;right;rename_i SM H1 z1;have z2:Sep (pt SM (.lst [])::pt C (.lst (cs.map V.int))::pt ML (.lst (L.map bN))::(L.map bK++O)) H1:=z1;clear z z1;refine cy (xs:=L.map bN) (λj U H=>∃ u3 u4 u5 u6 u7,∃ G:List Mh,U=[some (.ref C),some (.ref ML),some (.ref SM),u3,u4,u5,u6,u7]/\G.map G8=(L.take j).map yJ/\Sep (pt SM (.lst (G.map jW))::pt C (.lst (cs.map V.int))::pt ML (.lst (L.map bN))::(G.map (pT R)++(G.map pf++(L.map bK++O)))) H) ?_ ?_ ?_ ?_
 ·exact ⟨none,none,none,none,none,[],rfl,rfl,z2⟩
 ·rintro j U H ⟨u3,u4,u5,u6,u7,G,rfl,e,zz⟩;exact aS.of (zz.get (.there (.there .here)))
 ·rintro j x U H hx ⟨u3,u4,u5,u6,u7,G,rfl,e,zz⟩;rw[getElem?_map] at hx;obtain ⟨o,eo,rfl⟩:=Option.map_eq_some_iff.mp hx;obtain ⟨oi,⟨os0,os1⟩,oR,ox⟩:=ok o (mem_of_getElem? eo);have z3:=zJ (zz.pull (.there (.there (.there (aa (aa (aK eo)))))));generalize eT:G.map (pT R)++(G.map pf++((L.eraseIdx j).map bK++O))=T at z3;clear zz z2;left;refine ⟨o.t,_,rfl,.inl (aZ.of z3.atT),rfl,?_⟩;obtain ⟨ot,oSP,od,oii,oj,oS,⟨xh,xt,xl,xw,xs,xm⟩⟩:=o;dsimp only at*;walk_at "wd";intro b dx2 g1 g2 g3;refine zZ ro nofun ox (gk z3 g1 g2 g3) (λH4 z4=>⟨rfl,?_⟩);generalize (⟨xh,xt,xl,xw,xs,xm⟩:Bx)=x at*;have z5:Sep (aM R b x::tu ot [.int oii,.int oj,.ref oSP,.ref od]::pt oSP (.lst (oS.map d5))::ao od x::pt SM (.lst (G.map jW))::pt C (.lst (cs.map V.int))::pt ML (.lst (L.map bN))::(oS.reverse.map iy++T)) H4:=Sep.mv (P:=[_,_,_,_]) (Δ:=oS.reverse.map iy) (L:=[_,_,_]) (O:=T) z4;clear z3 z4;have hs:=qj (S:=oS) (O:=T) rfl oR;right;refine ⟨SM,_,rfl,z5.get (by symm),?_⟩;right;refine lx (xs:=oS.map d5) (by rw[length_map];omega) (λD ys H=>∃ Lr:List (Addr×Rw),ys=Lr.map d5/\Lr.map (·.2)=(oS.map (·.2)).take ys.length/\Sep (pt D (.lst ys)::aM R b x::tu ot [.int oii,.int oj,.ref oSP,.ref od]::pt oSP (.lst (oS.map d5))::ao od x::pt SM (.lst (G.map jW))::pt C (.lst (cs.map V.int))::pt ML (.lst (L.map bN))::(Lr.reverse.map (rX R)++(oS.reverse.map iy++T))) H) (λD ys H hI=>?_) (λD hD=>⟨[],rfl,rfl,z5.new (o:=.lst []) hD⟩) (λD ys y H hy hI=>?_) (λDL ys H hl2 hI=>?_)
  ·obtain ⟨Lr,_,_,hs⟩:=hI;exact aS.of (by grind)
  ·obtain ⟨Lr,e1,e2,z6⟩:=hI;have hyl:=(List.getElem?_eq_some_iff.mp hy).1;have er:(oS.map (·.2))[ys.length]? =some ((oS.map (·.2))[ys.length]'(by have:=hs.1;omega)):=getElem?_eq_getElem _;generalize (oS.map (·.2))[ys.length]'(by have:=hs.1;omega)=r at er;obtain ⟨t,Δ,e3,pp⟩:=hs.2.2 _ _ er;rw[hy] at e3;cases e3;right;refine yH r ro nofun (hs.2.1 _ (mem_of_getElem? er)) (Sep.HS (z6.fK (.there (.there (.there (.there (.there (.there (.there (.there (aa pp))))))))))  z6) (λde H7 z7=>?_);have z8:=(z7.pull (A:=pt D (.lst ys)) (by symm)).set (o':=.lst (ys++[.ref de])) rfl;refine pj.mk (z7.get (by symm)) (by rw[length_map] at hyl;omega) ⟨Lr++[(de,r)],by rw[e1];simp[d5],?_,?_⟩
   ·rw[map_append,e2,length_append,length_singleton,take_succ,er]
    rfl
   ·rw[List.reverse_append,map_append,append_assoc];show Sep (pt D _::aM R b x::tu ot [.int oii,.int oj,.ref oSP,.ref od]::pt oSP (.lst (oS.map d5))::ao od x::pt SM (.lst (G.map jW))::pt C (.lst (cs.map V.int))::pt ML (.lst (L.map bN))::nc R de r::(Lr.reverse.map (rX R)++(oS.reverse.map iy++T))) _;exact z8.sub (by ac_nf)
  obtain ⟨Lr,rfl,e2,z6⟩:=hI;have e3:Lr.map (·.2)=oS.map (·.2):=by
   rw[e2,hl2,hs.1];exact take_of_length_le (Nat.le_refl _)
  clear z5;right;rename_i t2 H8 z7;have hlG:G.length<=4:=by
   have:=congrArg List.length e;rw[length_map,length_map,length_take] at this
   omega
  refine ⟨_,z7.get (by symm),rD z7 (by ac_rfl) (by rw[length_map];omega) (λH9 z8=>?_)⟩;right;refine ⟨_,_,_,_,_,G++[⟨t2,oii,oj,DL,b,oS.map (·.2),x⟩],rfl,?_,?_⟩
  ·rw[cA eo,map_append,map_append,e]
   rfl
  have z9:Sep (pt DL (.lst (Lr.map d5))::aM R b x::tu t2 [.int oii,.int oj,.ref DL,.ref b]::tu ot [.int oii,.int oj,.ref oSP,.ref od]::pt oSP (.lst (oS.map d5))::ao od x::pt SM (.lst (G.map jW++[.ref t2]))::pt C (.lst (cs.map V.int))::pt ML (.lst (L.map bN))::(Lr.reverse.map (rX R)++(oS.reverse.map iy++T))) H9:=z8.toT.sub (by ac_nf);have z10:Sep (pT R ⟨t2,oii,oj,DL,b,oS.map (·.2),x⟩::tu t2 [.int oii,.int oj,.ref DL,.ref b]::tu ot [.int oii,.int oj,.ref oSP,.ref od]::pt oSP (.lst (oS.map d5))::ao od x::pt SM (.lst (G.map jW++[.ref t2]))::pt C (.lst (cs.map V.int))::pt ML (.lst (L.map bN))::(oS.reverse.map iy++T)) H9:=Kr (L:=Lr) e3 (Sep.mv (P:=[_,_]) (Δ:=[_,_,_,_,_,_,_]) (L:=Lr.reverse.map (rX R)) z9);have z11:Sep (tu ot [.int oii,.int oj,.ref oSP,.ref od]::pt oSP (.lst (oS.map d5))::ao od x::pT R ⟨t2,oii,oj,DL,b,oS.map (·.2),x⟩::tu t2 [.int oii,.int oj,.ref DL,.ref b]::pt SM (.lst (G.map jW++[.ref t2]))::pt C (.lst (cs.map V.int))::pt ML (.lst (L.map bN))::(oS.reverse.map iy++T)) H9:=z10.sub (by ac_nf);have z12:Sep (bK ⟨ot,oSP,od,oii,oj,oS,x⟩::pT R ⟨t2,oii,oj,DL,b,oS.map (·.2),x⟩::pf ⟨t2,oii,oj,DL,b,oS.map (·.2),x⟩::pt SM (.lst (G.map jW++[.ref t2]))::pt C (.lst (cs.map V.int))::pt ML (.lst (L.map bN))::T) H9:=C3 (Sep.mv (P:=[_,_,_]) (Δ:=[_,_,_,_,_]) (L:=oS.reverse.map iy) z11);subst eT;have z13:=Sep.push (.there (.there (.there (.there (.there (aa (aa (aK eo)))))))) z12;have z14:=Sep.push (.there (.there (.there (.there cB)))) z13;have z15:=Sep.push (.there (.there (.there (aa cB)))) z14;rw[map_append (f:=jW)];exact z15
 ·rintro U H ⟨u3,u4,u5,u6,u7,G,rfl,e,zz⟩;rw[length_map,take_length] at e;have hlG:G.length=L.length:=by
   have:=congrArg List.length e
   rwa [length_map,length_map] at this
  clear z2;right;rename_i C2 H2 z3;intro c dx g1 g2 g3;have z4:Sep (pt C2 (.lst (cs.map V.int))::pt SM (.lst (G.map jW))::(G.map (pT R)++(G.map pf++(pt C (.lst (cs.map V.int))::pt ML (.lst (L.map bN))::(L.map bK++O))))) H2:=by
   have:=Sep.mv (P:=[_,_]) (Δ:=[_,_]) (L:=G.map (pT R)++G.map pf) (O:=L.map bK++O) (H:=H2) (by rw[append_assoc];exact z3);rw[append_assoc] at this;exact this
  refine rF ro nofun nofun nofun (λq hq=>?_) (λn m a b hn h1 h2=>?_) c0 c60 hc (gk z4 g1 g2 g3) (λM H5 eM z5=>⟨rfl,?_⟩)
  ·obtain ⟨n,hn⟩:=getElem?_of_mem hq;obtain ⟨o,eo,e2⟩:=zx e hn;obtain ⟨oi,os,oR,ox⟩:=ok o (mem_of_getElem? eo);have a1:q.i=o.i:=congrArg (·.1.1) e2;have a2:q.j=o.j:=congrArg (·.1.2) e2;have a3:q.rs=o.S.map (·.2):=congrArg (·.2.1) e2;unfold K3;rw[a1,a2,a3,length_map];exact ⟨oi,os⟩
  ·obtain ⟨o1,eo1,e1⟩:=zx e h1;obtain ⟨o2,eo2,e2⟩:=zx e h2;have a1:a.i=o1.i:=congrArg (·.1.1) e1;have a2:a.j=o1.j:=congrArg (·.1.2) e1;have a3:b.i=o2.i:=congrArg (·.1.1) e2;have a4:b.j=o2.j:=congrArg (·.1.2) e2;have hp:=List.pairwise_iff_getElem.mp (List.pairwise_map.mp hd) n m (List.getElem?_eq_some_iff.mp eo1).1 (List.getElem?_eq_some_iff.mp eo2).1 hn;rw[(List.getElem?_eq_some_iff.mp eo1).2,(List.getElem?_eq_some_iff.mp eo2).2] at hp;have hp:min o1.j o2.j<=max o1.i o2.i:=hp;unfold JW;rw[a1,a2,a3,a4];exact hp
  ·right;refine h c M H5 ?_ ?_
   ·rw[eM];have:∀ G:List Mh,G.map (uz cs)=(G.map G8).map (DM cs):=λG=>by rw[List.map_map];rfl
    rw[this,e,List.map_map]
    rfl
   ·have e5:G.map Bu=L.map dA:=by
     have h1:G.map Bu=(G.map G8).map (·.1):=by rw[List.map_map];rfl
     rw[h1,e,List.map_map]
     rfl
    rw[e5] at z5;exact z5
structure Wm where
 w:Addr
 at_:Int
 x:Bx
 cs:List Int
 ws:List Str
abbrev fJ (q:Wm):V:=.ref q.w
abbrev AD (q:Wm):Int×Bx×List Int×List Str:=(q.at_,q.x,q.cs,q.ws)
abbrev xk (q:Mm):Int×Bx×List Int×List Str:=(q.at_,q.x,q.cs,q.ws)
abbrev gj (q:Wm):ay:=bx λe:Addr×Addr×Addr=>rM q.w e.1 e.2.1 e.2.2 q.at_ q.x q.cs q.ws []
def Jj {q:Wm}(z:Sep (gj q::O) H):∃ d p lv,Sep (rM q.w d p lv q.at_ q.x q.cs q.ws O) H:=by
 obtain ⟨⟨d,p,lv⟩,z1⟩:=iT z;exact ⟨d,p,lv,z1⟩
def Et {q:Wm}{p:Addr}(z:Sep (rM q.w d p lv q.at_ q.x q.cs q.ws O) H):Sep (gj q::O) H:=hJ (d,p,lv) z
def vS {ML:Addr}{cs:List Int}(hk:1<=k)(n1:L.length<=4)(ok:∀ q ∈ L,HG cs.length q) (c60:cs.length<=60) (z:Sep (pt C (.lst (cs.map V.int))::pt ML (.lst (L.map bN))::(L.map bK++O)) H)
  (h:∀ WL (W:List Wm) H',W.map AD=L.map (λq=>xk (DM cs (yJ q)))->Sep (pt WL (.lst (W.map fJ))::pt C (.lst (cs.map V.int))::pt ML (.lst (L.map bN))::(W.map gj++(L.map bK++O))) H'->Q (.ref WL) H'):ab tab R k lR [.ref C,.ref ML] H Q E:=by
 refine wc (d:=fO) nofun rfl rfl ?_;right;rename_i WL H1 z1;have z2:Sep (pt WL (.lst [])::pt C (.lst (cs.map V.int))::pt ML (.lst (L.map bN))::(L.map bK++O)) H1:=z1;clear z z1;refine cy (xs:=L.map bN) (λj U H=>∃ u3 u4 u5 u6,∃ W:List Wm,U=[some (.ref C),some (.ref ML),some (.ref WL),u3,u4,u5,u6]/\W.map AD=(L.take j).map (λq=>xk (DM cs (yJ q)))/\Sep (pt WL (.lst (W.map fJ))::pt C (.lst (cs.map V.int))::pt ML (.lst (L.map bN))::(W.map gj++(L.map bK++O))) H) ?_ ?_ ?_ ?_
 ·exact ⟨none,none,none,none,[],rfl,rfl,z2⟩
 ·rintro j U H ⟨u3,u4,u5,u6,W,rfl,e,zz⟩;exact aS.of (zz.get (.there (.there .here)))
 ·rintro j x U H hx ⟨u3,u4,u5,u6,W,rfl,e,zz⟩;rw[getElem?_map] at hx;obtain ⟨o,eo,rfl⟩:=Option.map_eq_some_iff.mp hx;obtain ⟨⟨oi0,oi1,oi2⟩,⟨os0,os1⟩,oR,ox⟩:=ok o (mem_of_getElem? eo);have hlW:W.length<=4:=by
   have:=congrArg List.length e;rw[length_map,length_map,length_take] at this
   omega
  have z3:=zJ (zz.pull (.there (.there (.there (aa (aK eo))))));generalize eT:W.map gj++((L.eraseIdx j).map bK++O)=T at z3;clear zz z2;have z4:Sep (tu o.t [.int o.i,.int o.j,.ref o.SP,.ref o.d]::pt o.SP (.lst (o.S.map d5))::ao o.d o.x::pt WL (.lst (W.map fJ))::pt C (.lst (cs.map V.int))::pt ML (.lst (L.map bN))::(o.S.reverse.map iy++T)) H:=Sep.mv (P:=[_,_,_]) (Δ:=o.S.reverse.map iy) (L:=[_,_,_]) (O:=T) z3;clear z3;left;refine ⟨o.t,_,rfl,.inl (aZ.of z4.atT),rfl,?_⟩;right;refine ⟨WL,_,rfl,z4.get (by symm),?_⟩;right;refine vi (kvs:=wb.zip (o.x.ls.map V.int)) z4 (z4.get (.there (.there .here))) (λd2 H2 z5=>?_);have z6:Sep (ao d2 o.x::tu o.t [.int o.i,.int o.j,.ref o.SP,.ref o.d]::pt o.SP (.lst (o.S.map d5))::ao o.d o.x::pt WL (.lst (W.map fJ))::pt C (.lst (cs.map V.int))::pt ML (.lst (L.map bN))::(o.S.reverse.map iy++T)) H2:=z5;clear z4 z5;right;rename_i p H3 z7 b1 H4 z8 lv H5 z9 w H6 z10;have ec:=y0 (xs:=cs.map V.int) (n:=o.i.toNat) (m:=o.j.toNat) (by rw[length_map];omega) (by rw[length_map];omega);rw[Int.toNat_of_nonneg oi0,Int.toNat_of_nonneg (by omega:0<=o.j),<-map_drop,<-map_take] at ec;have en:(List.replicate (o.j-o.i).toNat [V.str "open"]).flatten=(List.replicate (o.j.toNat-o.i.toNat) ("open":Str)).map V.str:=by
   have:=vf (x:=V.str "open") (n:=o.j.toNat-o.i.toNat);rw[Int.toNat_natCast] at this;rw[show (o.j-o.i).toNat=o.j.toNat-o.i.toNat by omega,map_replicate];exact this
  rw[ec,en] at z10;refine ⟨_,z10.get (by symm),rD z10 (by ac_rfl) (by rw[length_map];omega) (λH7 z11=>?_)⟩;right;refine ⟨_,_,_,_,W++[⟨w,0,o.x,(cs.drop o.i.toNat).take (o.j.toNat-o.i.toNat),List.replicate (o.j.toNat-o.i.toNat) "open"⟩],rfl,?_,?_⟩
  ·rw[cA eo,map_append,map_append,e]
   rfl
  have z12:Sep (tu o.t [.int o.i,.int o.j,.ref o.SP,.ref o.d]::pt o.SP (.lst (o.S.map d5))::ao o.d o.x::pt w (.lst [.int 0,.ref d2,.ref p,.ref lv])::ao d2 o.x::pt p (.lst (((cs.drop o.i.toNat).take (o.j.toNat-o.i.toNat)).map V.int))::pt lv (.lst ((List.replicate (o.j.toNat-o.i.toNat) ("open":Str)).map V.str))::pt WL (.lst (W.map fJ++[.ref w]))::pt C (.lst (cs.map V.int))::pt ML (.lst (L.map bN))::(o.S.reverse.map iy++T)) H7:=z11.sub (by ac_nf);have z13:Sep (bK o::pt w (.lst [.int 0,.ref d2,.ref p,.ref lv])::ao d2 o.x::pt p (.lst (((cs.drop o.i.toNat).take (o.j.toNat-o.i.toNat)).map V.int))::pt lv (.lst ((List.replicate (o.j.toNat-o.i.toNat) ("open":Str)).map V.str))::pt WL (.lst (W.map fJ++[.ref w]))::pt C (.lst (cs.map V.int))::pt ML (.lst (L.map bN))::T) H7:=C3 (Sep.mv (P:=[_,_,_]) (Δ:=[_,_,_,_,_,_,_]) (L:=o.S.reverse.map iy) z12);subst eT;have z14:=Sep.push (.there (.there (.there (.there (.there (.there (.there (aa (aK eo))))))))) z13;have z15:=Et (q:=⟨w,0,o.x,(cs.drop o.i.toNat).take (o.j.toNat-o.i.toNat),List.replicate (o.j.toNat-o.i.toNat) "open"⟩) z14;have z16:=Sep.push (.there (.there (.there cB))) z15;rw[map_append (f:=fJ)];exact z16
 ·rintro U H ⟨u3,u4,u5,u6,W,rfl,e,zz⟩;right;rw[length_map,take_length] at e;exact h WL W H e zz
section
variable {t t1 l1 w d p lv:Addr}{at_:Int}{x:Bx}{cs:List Int}{ws:List Str}
def tV (hk:2<=k)(z:Sep (pt t (.tup [.int at_,.ref t1,.ref l1])::pt l1 (.lst (cs.map V.int))::tu t1 (x.ls.map V.int)::rM w d p lv at_ x cs ws O) H)
  (q:∀ H',Sep (pt t (.tup [.int at_,.ref t1,.ref l1])::pt l1 (.lst (cs.map V.int))::tu t1 (x.ls.map V.int)::rM w d p lv at_ x cs ws O) H'->Q (.bl true) H'):ab tab R k eJ [.ref t,.ref w] H Q E:=by
 refine wc (d:=b9) nofun rfl rfl ?_;left;refine cn (t:="tuple") (ES z.at) rfl ?_;right;refine cn (t:="list") (vY (by grind)) rfl ?_;right;refine yn z (z.get (.there (.there (.there (.there .here))))) (λp2 H5 g z5=>?_);rw[Ab] at z5;have z5:Sep (pt p2 (.tup (x.ls.map V.int))::pt t (.tup [.int at_,.ref t1,.ref l1])::pt l1 (.lst (cs.map V.int))::tu t1 (x.ls.map V.int)::rM w d p lv at_ x cs ws O) H5:=z5;clear z;right;rename_i t6 H6 z6;refine zI (HN (by grind) z6.at (Eh (ns:=x.ls) (by grind) (by grind)) (uw (cs:=cs) (by grind) (by grind))) (by decide) (λe=>Sep.ne (z6.sub (Γ':=[pt t6 (.tup [.int at_,.ref p2,.ref p]),pt t (.tup [.int at_,.ref t1,.ref l1])]) (by ac_nf)) e.symm) ?_;right;refine qT (t:="int") nofun rfl ?_;exact q H6 z6.drop.drop
end
def BH {A B:List Int}{a:Nat}{v:Int}(hA:a+n<A.length)(hB:B[n]? =some v):(A.take a++B.take n++A.drop (a+n)).set (a+n) v=A.take a++B.take (n+1)++A.drop (a+(n+1)):=by
 have hn:=(List.getElem?_eq_some_iff.mp hB).1;have hl:(A.take a++B.take n).length=a+n:=by rw[length_append,length_take,length_take];omega
 rw[List.set_append_right _ _ nofun,hl,Nat.sub_self,List.drop_eq_getElem_cons hA,List.set_cons_zero,take_succ,hB];simp[append_assoc,Nat.add_assoc]
structure uL (cs:List Int) (L:List Mb) (M:List Mm) (W:List Wm):Prop where
 ws:W.map AD=M.map xk
 rs:M.map (·.rs)=L.map (λq=>q.S.map (·.2))
 ok:∀ q ∈ M,xb q
 fit:Fn cs.length (L.map dA) M
def uL.at {cs:List Int}{L:List Mb}{M:List Mm}{W:List Wm}(h:uL cs L M W){i:Nat}(hi:i<L.length):∃ o q u,L[i]? =some o/\M[i]? =some q/\W[i]? =some u/\AD u=xk q/\q.rs=o.S.map (·.2)/\xb q/\0<=o.i/\o.j<=cs.length/\o.i+q.cs.length=o.j:=by
 have l1:L.length=M.length:=by have:=h.fit.1;rwa [length_map] at this
 have l2:W.length=M.length:=by
  have:=congrArg List.length h.ws
  rwa [length_map,length_map] at this
 have e1:L[i]? =some L[i]:=getElem?_eq_getElem hi;have e2:M[i]? =some (M[i]'nofun):=getElem?_eq_getElem _;have e3:W[i]? =some (W[i]'nofun):=getElem?_eq_getElem _;refine ⟨_,_,_,e1,e2,e3,?_,?_,h.ok _ (mem_of_getElem? e2),h.fit.2 i _ _ (by rw[getElem?_map,e1];rfl) e2⟩
 ·have h2:(W.map AD)[i]? =(M.map xk)[i]? :=by rw[h.ws]
  rw[getElem?_map,getElem?_map,e2,e3] at h2;exact Option.some.inj h2
 ·have h2:(M.map (·.rs))[i]? =(L.map (λq=>q.S.map (·.2)))[i]? :=by rw[h.rs]
  rw[getElem?_map,getElem?_map,e2,e1] at h2;exact Option.some.inj h2
section
variable {c C ML WL:Addr}{cs:List Int}{ws0:List Str}{L:List Mb}{M:List Mm}{W:List Wm}
def Iy {i:Nat}(h:M[i]? =some q):(M.map cO)[i]? =some (.ref q.m):=by rw[getElem?_map,h];rfl
def uy {i:Nat}{q:Wm}(h:W[i]? =some q):(W.map fJ)[i]? =some (.ref q.w):=by rw[getElem?_map,h];rfl
def LQ {i:Nat}(h:xs[i]? =some v):lL xs (0+(i:Int))=some v:=aI nofun (by rw[show (0+(i:Int)).toNat=i by omega];exact h)
def nu (ro:Ro K R)(hk:6<=k)(hK:uL cs L M W)(n1:L.length<=4)(c60:cs.length<=60)(z:Sep (pt C (.lst (cs.map V.int))::pt ML (.lst (L.map bN))::pt WL (.lst (W.map fJ))::cq R c cs ws0 (L.map dA) (M.map cO)::(M.map (bM R)++(W.map gj++(L.map bK++O)))) H)
  (h:∀ H',Sep (pt C (.lst (cs.map V.int))::pt ML (.lst (L.map bN))::pt WL (.lst (W.map fJ))::cq R c cs ws0 (L.map dA) (M.map cO)::(M.map (bM R)++(W.map gj++(L.map bK++O)))) H'->Q (.bl true) H'):ab tab R k fP [.ref c,.ref C,.ref ML,.ref WL] H Q E:=by
 refine wc (d:=fS) nofun rfl rfl ?_;right;rename_i FL H1 z1;rw[length_map];clear z;refine ig (λj U H=>∃ u5 u6,U=[some (.ref c),some (.ref C),some (.ref ML),some (.ref WL),some (.ref FL),u5,u6,none]/\Sep (pt FL (.lst ((kc cs (L.map dA) M j).map V.int))::pt C (.lst (cs.map V.int))::pt ML (.lst (L.map bN))::pt WL (.lst (W.map fJ))::cq R c cs ws0 (L.map dA) (M.map cO)::(M.map (bM R)++(W.map gj++(L.map bK++O)))) H) ⟨none,none,rfl,z1⟩ ?_ ?_
 ·rintro j U H hj ⟨u5,u6,rfl,zz⟩;obtain ⟨o,q,u,eo,eq,eu,ews,ers,okq,f0,f1,f2⟩:=hK.at (i:=j) nofun;right;refine ae cg zz (by symm) rfl rfl ?_;left;have z2:=(zz.pull (A:=cq R c cs ws0 (L.map dA) (M.map cO)) (by symm)).pull (.there (.there (.there (.there (.there (aK eq))))));rw[Int.zero_add];refine Ao ro nofun (Iy eq) z2 (λt t1 l1 H3 z3=>?_);clear zz z2;have z4:=Sep.push (.there (.there (.there (.there (.there (.there (.there (.there (aK eq))))))))) (z3.pull (.there (.there (.there .here))));have z5:=Jj (z4.pull (.there (.there (.there (.there (.there (.there (.there (.there (aa (aK eu))))))))) ));obtain ⟨d,p,lv,z5⟩:=z5;clear z3 z4;have e1:u.at_=q.at_:=congrArg (·.1) ews;have e2:u.x=q.x:=congrArg (·.2.1) ews;have e3:u.cs=q.cs:=congrArg (·.2.2.1) ews;generalize eT:M.map (bM R)++((W.eraseIdx j).map gj++(L.map bK++O))=T at z5;have z6:Sep (pt t (.tup [.int q.at_,.ref t1,.ref l1])::pt l1 (.lst (q.cs.map V.int))::tu t1 (q.x.ls.map V.int)::rM u.w d p lv q.at_ q.x q.cs u.ws (cq R c cs ws0 (L.map dA) (M.map cO)::pt FL (.lst ((kc cs (L.map dA) M j).map V.int))::pt C (.lst (cs.map V.int))::pt ML (.lst (L.map bN))::pt WL (.lst (W.map fJ))::T)) H3:=by
   rw[e1,e2,e3] at z5;exact z5.sub (by ac_nf)
  clear z5;right;refine aL (z6.get (by symm)) (aI nofun (by rw[Int.toNat_natCast];exact uy eu)) ?_;right;refine tV nofun z6 (λH4 z7=>?_);have ht:H4 o.t=some (.tup [.int o.i,.int o.j,.ref o.SP,.ref o.d]):=by
   rw[<-eT] at z7;exact (zJ (z7.pull (.there (.there (.there (.there (.there (.there (.there (.there (.there (.there (.there (.there (aa (aa (aK eo))))))))))))))))).atT
  have z8:=Sep.HS ht z7.drop.drop.drop;clear z6 z7;refine ar rfl ?_;right;refine aL (z8.get (by symm)) (aI nofun (by rw[Int.toNat_natCast];exact uy eu)) ?_;right;have fl:=j5 hK.fit j;have e4:kc cs (L.map dA) M (j+1)=(kc cs (L.map dA) M j).take o.i.toNat++q.cs++(kc cs (L.map dA) M j).drop o.j.toNat:=by
   show (match (L.map dA)[j]?,M[j]? with
    |some p,some q=>(kc cs (L.map dA) M j).take p.1.toNat++q.cs++(kc cs (L.map dA) M j).drop p.2.toNat
    |_,_=>kc cs (L.map dA) M j)=_
   rw[getElem?_map,eo,eq]
   rfl
  generalize kc cs (L.map dA) M j=F at fl e4 z8;rw[Int.toNat_natCast,length_map];refine ig (λi U H=>∃ u6,U=[some (.ref c),some (.ref C),some (.ref ML),some (.ref WL),some (.ref FL),some (.int (j:Int)),u6,none]/\Sep (tu o.t [.int o.i,.int o.j,.ref o.SP,.ref o.d]::rM u.w d p lv q.at_ q.x q.cs u.ws (cq R c cs ws0 (L.map dA) (M.map cO)::pt FL (.lst ((F.take o.i.toNat++q.cs.take i++F.drop (o.i.toNat+i)).map V.int))::pt C (.lst (cs.map V.int))::pt ML (.lst (L.map bN))::pt WL (.lst (W.map fJ))::T)) H) ⟨_,rfl,?_⟩ ?_ ?_
  ·rw[List.take_zero,append_nil,Nat.add_zero,take_append_drop];exact z8
  ·rintro i U H hi ⟨u6,rfl,zz⟩;have ei:q.cs[i]? =some q.cs[i]:=getElem?_eq_getElem hi;generalize q.cs[i]=v at ei;have lF:(F.take o.i.toNat++q.cs.take i++F.drop (o.i.toNat+i)).length=cs.length:=by
    rw[length_append,length_append,length_take,length_take,length_drop]
    omega
   right;refine aL (zz.get (by symm)) (aI nofun (by rw[Int.toNat_natCast];exact uy eu)) ?_;right;refine aL (zz.get (by symm)) (LQ (by rw[getElem?_map,ei];rfl)) ?_;right;refine aL (zz.get (by symm)) (aI nofun (by rw[Int.toNat_natCast];exact Dq eo)) ?_;right;refine fW (j:=o.i.toNat+i) (ys:=(F.take o.i.toNat++q.cs.take (i+1)++F.drop (o.i.toNat+(i+1))).map V.int) zz (by ac_rfl) (by rw[dJ nofun (by rw[length_map,lF];omega)];congr 1;omega) (by rw[<-BH nofun ei,List.map_set]) (λH5 z9=>?_);right;exact ⟨_,rfl,z9⟩
  ·rintro U H ⟨u6,rfl,zz⟩;right;refine ⟨_,_,rfl,?_⟩;rw[e4,show o.j.toNat=o.i.toNat+q.cs.length by omega];rw[take_of_length_le (Nat.le_refl q.cs.length)] at zz;have z9:Sep (rM u.w d p lv u.at_ u.x u.cs u.ws (pt FL (.lst ((F.take o.i.toNat++q.cs++F.drop (o.i.toNat+q.cs.length)).map V.int))::pt C (.lst (cs.map V.int))::pt ML (.lst (L.map bN))::pt WL (.lst (W.map fJ))::cq R c cs ws0 (L.map dA) (M.map cO)::T)) H:=by
    rw[e1,e2,e3];exact zz.drop.sub (by ac_nf)
   have z10:=Et (q:=u) z9;subst eT;exact Sep.push (.there (.there (.there (.there (.there (aa (aK eu))))))) z10
 ·rintro U H ⟨u5,u6,rfl,zz⟩;right;rw[Int.toNat_natCast] at zz;have lM:M.length=L.length:=by have:=hK.fit.1;rw[length_map] at this;omega
  refine ae cg zz (by symm) rfl rfl ?_;left;have z2:Sep (cq R c cs ws0 (L.map dA) (M.map cO)::pt FL (.lst ((kc cs (L.map dA) M L.length).map V.int))::pt C (.lst (cs.map V.int))::pt ML (.lst (L.map bN))::pt WL (.lst (W.map fJ))::(M.map (bM R)++(W.map gj++(L.map bK++O)))) H:=zz.sub (by ac_nf);have z3:=Sep.mv (P:=[_]) (Δ:=[_,_,_,_]) (L:=M.map (bM R)) z2;refine yQ ro nofun c60 nofun hK.fit z3 (λA H3 z4=>?_);rw[lM] at z4;clear zz z2 z3;have fl:=j5 hK.fit L.length;generalize kc cs (L.map dA) M L.length=F at fl z4;have z5:Sep (pt A (.lst (F.map V.int))::cq R c cs ws0 (L.map dA) (M.map cO)::pt FL (.lst (F.map V.int))::pt C (.lst (cs.map V.int))::pt ML (.lst (L.map bN))::pt WL (.lst (W.map fJ))::(M.map (bM R)++(W.map gj++(L.map bK++O)))) H3:=Sep.mv (P:=[_,_]) (Δ:=M.map (bM R)) (L:=[_,_,_,_]) z4;clear z4;left;refine cn (t:="list") (vY z5.at) rfl ?_;right;refine zI (uw (cs:=F) z5.at (z5.get (.there (.there .here)))) (by decide) (Sep.ne (z5.sub (Γ':=[pt A (.lst (F.map V.int)),pt FL (.lst (F.map V.int))]) (by ac_nf))) ?_;refine aN rfl ?_;right;refine lx (xs:=F.map V.int) (by rw[length_map];omega) (λD ys H=>ys=(List.replicate ys.length true).map V.bl/\Sep (pt D (.lst ys)::pt A (.lst (F.map V.int))::cq R c cs ws0 (L.map dA) (M.map cO)::pt FL (.lst (F.map V.int))::pt C (.lst (cs.map V.int))::pt ML (.lst (L.map bN))::pt WL (.lst (W.map fJ))::(M.map (bM R)++(W.map gj++(L.map bK++O)))) H) (λD ys H hI=>aS.of (hI.2.get (.there .here))) (λD hD=>⟨rfl,z5.new (o:=.lst []) hD⟩) (λD ys y H hy hI=>?_) (λD ys H hl hI=>?_)
  ·obtain ⟨e,hs⟩:=hI;have hyl:=(List.getElem?_eq_some_iff.mp hy).1;rw[length_map] at hyl;rw[getElem?_map] at hy;obtain ⟨i,hi,rfl⟩:=Option.map_eq_some_iff.mp hy;right;refine qT (t:="int") nofun rfl ?_;refine pj.mk hs.at nofun ⟨?_,hs.set rfl⟩;rw[length_append,length_singleton,List.replicate_succ']
   conv=>lhs;rw[e]
   simp[pB]
  obtain ⟨e,hs⟩:=hI;left;refine zL (K:=R.K) (bs:=List.replicate ys.length true) rfl (e▸hs.at) ?_;rw[show (List.replicate ys.length true).all id=true by simp];exact h _ (hs.sub (by ac_nf))
end
variable {W:List Wm}
section
variable {q:Mm}{o:Mb}{u:Wm}
def hE {β:Type}{f:α->β}{l:List α}{i:Nat}{x y:α}(h:l[i]? =some x)(e:f y=f x):(l.set i y).map f=l.map f:=by
 rw[List.map_set,e];exact set_same (by rw[getElem?_map,h];rfl)
def uL.set {cs:List Int}{i:Nat}{q':Mm}{u':Wm}(h:uL cs L M W)(eq:M[i]? =some q)(eu:W[i]? =some u)(e1:AD u'=xk q')(e2:q'.rs=q.rs)(e3:xb q')(e4:q'.cs.length=q.cs.length):uL cs L (M.set i q') (W.set i u') where
 ws:=by rw[List.map_set,List.map_set,h.ws,e1]
 rs:=by rw[hE (f:=λq:Mm=>q.rs) eq e2];exact h.rs
 ok:=λa ha=>by
  rcases mem_or_eq_of_mem_set ha with ha|rfl
  ·exact h.ok a ha
  ·exact e3
 fit:=⟨by rw[length_set];exact h.fit.1,λj p a e5 e6=>by
  by_cases hj:i=j
  ·subst hj;rw[getElem?_set_self (List.getElem?_eq_some_iff.mp eq).1] at e6;cases e6;rw[e4];exact h.fit.2 i p q e5 eq
  ·rw[getElem?_set_ne hj] at e6;exact h.fit.2 j p a e5 e6⟩
end
abbrev A1:lQ->lQ
 | .cons (.for _ _ b) _=>b
 |_=>.nil
section
variable {o:Mb}{u:Wm}{d p lv:Addr}{at_:Int}{x:Bx}{cs:List Int}{ws:List Str}
noncomputable abbrev KO (o:Mb)(O:List ay):List ay:=tu o.t [.int o.i,.int o.j,.ref o.SP,.ref o.d]::ao o.d o.x::(o.S.reverse.map iy++O)
def Hw (z:Sep (gj u::bK o::O) H):∃ d p lv,Sep (rM u.w d p lv u.at_ u.x u.cs u.ws (pt o.SP (.lst (o.S.map d5))::KO o O)) H:=by
 obtain ⟨d,p,lv,z1⟩:=Jj z;have z2:=zJ (z1.pull (.there (.there (.there (.there .here)))));have z3:Sep (tu o.t [.int o.i,.int o.j,.ref o.SP,.ref o.d]::pt o.SP (.lst (o.S.map d5))::ao o.d o.x::rM u.w d p lv u.at_ u.x u.cs u.ws (o.S.reverse.map iy++O)) H:=Sep.mv (P:=[_,_,_]) (Δ:=o.S.reverse.map iy) (L:=[_,_,_,_]) (O:=O) z2;exact ⟨d,p,lv,z3.sub (by ac_nf)⟩
def Hc {w:Addr}(z:Sep (rM w d p lv at_ x cs ws (pt o.SP (.lst (o.S.map d5))::KO o O)) H):Sep (gj ⟨w,at_,x,cs,ws⟩::bK o::O) H:=by
 have z6:Sep (tu o.t [.int o.i,.int o.j,.ref o.SP,.ref o.d]::pt o.SP (.lst (o.S.map d5))::ao o.d o.x::rM w d p lv at_ x cs ws (o.S.reverse.map iy++O)) H:=z.sub (by ac_nf);have z7:Sep (bK o::rM w d p lv at_ x cs ws O) H:=C3 (Sep.mv (P:=[_,_,_]) (Δ:=[_,_,_,_]) (L:=o.S.reverse.map iy) z6);have z8:Sep (rM w d p lv at_ x cs ws (bK o::O)) H:=z7.sub (by ac_nf);exact Et (q:=⟨w,at_,x,cs,ws⟩) z8
def yt (oR:∀ r ∈ o.S.map (·.2),Rw.ok r):hV (KO o O) (o.S.map d5) (o.S.map (·.2)):=((qj (S:=o.S) (O:=O) rfl oR).more (A:=ao o.d o.x)).more (A:=tu o.t [.int o.i,.int o.j,.ref o.SP,.ref o.d])
abbrev JJ (rs:List Rw)(u:Wm):Wm:=⟨u.w,(mS rs u.at_ u.x u.cs u.ws).at_,(mS rs u.at_ u.x u.cs u.ws).x,(mS rs u.at_ u.x u.cs u.ws).cs,u.ws⟩
def Ac (hk:4<=k)(h0:0<=u.at_)(h1:u.at_<=(o.S.map (·.2)).length)(hx:0<=u.x.l)(hl:u.cs.length=u.ws.length)(oR:∀ r ∈ o.S.map (·.2),Rw.ok r) (z:Sep (gj u::bK o::O) H)
  (h:∀ H',Sep (gj (JJ (o.S.map (·.2)) u)::bK o::O) H'->Q (.str (mS (o.S.map (·.2)) u.at_ u.x u.cs u.ws).w) H'):ab tab R k i4 [.ref o.SP,.ref u.w] H Q E:=by
 obtain ⟨d,p,lv,z1⟩:=Hw z;have hs:=yt (O:=O) oR;exact EK hk h0 (by rw[hs.1];exact h1) hx hl hs z1 (λH2 z5=>h H2 (Hc z5))
end
abbrev nV (i:Nat):V:=.int (i:Int)
abbrev stM (M:List Mm)(i:Nat):List Mm:=match M[i]? with
 |some q=>M.set i (AY q)
 |none=>M
abbrev G5 (M:List Mm)(i:Nat):Str:=match M[i]? with
 |some q=>(mS q.rs q.at_ q.x q.cs q.ws).w
 |none=>""
abbrev lP:List Mm->List Nat->List Mm
 |M,[]=>M
 |M,i::r=>lP (stM M i) r
abbrev yL:List Mm->List Nat->List Str
 |_,[]=>[]
 |M,i::r=>G5 M i::yL (stM M i) r
def lB {i:Nat}:∀ {a:List Nat}{M:List Mm},lP M (a++[i])=stM (lP M a) i
 | [],M=>rfl
 |j::a,M=>lB (a:=a) (M:=stM M j)
def kO {i:Nat}:∀ {a:List Nat}{M:List Mm},yL M (a++[i])=yL M a++[G5 (lP M a) i]
 | [],M=>rfl
 |j::a,M=>congrArg (G5 M j::·) (kO (a:=a) (M:=stM M j))
def xZ (h:xb q):xb (AY q):=let ⟨g0,g1,_⟩:=HX (x:=q.x) (cs:=q.cs) (ws:=q.ws) h.1 h.2.1 h.2.2;⟨g0,g1,h.2.2⟩
def yq {i:Nat}(ok:∀ q ∈ M,xb q):(stM M i).map cO=M.map cO/\∀ q ∈ stM M i,xb q:=by
 unfold stM;cases e:M[i]? with
 |none=>exact ⟨rfl,ok⟩
 |some q=>
  refine ⟨hE e rfl,λa ha=>?_⟩;rcases mem_or_eq_of_mem_set ha with ha|rfl
  ·exact ok a ha
  ·exact xZ (ok q (mem_of_getElem? e))
def tL:∀ {a:List Nat}{M:List Mm},(∀ q ∈ M,xb q)->(lP M a).map cO=M.map cO/\∀ q ∈ lP M a,xb q
 | [],M,h=>⟨rfl,h⟩
 |j::a,M,h=>let ⟨g1,g2⟩:=tL (a:=a) (yq (i:=j) h).2;⟨g1.trans (yq h).1,g2⟩
def IH {c:Addr}{cs:List Int}{P:List (Int×Int)}(ro:Ro K R)(hk:13<=k)(hl:is.length<=300)(hi:∀ i ∈ is,i<M.length) (ok:∀ q ∈ M,xb q) (z:Sep (pt Ol (.lst (is.map nV))::cq R c cs ws P (M.map cO)::(M.map (bM R)++O)) H)
  (h:∀ D H',Sep (pt D (.lst ((yL M is).map V.str))::pt Ol (.lst (is.map nV))::cq R c cs ws P (M.map cO)::((lP M is).map (bM R)++O)) H'->Q (.ref D) H'):ab tab R k nh [.ref c,.ref Ol] H Q E:=by
 refine wc (d:=iI) nofun rfl rfl ?_;right;refine cy (xs:=is.map nV) (λj U H=>∃ u2,U=[some (.ref c),some (.ref Ol),u2]/\Sep (pt Ol (.lst (is.map nV))::cq R c cs ws P (M.map cO)::(M.map (bM R)++O)) H) ⟨none,rfl,z⟩ ?_ ?_ ?_
 ·rintro j U H ⟨u2,rfl,zz⟩;exact aS.of zz.at
 ·rintro j x U H hx ⟨u2,rfl,zz⟩;rw[getElem?_map] at hx;obtain ⟨i,ei,rfl⟩:=Option.map_eq_some_iff.mp hx;right;refine ae cg zz (.there .here) rfl rfl ?_;left;refine cL nofun (by rw[length_map];exact hi i (mem_of_getElem? ei)) zz (.there .here) ?_;right;exact ⟨_,rfl,zz⟩
 ·rintro U H ⟨u2,rfl,zz⟩;right;refine lx (xs:=is.map nV) (by rw[length_map];omega) (λD ys H=>ys=(yL M (is.take ys.length)).map V.str/\Sep (pt D (.lst ys)::pt Ol (.lst (is.map nV))::cq R c cs ws P (M.map cO)::((lP M (is.take ys.length)).map (bM R)++O)) H) (λD ys H hI=>aS.of (hI.2.get (.there .here))) (λD hD=>⟨rfl,zz.new (o:=.lst []) hD⟩) (λD ys y H hy hI=>?_) (λD ys H hl2 hI=>?_)
  ·obtain ⟨e1,z2⟩:=hI;rw[getElem?_map] at hy;obtain ⟨i,ei,rfl⟩:=Option.map_eq_some_iff.mp hy;have hj:=(List.getElem?_eq_some_iff.mp ei).1;obtain ⟨g1,g2⟩:=tL (a:=is.take ys.length) ok;have hlen:(lP M (is.take ys.length)).length=M.length:=by
    have:=congrArg List.length g1
    rwa [length_map,length_map] at this
   have eq:(lP M (is.take ys.length))[i]? =some ((lP M (is.take ys.length))[i]'(by rw[hlen];exact hi i (mem_of_getElem? ei))):=getElem?_eq_getElem _;generalize (lP M (is.take ys.length))[i]'(by rw[hlen];exact hi i (mem_of_getElem? ei))=q at eq;have es:lP M (is.take (ys.length+1))=(lP M (is.take ys.length)).set i (AY q):=by
    rw[cA ei,lB];unfold stM;rw[eq]
   have ew:yL M (is.take (ys.length+1))=yL M (is.take ys.length)++[(mS q.rs q.at_ q.x q.cs q.ws).w]:=by
    rw[cA ei,kO];unfold G5;rw[eq]
   right;refine ae cg z2 (.there (.there .here)) rfl rfl ?_;left;have z3:Sep (bM R q::cq R c cs ws P (M.map cO)::pt D (.lst ys)::pt Ol (.lst (is.map nV))::(((lP M (is.take ys.length)).eraseIdx i).map (bM R)++O)) H:=(z2.pull (.there (.there (.there (aK eq))))).sub (by ac_nf);refine Bk (i:=i) ro nofun (by rw[<-g1,getElem?_map,eq];rfl) (g2 q (mem_of_getElem? eq)) z3 (λH2 z4=>?_);refine pj.mk (z4.get (by symm)) nofun ⟨?_,?_⟩
   ·rw[length_append,length_singleton,ew,map_append,<-e1]
    rfl
   ·have z5:=(z4.pull (A:=pt D (.lst ys)) (by symm)).set (o':=.lst (ys++[.str (mS q.rs q.at_ q.x q.cs q.ws).w])) rfl;rw[length_append,length_singleton,es];exact Sep.push (.there (.there (.there (k8 eq)))) (z5.sub (Γ':=bM R (AY q)::pt D _::pt Ol _::cq R c cs ws P (M.map cO)::_) (by ac_nf))
  ·obtain ⟨e1,z2⟩:=hI;rw[length_map] at hl2;rw[hl2,take_length] at e1 z2;right;rw[e1] at z2;exact h D H z2
abbrev rS (v:V):ay:=⟨λH D=>(∃ t,tyName v H=some t/\t≠"dict")\/∃ a,v=.ref a/\D a/\H a=some (.dK []),λH H' D h k g=>by
  rcases h with ⟨t,h1,h2⟩|⟨a,h1,h2,h3⟩
  ·exact .inl ⟨t,g.ty h1,h2⟩
  ·exact .inr ⟨a,h1,h2,(k a h2).trans h3⟩,λH D D' h k=>by
  rcases h with h|⟨a,h1,h2,h3⟩
  ·exact .inl h
  ·exact .inr ⟨a,h1,k a h2,h3⟩⟩
def rJ (s:Sep (rS v::O) H):∃ t,tyName v H=some t:=by
 obtain ⟨D,k,D1,D2,s1,s2,dj,h1,h2⟩:=s;rcases h1 with ⟨t,h,_⟩|⟨a,rfl,_,h⟩
 ·exact ⟨t,h⟩
 ·exact ⟨"dict",Kt h⟩
def cx (h:tyName v H=some t)(n:t≠"dict") (s:Sep O H):Sep (rS v::O) H:=s.free λ_=>.inl ⟨t,h,n⟩
def Bs (s:Sep (pt a (.dK [])::O) H):Sep (rS (.ref a)::O) H:=Sep.imp (A:=pt a (.dK [])) (B:=rS (.ref a)) (λH D h=>.inr ⟨a,rfl,(show D a/\H a=some (.dK []) from h).1,(show D a/\H a=some (.dK []) from h).2⟩) s
def Ju (s:Sep (rS v::O) H)(q:Q (.bl true) H):dZ K false v v H Q:=by
 obtain ⟨D,k,D1,D2,s1,s2,dj,h1,h2⟩:=s;rcases h1 with ⟨t,h,n⟩|⟨a,rfl,_,h⟩
 ·have fl:aR v=true->dZ K false v v H Q:=λf=>pD f f (by rw[kj f];exact q)
  cases dC h with
  |non=>exact fl rfl
  |bl=>exact fl rfl
  |int=>exact fl rfl
  |str=>exact fl rfl
  |lst e=>exact eq_self (.inl ⟨_,aS.of e⟩) q
  |tup e=>exact eq_self (.inr (.inl ⟨_,aZ.of e⟩)) q
  |dct e=>exact absurd rfl n
 ·exact eq_self (.inr (.inr h)) q
def DR:(10:Int) ^ Int.toNat 59=100000000000000000000000000000000000000000000000000000000000:=by decide
abbrev tH (lo hi:Int)(v:V):Prop:=∀ i,v=.int i->i<lo\/hi<i
def yD {lo hi:Int}(hk:2<=k)(l0: -1000000000<=lo)(l1:hi<=1000000000)(s:Sep (hand h m::O) H)(hm:m<=1099511000000)(q:∀ v H',tH lo hi v->Sep (rS v::hand h (m+3)::O) H'->Q v H'):ab tab R k sQ [.ref h,.int lo,.int hi] H Q E:=by
 refine wc (d:=lD) nofun rfl rfl ?_;walk_at "gd";rename_i r H1 hr0 hr1 hs1;have fin:∀ {i:Int}{n:Int}{H:Hp},(i<lo\/hi<i)->n<=m+3->Sep (hand h n::O) H->Q (.int i) H:=λ{i n H} hi hn hs=>q _ _ (λj e=>by cases e;exact hi) (cx (t:="int") rfl (by decide) (aj hs hn))
 refine ax (λh0=>?_) (λh0=>?_)
 ·walk_at "gd";rename_i r2 H2 hr02 hr12 hs2 p H3 hs3;obtain ⟨v,hv,hmem⟩:=du (xs:=[V.int 0,V.int r2]) hr0 (by simpa using h0);refine aL hs3.at hv ?_;rcases (by simpa using hmem:v=.int 0\/v=.int r2) with rfl|rfl
  ·walk_at "gd";exact fin nofun nofun hs3.drop
  ·walk_at "gd";exact fin nofun nofun hs3.drop
 walk_at "gd";refine ax (λh1=>?_) (λh1=>?_)
 ·walk_at "gd";rename_i r2 H2 hr02 hr12 hs2 p H3 hs3;obtain ⟨v,hv,hmem⟩:=du (xs:=[V.int 0,V.int r2]) (i:=r-2) nofun (by simp;omega);refine aL hs3.at hv ?_;rcases (by simpa using hmem:v=.int 0\/v=.int r2) with rfl|rfl
  ·walk_at "gd";exact fin nofun nofun hs3.drop
  ·walk_at "gd";exact fin nofun nofun hs3.drop
 walk_at "gd";refine aB (λh2=>?_) (λh2=>?_)
 ·walk_at "gd";rename_i r2 H2 hr02 hr12 hs2;exact fin (by rw[DR];omega) nofun hs2
 walk_at "gd";refine aB (λh3=>?_) (λh3=>?_)
 ·walk_at "gd";rename_i r2 H2 hr02 hr12 hs2;exact fin (by rw[DR];omega) nofun hs2
 walk_at "gd";rename_i p1 H2 hs2 p2 H3 hs3 p3 H4 hs4 p H5 hs5 i H6 hi0 hi1 hs6;obtain ⟨v,hv,hmem⟩:=du (xs:=[V.non,V.bl true,V.bl false,V.str "1",V.ref p1,V.ref p2,V.ref p3,V.str "here",V.str ""]) hi0 (by simpa using hi1);refine aL (by grind) hv ?_;have e1:tyName (.ref p1) H6=some "list":=vY (by grind);have e2:tyName (.ref p2) H6=some "tuple":=ES (by grind);have hs7:Sep (hand h (m+3)::O) H6:=aj (hs6.sub (by ac_nf)) nofun;simp only[mem_cons,not_mem_nil,or_false] at hmem;rcases hmem with rfl|rfl|rfl|rfl|rfl|rfl|rfl|rfl|rfl
 ·exact q _ _ (λi e=>by cases e) (cx (t:="NoneType") rfl (by decide) hs7)
 ·exact q _ _ (λi e=>by cases e) (cx (t:="bool") rfl (by decide) hs7)
 ·exact q _ _ (λi e=>by cases e) (cx (t:="bool") rfl (by decide) hs7)
 ·exact q _ _ (λi e=>by cases e) (cx (t:="str") rfl (by decide) hs7)
 ·exact q _ _ (λi e=>by cases e) (cx e1 (by decide) hs7)
 ·exact q _ _ (λi e=>by cases e) (cx e2 (by decide) hs7)
 ·exact q _ _ (λi e=>by cases e) (Bs ((aj (n:=m+3) (hs6.pull (A:=hand h _) (by symm)) nofun).sub (by ac_nf)))
 ·exact q _ _ (λi e=>by cases e) (cx (t:="str") rfl (by decide) hs7)
 ·exact q _ _ (λi e=>by cases e) (cx (t:="str") rfl (by decide) hs7)
def jU {x:Addr}(hk:1<=k)(s:Sep (pt x (.exc (R.cad aE) none [] true)::O) H)(q:∀ d H',Sep (pt x (.exc (R.cad aE) (some d) [("k",v)] true)::pt d (.own x)::O) H'->Q .non H'):ab tab R k cp [.ref x,v] H Q E:=by
 refine wc (d:=ck) nofun rfl rfl ?_;right;refine ⟨_,aE,_,_,_,_,rfl,by grind,rfl,?_⟩;right;refine ve s rfl rfl (λd H hs=>?_);right;exact q d H hs
section
variable {v:V}{c:Addr}{cs:List Int}{ws:List Str}{P:List (Int×Int)}{ms:List V}
def yO (hk:2<=k)(ht:tyName v H=some t)(ho:tH 0 ((ms.length:Int)-1) v)(z:Sep O H)(p:af (cq R c cs ws P ms) O Δ)(q:∀ e H',Sep (j4 (R.cad aE) [("k",v)] e false::O) H'->E e H'):ab tab R k cu [.ref c,v] H Q E:=by
 refine wc (d:=bb) nofun rfl rfl ?_;obtain ⟨dx,gr,pl,ml,L,eL,z1⟩:=BS (z.pull p);right;have fin:∀ e,H e=none->ab tab R (k-1) cp [.ref e,v] (upd H e (.exc (R.cad aE) none [] true)) (λu H2=>u=.non/\∃ a i dx fs,V.ref e=.ref a/\H2 a=some (.exc (R.cad i) dx fs true)/\tab.xc.contains i=true/\E a (upd H2 a (.exc (R.cad i) dx fs false))) E:=λe he=>
  jU nofun (z.new he) (λd H3 hs3=>⟨rfl,eG (G:=⟨tab,R,ab tab R k,true⟩) hs3 .here rfl (λH4 hs4=>q e H4 (jw hs4))⟩)
 refine aF nofun ht ?_;left;cases hw:pB v with
 |false=>
  right;exact fin
 |true=>
  cases v with
  |int i=>
   have:=ho i rfl;right;refine ax (λh1=>?_) (λh1=>?_)
   ·right;refine ax (λh2=>absurd h2 nofun) (λh2=>?_);right;exact fin
   ·right;exact fin
  |_=>cases hw
def pQ (hk:3<=k)(ht:tyName v H=some t)(ho:tH 0 ((ms.length:Int)-1) v)(z:Sep O H)(p:af (cq R c cs ws P ms) O Δ)(q:∀ e H',Sep (j4 (R.cad aE) [("k",v)] e false::O) H'->E e H'):ab tab R k cW [.ref c,v] H Q E:=by
 refine wc (d:=bC) nofun rfl rfl ?_;right;refine ae cg z p rfl rfl ?_;left;exact yO nofun ht ho z p q
def Hv (hk:3<=k)(ht:tyName v H=some t)(ho:tH 0 ((ms.length:Int)-1) v)(hi:∀ i ∈ is,i<ms.length) (z:Sep O H) (p:af (cq R c cs ws P ms) O Δ)(p2:af (pt Ol (.lst (is.map nV++v::rest))) O Δ2) (q:∀ e H',Sep (j4 (R.cad aE) [("k",v)] e false::O) H'->E e H'):ab tab R k nh [.ref c,.ref Ol] H Q E:=by
 refine wc (d:=iI) nofun rfl rfl ?_;left;refine ⟨rfl,?_⟩;refine GP (z.get p2) ?_;refine cy (xs:=is.map nV++v::rest) (λj U H'=>∃ u2,U=[some (.ref c),some (.ref Ol),u2]/\j<=is.length/\H'=H) ⟨none,rfl,Nat.zero_le _,rfl⟩ ?_ ?_ ?_
 ·rintro j U H' ⟨u2,rfl,_,rfl⟩;exact aS.of (z.get p2)
 ·rintro j x U H' hx ⟨u2,rfl,hj,rfl⟩;right;refine ae cg z p rfl rfl ?_;left
  by_cases hjl:j<is.length
  ·rw[List.getElem?_append_left (by rw[length_map];exact hjl),getElem?_map] at hx;obtain ⟨i,ei,rfl⟩:=Option.map_eq_some_iff.mp hx;refine cL nofun (hi i (mem_of_getElem? ei)) z p ?_;right;exact ⟨_,rfl,by omega,rfl⟩
  ·have e:j=is.length:=by omega
   subst e;rw[List.getElem?_append_right (by rw[length_map];exact Nat.le_refl _),length_map,Nat.sub_self] at hx;cases hx;exact yO nofun ht ho z p q
 ·rintro U H' ⟨u2,rfl,hj,rfl⟩
  exfalso
  rw[length_append,length_map,length_cons] at hj
  omega
end
section
variable {v:V}{c:Addr}{cs:List Int}{ws:List Str}{P:List (Int×Int)}{ms:List V}{Δo:List ay}
def Hk {dr:Int}(hk:6<=k)(hd:dr=0\/dr=1\/dr=2\/dr=3)(ho:tH 0 ((ms.length:Int)-1) v)(z:Sep O H)(p:af (cq R c cs ws P ms) O Δ)(po:af (rS v) O Δo)(q:∀ t H',Sep (tu t [.str "none",v]::O) H'->Q (.ref t) H'):ab tab R k i5 [.ref c,.int dr,v] H Q E:=by
 refine wc (d:=d9) nofun rfl rfl ?_;obtain ⟨t,ht⟩:=rJ (z.pull po);rcases hd with rfl|rfl|rfl|rfl
 all_goals
  right;refine ae cg z p rfl rfl ?_;left
 ·refine wc (d:=d8) nofun rfl rfl ?_;right;refine ae cg z p rfl rfl ?_;left;refine pQ nofun ht ho z p (λe H5 z5=>?_);obtain ⟨ed,z6⟩:=kS z5;left;refine ⟨aE,_,_,true,z6.at,rfl,rfl,?_⟩;right;refine kF z6 rfl z6.at (b:=false) rfl (λp H6 z7=>?_);right;rename_i t2 H7 z8;exact q t2 H7 (z8.toT.sub (by ac_nf))
 ·refine wc (d:=ky) nofun rfl rfl ?_;right;refine ae cg z p rfl rfl ?_;left;refine pQ nofun ht ho z p (λe H5 z5=>?_);obtain ⟨ed,z6⟩:=kS z5;left;refine ⟨aE,_,_,true,z6.at,rfl,rfl,?_⟩;right;refine kF z6 rfl z6.at (b:=false) rfl (λp H6 z7=>?_);right;rename_i t2 H7 z8;exact q t2 H7 (z8.toT.sub (by ac_nf))
 ·refine wc (d:=kX) nofun rfl rfl ?_;right;refine ae cg z p rfl rfl ?_;left;refine pQ nofun ht ho z p (λe H5 z5=>?_);obtain ⟨ed,z6⟩:=kS z5;left;refine ⟨aE,_,_,true,z6.at,rfl,rfl,?_⟩;right;refine kF z6 rfl z6.at (b:=false) rfl (λp H6 z7=>?_);right;rename_i t2 H7 z8;exact q t2 H7 (z8.toT.sub (by ac_nf))
 ·refine wc (d:=dI) nofun rfl rfl ?_;right;refine ae cg z p rfl rfl ?_;left;refine pQ nofun ht ho z p (λe H5 z5=>?_);obtain ⟨ed,z6⟩:=kS z5;left;refine ⟨aE,_,_,true,z6.at,rfl,rfl,?_⟩;right;refine kF z6 rfl z6.at (b:=false) rfl (λp H6 z7=>?_);right;rename_i t2 H7 z8;exact q t2 H7 (z8.toT.sub (by ac_nf))
def Jl (hk:6<=k)(ho:tH 0 ((ms.length:Int)-1) v)(hi:∀ i ∈ is,i<ms.length) (z:Sep O H) (p:af (cq R c cs ws P ms) O Δ) (po:af (rS v) O Δo) (p2:af (pt Ol (.lst (is.map nV++v::rest))) O Δ2) (q:∀ t H',Sep (tu t [.str "none",v]::O) H'->Q (.ref t) H'):ab tab R k i5 [.ref c,.int 4,.ref Ol] H Q E:=by
 refine wc (d:=d9) nofun rfl rfl ?_;obtain ⟨t,ht⟩:=rJ (z.pull po);right;refine ae cg z p rfl rfl ?_;left;refine Hv nofun ht ho hi z p p2 (λe H5 z5=>?_);obtain ⟨ed,z6⟩:=kS z5;left;refine ⟨aE,_,_,true,z6.at,rfl,rfl,?_⟩;right;refine kF z6 rfl z6.at (b:=false) rfl (λp H6 z7=>?_);right;rename_i t2 H7 z8;exact q t2 H7 (z8.toT.sub (by ac_nf))
def m8 {t:Addr}{Δ1:List ay}(hk:1<=k)(z:Sep O H)(p1:af (tu t [.str "none",v]) O Δ1) (po:af (rS v) O Δo) (q:Q (.bl true) H):ab tab R k pN [.ref t,v] H Q E:=by
 refine wc (d:=gY) nofun rfl rfl ?_;have zo:=z.pull po;obtain ⟨ty,ht⟩:=rJ zo;have e1:=z.fK p1;left;refine cS e1 rfl ?_;left;refine pF rfl rfl ?_;left;refine ar (by rw[kj rfl];rfl) ?_;left;refine cS e1 (i:=1) rfl ?_;cases dC ht
 all_goals
  refine cn ht rfl ?_;left;refine cn ht rfl ?_;left;refine pF rfl rfl ?_;left;refine ar rfl ?_;left;refine cS e1 (i:=1) rfl ?_;exact Ju zo q
end
def Ip (z:Sep (bM R q::O) H):0<=q.x.l/\q.cs.length=q.ws.length/\q.cs.length<=60:=by
 obtain ⟨l,s,b,L,eL,z1⟩:=Ca z;exact ⟨(kR z1 (.there (.there .here))).2.2.1.1,(cF z1 (.there .here)).1,(cF z1 (.there .here)).2.2.1⟩
section
variable {b:Mm}{u:Wm}
def FX (e:AD u=xk b)(er:b.rs=rs):AD (JJ rs u)=xk (AY b)/\(mS rs u.at_ u.x u.cs u.ws).w=(mS b.rs b.at_ b.x b.cs b.ws).w:=by
 have e1:u.at_=b.at_:=congrArg (·.1) e;have e2:u.x=b.x:=congrArg (·.2.1) e;have e3:u.cs=b.cs:=congrArg (·.2.2.1) e;have e4:u.ws=b.ws:=congrArg (·.2.2.2) e;subst er;refine ⟨?_,by rw[e1,e2,e3,e4]⟩;show ((mS b.rs u.at_ u.x u.cs u.ws).at_,(mS b.rs u.at_ u.x u.cs u.ws).x,(mS b.rs u.at_ u.x u.cs u.ws).cs,u.ws)=((mS b.rs b.at_ b.x b.cs b.ws).at_,(mS b.rs b.at_ b.x b.cs b.ws).x,(mS b.rs b.at_ b.x b.cs b.ws).cs,b.ws);rw[e1,e2,e3,e4]
end
noncomputable abbrev iD (cs:List Int):List Str:=List.replicate cs.length "open"
abbrev jy (R:Rt)(h c C ML WL:Addr)(cs:List Int)(L:List Mb)(N:Int)(H:Hp):Prop:=∃ (M:List Mm) (W:List Wm),uL cs L M W/\Sep (pt C (.lst (cs.map V.int))::pt ML (.lst (L.map bN))::pt WL (.lst (W.map fJ))::cq R c cs (iD cs) (L.map dA) (M.map cO)::hand h N::(M.map (bM R)++(W.map gj++(L.map bK++[])))) H
section
variable {h c C ML WL:Addr}{cs:List Int}{L:List Mb}{N:Int}{D:Ends}{E:St->XK}{u0 u4 u5 u6 u9 u10:Option V}
def Kn (ro:Ro K R)(hk:6<=k)(n1:L.length<=4)(c60:cs.length<=60){E:XK}(z:jy R h c C ML WL cs L N H)(q:∀ H',jy R h c C ML WL cs L N H'->Q (.bl true) H'):ab tab R k fP [.ref c,.ref C,.ref ML,.ref WL] H Q E:=by
 obtain ⟨M,W,hK,z⟩:=z;have e:∀ O:List ay,(M.map (bM R)++(W.map gj++L.map bK))++O=M.map (bM R)++(W.map gj++(L.map bK++O)):=λO=>by rw[append_assoc,append_assoc]
 rw[<-e] at z;have z1:=Sep.mv (P:=[_,_,_,_]) (Δ:=[hand h N]) (L:=M.map (bM R)++(W.map gj++L.map bK)) (O:=[]) z;rw[e] at z1;refine nu ro hk hK n1 c60 (O:=[hand h N]) z1 (λH2 z2=>q H2 ⟨M,W,hK,?_⟩);rw[<-e] at z2⊢;exact Sep.mv (P:=[_,_,_,_]) (Δ:=M.map (bM R)++(W.map gj++L.map bK)) (L:=[hand h N]) (O:=[]) z2
end
section
variable {h c C ML WL:Addr}{cs:List Int}{L:List Mb}{M:List Mm}{W:List Wm}{N:Int}{D:Ends}{E:St->XK}{u0 u6 u7 u8 u9 u10 u11 u12 u13:Option V}{is:List Nat}{Ol:Addr}
def uL.go {i:Nat}(hK:uL cs L M W)(hi:i<L.length):∃ o q u,L[i]? =some o/\M[i]? =some q/\W[i]? =some u/\AD u=xk q/\q.rs=o.S.map (·.2)/\xb q/\stM M i=M.set i (AY q)/\G5 M i=(mS q.rs q.at_ q.x q.cs q.ws).w:=by
 obtain ⟨o,q,u,eo,eq,eu,ews,ers,okq,_⟩:=hK.at hi;refine ⟨o,q,u,eo,eq,eu,ews,ers,okq,?_,?_⟩
 ·unfold stM;rw[eq]
 ·unfold G5;rw[eq]
noncomputable abbrev Jo (h C ML WL Ol:Addr)(cs:List Int)(L:List Mb)(W:List Wm)(is:List Nat)(N:Int):List ay:=pt C (.lst (cs.map V.int))::pt ML (.lst (L.map bN))::pt WL (.lst (W.map fJ))::pt Ol (.lst (is.map nV))::hand h N::[]
def J0 (ro:Ro K R)(hk:14<=k)(l8:is.length<=8)(hi:∀ i ∈ is,i<L.length) (hK:uL cs L M W) (okM:∀ m ∈ M,0<=m.x.l/\m.cs.length=m.ws.length) (z:Sep (cq R c cs (iD cs) (L.map dA) (M.map cO)::(M.map (bM R)++(W.map gj++(L.map bK++Jo h C ML WL Ol cs L W is N)))) H)
  (q:∀ H',jy R h c C ML WL cs L N H'->D.nx [u0,some (.ref h),some (.ref C),some (.ref ML),some (.ref c),some (.ref WL),u6,u7,u8,some (.ref Ol),u10,u11,u12,u13] H'):
  wB (gM 10 (A1 (gM 5 kr.body))) ⟨tab,R,ab tab R (k-1),true⟩ D E [u0,some (.ref h),some (.ref C),some (.ref ML),some (.ref c),some (.ref WL),u6,u7,u8,some (.ref Ol),u10,u11,u12,u13] H:=by
 have lM:L.length=M.length:=by have:=hK.fit.1;rwa [length_map] at this
 have z0:=z.pull (A:=pt Ol (.lst (is.map nV))) (.there (aa (aa (aa (.there (.there (.there .here)))))));right;refine ae cg z0 (.there .here) rfl rfl ?_;left;refine IH ro nofun nofun (λi h=>by rw[<-lM];exact hi i h) hK.ok z0 (λG H1 z1=>?_);clear z z0;right;refine lx (xs:=is.map nV) (by rw[length_map];omega) (λF ys H=>∃ W',uL cs L (lP M (is.take ys.length)) W'/\W'.map fJ=W.map fJ/\(∀ m ∈ lP M (is.take ys.length),0<=m.x.l/\m.cs.length=m.ws.length)/\ys=(yL M (is.take ys.length)).map V.str/\Sep (pt F (.lst ys)::pt G (.lst ((yL M is).map V.str))::pt Ol (.lst (is.map nV))::cq R c cs (iD cs) (L.map dA) (M.map cO)::((lP M is).map (bM R)++(W'.map gj++(L.map bK++(pt C (.lst (cs.map V.int))::pt ML (.lst (L.map bN))::pt WL (.lst (W.map fJ))::hand h N::[]))))) H) (λF ys H hI=>?_) (λF hF=>⟨W,hK,rfl,okM,rfl,z1.new (o:=.lst []) hF⟩) (λF ys y H hy hI=>?_) (λF ys H hys hI=>?_)
 ·obtain ⟨W',_,_,_,_,zz⟩:=hI;exact aS.of (zz.get (.there (.there .here)))
 ·obtain ⟨W',hK',ew,okm,ey,zz⟩:=hI;rw[getElem?_map] at hy;obtain ⟨i,ei,rfl⟩:=Option.map_eq_some_iff.mp hy;have hj:=(List.getElem?_eq_some_iff.mp ei).1;obtain ⟨o,b,u,eo,eb,eu,ews,ers,okb,es,ed⟩:=hK'.go (hi i (mem_of_getElem? ei));obtain ⟨hx,hl⟩:=okm b (mem_of_getElem? eb);have e1:u.at_=b.at_:=congrArg (·.1) ews;have e2:u.x=b.x:=congrArg (·.2.1) ews;have e3:u.cs=b.cs:=congrArg (·.2.2.1) ews;have e4:u.ws=b.ws:=congrArg (·.2.2.2) ews;have z2:=zz.pull (.there (.there (.there (.there (aa (aK eu))))));have z3:=z2.pull (.there (.there (.there (.there (.there (aa (aa (aK eo))))))));have ht:=(zJ z3).atT;have i0:=z3.get (a:=ML) (.there (.there (.there (.there (.there (.there (aa (aa (aa (.there .here))))))))));have i00:=z3.get (a:=WL) (.there (.there (.there (.there (.there (.there (aa (aa (aa (.there (.there .here)))))))))));have i1:=aI (i:=(i:Int)) nofun (by rw[Int.toNat_natCast];exact Dq eo);have i2:lL (W.map fJ) (i:Int)=some (.ref u.w):=aI (i:=(i:Int)) nofun (by rw[Int.toNat_natCast,<-ew];exact uy eu);right;refine aL i0 i1 ?_;right;refine cS ht rfl ?_;right;refine aL i00 i2 ?_;right;refine Ac nofun (by rw[e1];exact okb.1) (by rw[e1,<-ers];exact okb.2.1) (by rw[e2];exact hx) (by rw[e3,e4];exact hl) (by rw[<-ers];exact okb.2.2) (z3.sub (.cons (.there .here) (.cons .here .refl))) (λH2 z4=>?_);obtain ⟨s1,s2⟩:=FX ews ers;have eg:lP M (is.take (ys.length+1))=(lP M (is.take ys.length)).set i (AY b):=by rw[cA ei,lB,es]
  have ew2:yL M (is.take (ys.length+1))=yL M (is.take ys.length)++[(mS b.rs b.at_ b.x b.cs b.ws).w]:=by rw[cA ei,kO,ed]
  rw[s2];rw[<-ers] at z4 s1;have z5:=(z4.pull (A:=pt F (.lst ys)) (by symm)).set (o':=.lst (ys++[.str (mS b.rs b.at_ b.x b.cs b.ws).w])) rfl;refine pj.mk (z4.get (by symm)) nofun ⟨W'.set i (JJ b.rs u),?_,?_,?_,?_,?_⟩
  ·rw[length_append,length_singleton,eg];exact hK'.set eb eu s1 rfl (xZ okb) (oY hx).2
  ·rw[hE (f:=fJ) eu (y:=JJ b.rs u) rfl,ew]
  ·intro m hm;rw[length_append,length_singleton,eg] at hm;rcases mem_or_eq_of_mem_set hm with hm|rfl
   ·exact okm m hm
   ·exact ⟨(oY hx).1,(oY hx).2.trans hl⟩
  ·rw[length_append,length_singleton,ew2,map_append,<-ey]
   rfl
  ·have z6:=Sep.push (.there (.there (.there (.there (.there (aa (aa (aK eo)))))))) (z5.pull (.there (.there .here)));exact Sep.push (.there (.there (.there (.there (aa (k8 eu)))))) (z6.pull (.there .here))
 ·obtain ⟨W',hK',ew,okm,ey,zz⟩:=hI;rw[length_map] at hys;rw[hys,take_length] at hK' ey;subst ey;right;refine yo (Cn (zz.get (.there .here)) zz.at) (by decide) (zz.pull (.there .here)).ne ?_;refine ar rfl ?_;refine q H ⟨lP M is,W',hK',?_⟩;rw[(tL hK.ok).1,ew];have y1:=zz.drop.drop.drop.pull (A:=hand h N) (.there (aa (aa (aa (.there (.there (.there .here)))))));have y2:=y1.pull (A:=cq R c cs (iD cs) (L.map dA) (M.map cO)) (.there .here);have y3:=y2.pull (A:=pt WL (.lst (W.map fJ))) (.there (.there (aa (aa (aa (.there (.there .here)))))));have y4:=y3.pull (A:=pt ML (.lst (L.map bN))) (.there (.there (.there (aa (aa (aa (.there .here)))))));exact y4.pull (A:=pt C (.lst (cs.map V.int))) (.there (.there (.there (.there (aa (aa (aa .here)))))))
end
section
variable {h c C ML WL S:Addr}{cs:List Int}{L:List Mb}{M:List Mm}{W:List Wm}{N:Int}{D:Ends}{E:St->XK}{u0 u6 u8 u10 u11 u13:Option V}{is js:List Nat}{Ol:Addr}{w:V}{rest:List V}
def Jm (ro:Ro K R)(hk:14<=k)(n1:L.length<=4)(c60:cs.length<=60)(l8:is.length<=8)(hi:∀ i ∈ is,i<L.length) (hj:∀ i ∈ js,i<L.length) (ho:tH 0 ((L.length:Int)-1) w) (hK:uL cs L M W) (okM:∀ m ∈ M,0<=m.x.l/\m.cs.length=m.ws.length)
  (z:Sep (rS w::tys rest::pt S (.lst (js.map nV++w::rest))::cq R c cs (iD cs) (L.map dA) (M.map cO)::(M.map (bM R)++(W.map gj++(L.map bK++Jo h C ML WL Ol cs L W is N)))) H)
  (q:∀ u13 H',jy R h c C ML WL cs L N H'->D.nx [u0,some (.ref h),some (.ref C),some (.ref ML),some (.ref c),some (.ref WL),u6,some w,u8,some (.ref Ol),u10,u11,some (.ref S),u13] H'):
  wB (gM 7 (A1 (gM 5 kr.body))) ⟨tab,R,ab tab R (k-1),true⟩ D E [u0,some (.ref h),some (.ref C),some (.ref ML),some (.ref c),some (.ref WL),u6,some w,u8,some (.ref Ol),u10,u11,some (.ref S),u13] H:=by
 have lM:L.length=M.length:=by have:=hK.fit.1;rwa [length_map] at this
 right;rename_i K2 H1 z1;clear z;refine Jl (ms:=M.map cO) (is:=js) (rest:=rest) nofun (by rw[length_map,<-lM];exact ho) (λi h=>by rw[length_map,<-lM];exact hj i h) z1 (by symm) (by symm) (by symm) (λt H2 z2=>?_);refine m8 nofun z2 .here (by symm) ?_;have z3:=z2.drop;clear z1 z2;left;refine ar rfl ?_;left;have ht:∀ x ∈ js.map nV++w::rest,∃ t,tyName x H2=some t:=λx hx=>by
  rcases mem_append.mp hx with hx|hx
  ·obtain ⟨i,_,rfl⟩:=List.mem_map.mp hx;exact ⟨"int",rfl⟩
  ·rcases mem_cons.mp hx with rfl|hx
   ·exact rJ (z3.pull (.there .here))
   ·exact (z3.pull (A:=tys rest) (.there (.there .here))).DW x hx
 refine yo (kD (n:=0) (z3.get (.there (.there (.there .here)))) z3.at ht) (by decide) (z3.pull (.there (.there (.there .here)))).ne ?_;refine ar rfl ?_;have z4:=z3.drop.drop.drop.drop;clear z3 ht;have y1:=z4.pull (A:=pt WL (.lst (W.map fJ))) (.there (aa (aa (aa (.there (.there .here))))));have y2:=y1.pull (A:=pt ML (.lst (L.map bN))) (.there (.there (aa (aa (aa (.there .here))))));have y3:=y2.pull (A:=pt C (.lst (cs.map V.int))) (.there (.there (.there (aa (aa (aa .here))))));clear z4 y1 y2;right;refine nu ro nofun hK n1 c60 y3 (λH5 z5=>?_);refine ar rfl ?_;have x1:=Sep.push (.there (.there (.there (aa (aa (aa .here)))))) (z5.pull (A:=pt WL (.lst (W.map fJ))) (.there (.there .here)));have x2:=Sep.push (.there (.there (aa (aa (aa .here))))) (x1.pull (A:=pt ML (.lst (L.map bN))) (.there .here));have x3:=Sep.push (.there (aa (aa (aa .here)))) x2;exact J0 (k:=k) ro hk l8 hi hK okM x3 (λH' y=>q _ H' y)
end
def uL.start {cs:List Int}{B:List Mm}(ok:∀ q ∈ L,HG cs.length q) (eB:B.map BW=L.map (λq=>DM cs (yJ q))) (eW:W.map AD=L.map (λq=>xk (DM cs (yJ q)))):uL cs L B W:=by
 have f1:∀ l:List Mm,l.map xk=(l.map BW).map xk:=λl=>by rw[List.map_map];rfl
 have f2:∀ l:List Mm,l.map (·.rs)=(l.map BW).map (·.rs):=λl=>by rw[List.map_map];rfl
 have hl:B.length=L.length:=by
  have:=congrArg List.length eB
  rwa [length_map,length_map] at this
 have be:∀ {n:Nat}{q:Mm},B[n]? =some q->∃ o,L[n]? =some o/\DM cs (yJ o)=BW q:=λ{n q} h=>by
  have h2:(B.map BW)[n]? =(L.map (λq=>DM cs (yJ q)))[n]? :=by rw[eB]
  rw[getElem?_map,getElem?_map,h] at h2;obtain ⟨o,g1,g2⟩:=Option.map_eq_some_iff.mp h2.symm;exact ⟨o,g1,g2⟩
 refine ⟨?_,?_,λq hq=>?_,⟨by rw[length_map];exact hl.symm,λi p q e1 e2=>?_⟩⟩
 ·rw[eW,f1,eB,List.map_map]
  rfl
 ·rw[f2,eB,List.map_map]
  rfl
 ·obtain ⟨n,hn⟩:=getElem?_of_mem hq;obtain ⟨o,eo,e⟩:=be hn;obtain ⟨_,_,oR,_⟩:=ok o (mem_of_getElem? eo);have a1:(0:Int)=q.at_:=congrArg Mm.at_ e;have a2:o.S.map (·.2)=q.rs:=congrArg Mm.rs e;unfold xb;rw[<-a1,<-a2];exact ⟨Int.le_refl _,by omega,oR⟩
 ·obtain ⟨o,eo,e⟩:=be e2;rw[getElem?_map,eo] at e1;cases e1;obtain ⟨⟨o0,o1,o2⟩,_⟩:=ok o (mem_of_getElem? eo);have a1:(cs.drop o.i.toNat).take (o.j.toNat-o.i.toNat)=q.cs:=congrArg Mm.cs e;rw[<-a1,length_take,length_drop];show 0<=o.i/\o.j<=(cs.length:Int)/\o.i+_=o.j
  omega
section
variable {h c C ML WL:Addr}{cs:List Int}{L:List Mb}{N:Int}{D:Ends}{E:St->XK}{u0 u6 u7 u8 u9 u10 u11 u12 u13:Option V}
def Ge (ro:Ro K R)(hk:14<=k)(hN:N<=1099400000000)(n0:1<=L.length)(n1:L.length<=4)(c60:cs.length<=60)(z:jy R h c C ML WL cs L N H)
  (q:∀ u7 u8 u9 u10 u11 u12 u13 H',jy R h c C ML WL cs L (N+30) H'->D.nx [u0,some (.ref h),some (.ref C),some (.ref ML),some (.ref c),some (.ref WL),u6,u7,u8,u9,u10,u11,u12,u13] H'):
  wB (A1 (gM 5 kr.body)) ⟨tab,R,ab tab R (k-1),true⟩ D E [u0,some (.ref h),some (.ref C),some (.ref ML),some (.ref c),some (.ref WL),u6,u7,u8,u9,u10,u11,u12,u13] H:=by
 obtain ⟨M,W,hK,z⟩:=z;have lM:L.length=M.length:=by have:=hK.fit.1;rwa [length_map] at this
 have okM:∀ m ∈ M,0<=m.x.l/\m.cs.length=m.ws.length:=λm hm=>by
  obtain ⟨n,hn⟩:=getElem?_of_mem hm;have:=Ip (z.pull (.there (.there (.there (.there (.there (aK hn)))))));exact ⟨this.1,this.2.1⟩
 right;rw[length_map];refine yD (m:=N) nofun (by decide) nofun (z.pull (A:=hand h N) (.there (.there (.there (.there .here))))) nofun (λw H1 ho z1=>?_);clear z;right;refine ig (λj U H=>∃ u8,U=[u0,some (.ref h),some (.ref C),some (.ref ML),some (.ref c),some (.ref WL),u6,some w,u8,u9,u10,u11,u12,u13]/\Sep (rS w::hand h (N+3)::pt C (.lst (cs.map V.int))::pt ML (.lst (L.map bN))::pt WL (.lst (W.map fJ))::cq R c cs (iD cs) (L.map dA) (M.map cO)::(M.map (bM R)++(W.map gj++(L.map bK++[])))) H) ⟨_,rfl,z1⟩ ?_ ?_
 ·rintro j U H hj ⟨u8,rfl,zz⟩;right;refine Hk (ms:=M.map cO) nofun nofun (by rw[length_map,<-lM];exact ho) zz (by symm) .here (λt H2 z2=>?_);refine m8 nofun z2 .here (.there .here) ?_;refine ar rfl ?_;exact ⟨_,rfl,z2.drop⟩
 rintro U H ⟨u8,rfl,zz⟩;clear z1;walk_at "gd";rename_i r1 H2 r10 r11 z2;clear zz;refine ph (n:=r1.toNat) nofun (λF ys H=>∃ is:List Nat,ys=is.map nV/\(∀ i ∈ is,i<L.length)/\Sep (pt F (.lst ys)::hand h (N+4+((ys.length:Nat):Int))::rS w::pt C (.lst (cs.map V.int))::pt ML (.lst (L.map bN))::pt WL (.lst (W.map fJ))::cq R c cs (iD cs) (L.map dA) (M.map cO)::(M.map (bM R)++(W.map gj++(L.map bK++[])))) H) (λF hF=>⟨[],rfl,λi hi=>absurd hi (by simp),(aj ((z2.new (o:=.lst []) hF).pull (.there .here)) (by show N+3+1<=N+4+((0:Nat):Int);omega)).pull (.there .here)⟩) (λF ys H hl hI=>?_) (λF ys H hl hI=>?_)
 ·obtain ⟨is,rfl,his,zz⟩:=hI;right;rw[length_map];refine n8 nofun (zz.pull (.there .here)) nofun nofun nofun (λr H3 r0 r1 z3=>?_);obtain ⟨i,rfl⟩:=Int.eq_ofNat_of_zero_le r0;refine pj.mk (z3.get (by symm)) nofun ⟨is++[i],by rw[map_append];rfl,λj hj=>?_,?_⟩
  ·rcases mem_append.mp hj with hj|hj
   ·exact his j hj
   ·rw[mem_singleton.mp hj]
    omega
  ·have z4:=(z3.pull (.there .here)).set (o':=.lst (is.map nV++[nV i])) rfl;exact (aj (z4.pull (.there .here)) (by rw[length_append,length_singleton];omega)).pull (.there .here)
 obtain ⟨is,rfl,his,zz⟩:=hI;rw[length_map] at hl zz;clear z2;right;rw[length_map];refine yD (m:=N+12) nofun (by decide) nofun (aj (zz.pull (A:=hand h _) (.there .here)) nofun) nofun (λw2 H4 ho2 z4=>?_);clear zz;right;rw[length_map];refine n8 nofun (z4.pull (A:=hand h _) (by symm)) nofun nofun nofun (λp H5 p0 p1 z5=>?_);obtain ⟨p,rfl⟩:=Int.eq_ofNat_of_zero_le p0;clear z4;right;rename_i l1 H6 z6 l2 H7 z7;have ec1:fg (is.map nV) none (some (p:Int))=(is.take p).map nV:=by rw[se (by rw[length_map];omega),map_take]
 have ec2:fg (is.map nV) (some (p:Int)) none=(is.drop p).map nV:=by rw[pZ (by rw[length_map];omega),map_drop]
 rw[ec1] at z7;refine nv z7 (z7.get (.there .here)) z7.at (by rw[length_map,length_take,length_singleton];omega) (λl3 H8 z8=>?_);clear z5 z6 z7;right;rename_i l4 H9 z9;rw[ec2] at z9;refine nv z9 (z9.get (.there .here)) z9.at (by rw[length_append,length_map,length_take,length_singleton,length_map,length_drop];omega) (λS H10 z10=>?_);rw[append_assoc] at z10;have z10:Sep (pt S (.lst ((is.take p).map nV++w::(is.drop p).map nV))::_) H10:=z10;have z11:Sep (hand h (N+20)::pt S (.lst ((is.take p).map nV++w::(is.drop p).map nV))::rS w2::rS w::pt C (.lst (cs.map V.int))::pt ML (.lst (L.map bN))::pt WL (.lst (W.map fJ))::pt F (.lst (is.map nV))::cq R c cs (iD cs) (L.map dA) (M.map cO)::(M.map (bM R)++(W.map gj++(L.map bK++[])))) H10:=(aj (n:=N+20) (z10.pull (A:=hand h _) (by symm)) nofun).sub (by ac_nf);clear z8 z9 z10;have hj:∀ i ∈ is.take p,i<L.length:=λi hi=>his i (mem_of_mem_take hi)
 have key:∀ {rest:List V}{H':Hp}{u13:Option V},Sep (hand h (N+30)::tys rest::pt S (.lst ((is.take p).map nV++w::rest))::rS w::pt C (.lst (cs.map V.int))::pt ML (.lst (L.map bN))::pt WL (.lst (W.map fJ))::pt F (.lst (is.map nV))::cq R c cs (iD cs) (L.map dA) (M.map cO)::(M.map (bM R)++(W.map gj++(L.map bK++[])))) H'->wB (gM 7 (A1 (gM 5 kr.body))) ⟨tab,R,ab tab R (k-1),true⟩ D E [u0,some (.ref h),some (.ref C),some (.ref ML),some (.ref c),some (.ref WL),u6,some w,u8,some (.ref F),some w2,some (.int (p:Int)),some (.ref S),u13] H':=λ{rest H' u13} y=>by
  have y1:=Sep.push (.there (.there (.there (.there (.there (.there (.there (.there (aa (aa (aa .here))))))))))) y;have y2:=Sep.push (.there (.there (.there (.there (.there (.there (.there (aa (aa (aa .here)))))))))) (y1.pull (A:=pt F (.lst (is.map nV))) (.there (.there (.there (.there (.there (.there .here)))))));have y3:=Sep.push (.there (.there (.there (.there (.there (.there (aa (aa (aa .here))))))))) (y2.pull (A:=pt WL (.lst (W.map fJ))) (.there (.there (.there (.there (.there .here))))));have y4:=Sep.push (.there (.there (.there (.there (.there (aa (aa (aa .here)))))))) (y3.pull (A:=pt ML (.lst (L.map bN))) (.there (.there (.there (.there .here)))));have y5:=Sep.push (.there (.there (.there (.there (aa (aa (aa .here))))))) (y4.pull (A:=pt C (.lst (cs.map V.int))) (.there (.there (.there .here))));exact Jm (k:=k) (js:=is.take p) (is:=is) (rest:=rest) (w:=w) ro hk n1 c60 nofun his hj ho hK okM (y5.pull (.there (.there .here))) (λu13 H2 yy=>q _ _ _ _ _ _ _ H2 yy)
 walk_at "gd";rename_i r7 H11 r70 r71 z12;refine aB (λg=>?_) (λg=>?_)
 ·right;refine ⟨S,_,rfl,z12.get (by symm),?_⟩;right;refine ⟨_,z12.get (by symm),rD z12 (by ac_rfl) (by rw[length_append,length_map,length_take,length_cons,length_map,length_drop];omega) (λH12 z13=>?_)⟩;rw[append_assoc] at z13;have z13:Sep (hand h _::pt S (.lst ((is.take p).map nV++w::((is.drop p).map nV++[w2])))::_) H12:=z13;obtain ⟨ty2,ht2⟩:=rJ (z13.pull (A:=rS w2) (.there (.there .here)));have z14:=Sep.Ai (xs:=(is.drop p).map nV++[w2]) (λx hx=>by
   rcases mem_append.mp hx with hx|hx
   ·obtain ⟨i,_,rfl⟩:=List.mem_map.mp hx;exact ⟨"int",rfl⟩
   ·rw[mem_singleton.mp hx];exact ⟨ty2,ht2⟩) z13
  exact key (rest:=(is.drop p).map nV++[w2]) ((aj (n:=N+30) (z14.pull (A:=hand h _) (.there .here)) nofun).sub (by ac_nf))
 ·have z14:=Sep.Ai (xs:=(is.drop p).map nV) (λx hx=>by
   obtain ⟨i,_,rfl⟩:=List.mem_map.mp hx;exact ⟨"int",rfl⟩) z12
  exact key (rest:=(is.drop p).map nV) ((aj (n:=N+30) (z14.pull (A:=hand h _) (.there .here)) nofun).sub (by ac_nf))
end
def Ey (ro:Ro K R)(hk:15<=k):∀ vs H Q E,jm K 63 vs H Q E->ab tab R k Eb vs H Q E:=by
 rintro vs H Q E ⟨a,is,rfl,hS,h63,hQ⟩;refine wc (d:=kr) nofun rfl rfl ?_;right;rw[<-ro.hK] at hS;refine Ew nofun Sep.nil hS h63 (λh H1 hs1=>?_);walk_at "gd";rename_i q1 H3 hs3 r2 H4 r20 r21 hs4;obtain ⟨v,e2,M,rfl,M0,M1⟩:=d7 (xs:=[.int 8,.int 60]) (P:=inR 1 60) (r:=r2) r20 (by simpa using r21) (JA (.mk (by decide) (by decide)) (.mk (by decide) (by decide)));refine aL (by grind) e2 ?_;right;refine Aj (O:=[]) (m:=10) nofun (aj (hs4.sub (Γ':=hand h _::[]) (by ac_nf)) nofun) nofun M0 M1 (λC cs H5 c0 c1 hc z5=>?_);clear hs1 hs3 hs4;right;refine tG (O:=[]) (m:=400) nofun (aj (z5.sub (Γ':=hand h _::pt C (.lst (cs.map V.int))::[]) (by ac_nf)) nofun) nofun (by decide) (by decide) c0 nofun (λML L H8 n0 n1 ok hd z8=>?_);clear z5;right;have z9:Sep (pt C (.lst (cs.map V.int))::pt ML (.lst (L.map bN))::hand h 2400::(L.map bK++[])) H8:=(aj (n:=2400) (z8.pull (.there .here)) nofun).sub (by ac_nf);refine BV (O:=hand h 2400::[]) ro nofun n0 n1 ok hd c0 nofun hc (Sep.mv (P:=[_,_]) (Δ:=[_]) (L:=L.map bK) (O:=[]) z9) (λc B H9 eB za=>?_);clear z8 z9;right;have zb:Sep (pt C (.lst (cs.map V.int))::pt ML (.lst (L.map bN))::(L.map bK++(cq R c cs (iD cs) (L.map dA) (B.map cO)::(B.map (bM R)++[hand h 2400])))) H9:=Sep.mv (P:=[]) (Δ:=cq R c cs (iD cs) (L.map dA) (B.map cO)::B.map (bM R)) (L:=pt C (.lst (cs.map V.int))::pt ML (.lst (L.map bN))::L.map bK) (O:=[hand h 2400]) za;clear za;refine vS nofun n1 ok nofun zb (λWL W Ha eW zc=>?_);have zd:Sep (pt WL (.lst (W.map fJ))::pt C (.lst (cs.map V.int))::pt ML (.lst (L.map bN))::cq R c cs (iD cs) (L.map dA) (B.map cO)::(B.map (bM R)++((W.map gj++L.map bK)++[hand h 2400]))) Ha:=Sep.mv (P:=[_,_,_]) (Δ:=W.map gj++L.map bK) (L:=cq R c cs (iD cs) (L.map dA) (B.map cO)::B.map (bM R)) (O:=[hand h 2400]) (by rw[append_assoc];exact zc);have ze:=zd.pull (A:=hand h 2400) (.there (.there (.there (.there (aa (aa .here))))));rw[append_assoc] at ze;have zi:jy R h c C ML WL cs L 2400 Ha:=⟨B,W,.start ok eB eW,ze.sub (by ac_nf)⟩;clear zb zc zd ze;right;refine ig (λj U H=>∃ u6 u7 u8 u9 u10 u11 u12 u13,U=[some (.ref a),some (.ref h),some (.ref C),some (.ref ML),some (.ref c),some (.ref WL),u6,u7,u8,u9,u10,u11,u12,u13]/\jy R h c C ML WL cs L (2400+30*(j:Int)) H) ⟨none,none,none,none,none,none,none,none,rfl,(show (2400:Int)+30*((0:Nat):Int)=2400 by omega)▸zi⟩ ?_ ?_
 ·rintro j U H hj ⟨u6,u7,u8,u9,u10,u11,u12,u13,rfl,zz⟩;refine Ge (k:=k) ro nofun nofun n0 n1 nofun zz (λv7 v8 v9 v10 v11 v12 v13 H' z2=>⟨_,v7,v8,v9,v10,v11,v12,v13,rfl,?_⟩);rw[show (2400:Int)+30*((j+1:Nat):Int)=2400+30*(j:Int)+30 by omega];exact z2
 ·rintro U H ⟨u6,u7,u8,u9,u10,u11,u12,u13,rfl,zz⟩;right;exact Kn ro nofun n1 nofun zz (λH2 _=>hQ H2)
def xy (ro:Ro K R):∀ vs H Q E,jm K 63 vs H Q E->ab tab R 15 Eb vs H Q E:=Ey ro (Nat.le_refl _)
end
def walk {l:W.OpenLaw}{q:Program}{loose:List Str}{XP:(Str->Option Value)->Heap->Prop}{YP:World->Heap->Prop}{d:DefRec}{K:Params->W.Frag}(hn:l.most=some 63)(hdf:d.params.defaults=[])
    (hY:∀ (w:World) (h:Heap),YP w h->(K w.params).In h)
    (F:∀ (w:World) (mg:ME) (fa:Addr) (h:Heap),(K w.params).In h->h.Ns mainGlobals mg->mg d.name=some (.ref fa)->
      ∃ fd:FuncData,(∀ (s:Shared) (u:Value),BindsTo s fd ⟨[u],[]⟩ [("_law_script",u)])/\∀ base:Heap,(K w.params).In base->base.Ns mainGlobals mg->dh l.prog w (K w.params) mg base (y9 l.prog w) 30 fa fd ["_law_script"] (jm (K w.params) 63)):
    W.WalkO q loose XP YP l.row.toRowW d [] (λf vs=>PySem.call f vs):=
  L2.Bm (n:=63) (k:=30) (x:="_law_script") (CX:=λw=>y9 l.prog w) (sp:=λw=>jm (K w.params) 63) hn (by decide) hdf ⟨rfl,by decide,by decide⟩ hY F (λ_ _ a ns hl _ hS=>⟨a,ns,rfl,hS,hl,λ_=>rfl⟩) λ_ _ _ _ _ z=>zH z
abbrev LP:List (Str×V):=[("BOUND",.int 1000000000),("MOST_ROWS",.int 24),("MOST_CELLS",.int 60),("MOST_MEMBERS",.int 4),("THINGS_OF_A_MEMBER",.int 4),("MOST_HOPPED",.int 24),("NAMES",.ref 220)]
end My
open PySem PySem.W PyProof.Rows
set_option maxRecDepth 100000 in
set_option maxHeartbeats 0 in
theorem PySem.Challenge.cw_haulbell_k76_no_members_holds : PySem.Challenge.rw_haulbell_k76_no_members.Holds := by
  refine holds_law My.HP fun said=>?_
  refine W.holds_open (loose:=My.Aw) (N:=19876)
    (q:=My.qL My.pr)
    (Yf:=fun s=>My.JS.map s.heap.get?)
    (Ya:=fun w=>(My.K0 w.params).map fun p=>some p.2)
    (Xt:=fun s=>xlAt (My.qL My.pr) [] s&&recOk PySem.Challenge.rw_haulbell_k76_no_members.row.records s)
    (XP:=XL (My.qL My.pr) [])
    (YP:=InK My.K0) My.IC
    (InK.of (as:=My.JS) fun _=>by kernel_rfl) InK.keeps
    (fun s e=>xl_of s (Bool.and_eq_true_iff.mp e).1)
    XL.keeps (by rfl) (by rfl) (by rfl)
    (fun s e=>recFacts_of (Bool.and_eq_true_iff.mp e).2)
    (by rfl) (by assumption) (by decide+kernel)
    ⟨rfl,rfl,rfl,rfl,rfl,by decide+kernel⟩ ?hw ?hc
  case hw=>w_witness2
  refine My.walk (l:=PySem.Challenge.rw_haulbell_k76_no_members) rfl rfl (fun w h Y=>Y) ?F
  case F=>
    intro w mg fa h KX G hmg;exact L3.Cc KX G hmg (T:=My.tab) (fs:=My.Mg) (cs:=My.L9) (gs:=My.LP) (d:=My.kr) (fl:=121) (k:=15) (by kernel_rfl) (by kernel_rfl) (by kernel_rfl) rfl rfl rfl (My.xy ⟨rfl,by kernel_rfl,by kernel_rfl,by kernel_rfl,by kernel_rfl,by kernel_rfl,by kernel_rfl,⟨220,by kernel_rfl,L3.GF (by kernel_rfl)⟩⟩)
