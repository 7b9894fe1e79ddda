"""What publications and withdrawals do to the steps of a catalog."""

from groupsteps.errors import InvalidChange
from groupsteps.plans import rows_between
from groupsteps.states import is_state
from groupsteps.steps import step_rows, steps_of


def has_same_modules(old, new):
    if old.modules() != new.modules():
        return False
    return all([old.uses(module) == new.uses(module) for module in old.modules()])


def has_all_versions(old, new, module):
    """Whether the versions that old has of a module are in new, too, with the same windows."""
    if old.versions(module) > new.versions(module):
        return False
    return all([old.window(module, used, version) == new.window(module, used, version)
                for used in old.uses(module) for version in range(old.versions(module))])


def brings_none_back(old, new, module):
    """Whether what is withdrawn in old is withdrawn in new."""
    return all([old.is_available(module, version) for version in new.available(module)
                if version < old.versions(module)])


def can_arise(old, new):
    if not has_same_modules(old, new):
        return False
    return all([has_all_versions(old, new, module) and brings_none_back(old, new, module)
                for module in old.modules()])


def compare(old, new):
    if not can_arise(old, new):
        raise InvalidChange("the second catalog does not arise from the first one")
    old_rows = step_rows(old)
    old_steps = steps_of(old_rows)
    kept = []
    glued = []
    added = []
    for step, start, end in step_rows(new):
        if step in old_steps:
            kept.append(step)
        elif is_state(old, start) and is_state(old, end):
            glued.append((step, steps_of(rows_between(old_rows, start, end))))
        else:
            added.append(step)
    used = kept + [part for step, parts in glued for part in parts]
    return (kept, glued, added, [step for step in old_steps if step not in used])
